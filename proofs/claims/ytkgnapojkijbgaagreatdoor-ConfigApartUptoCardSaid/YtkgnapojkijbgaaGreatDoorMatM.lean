/- Matchers: which words and matchers may be, whether one holds of a set. Mathematics alone. -/
import Derived.Test.YtkgnapojkijbgaaGreatDoorLabM
namespace Go.Proofs.YtkgnapojkijbgaaGreatDoor

structure Mat where
  name : ByteArray
  how : Int
  words : List ByteArray

def wordB (c : UInt8) : Bool := letC c || digC c || (c == 95 || c == 45 || c == 46 || c == 47 || c == 58)
def wordC (s : Bs) : Bool := decide (s.length ≤ 64) && s.all wordB
def ltW (a b : ByteArray) : Bool := lessB a.data.toList b.data.toList
/-- what is asked of place i of a row of words -/
def okW (ws : List ByteArray) (i : Nat) : Bool :=
  match ws[i]? with
  | none => true
  | some x => wordC x.data.toList && (match i with | 0 => true | j + 1 => match ws[j]? with | none => true | some p => ltW p x)
def wordsC (ws : List ByteArray) : Bool := (List.range ws.length).all (okW ws)
theorem okW_zero (ws : List ByteArray) (h : 0 < ws.length) : okW ws 0 = wordC ws[0].data.toList := by simp [okW, h]
theorem okW_succ (ws : List ByteArray) (j : Nat) (h : j + 1 < ws.length) : okW ws (j + 1) = (wordC ws[j + 1].data.toList && ltW ws[j] ws[j + 1]) := by
  simp [okW, h, show j < ws.length by omega]
/-- where a walk over the words ends -/
theorem words_end (ws : List ByteArray) : ∃ J, J ≤ ws.length ∧ (∀ k (_h : k < J), okW ws k = true) ∧ (J = ws.length ∧ wordsC ws = true ∨ J < ws.length ∧ okW ws J = false ∧ wordsC ws = false) := by
  cases h : wordsC ws with
  | true => exact ⟨ws.length, Nat.le_refl _, by simpa [wordsC] using h, .inl ⟨rfl, rfl⟩⟩
  | false =>
    obtain ⟨j, hj, hb, ha⟩ := first_not (okW ws) ws.length (fun hall => by
      have : wordsC ws = true := by simpa [wordsC] using hall
      rw [h] at this; cases this)
    exact ⟨j, by omega, ha, .inr ⟨hj, hb, rfl⟩⟩
theorem wordsC_iff (ws : List ByteArray) : wordsC ws = true ↔ (∀ s ∈ ws, wordC s.data.toList = true) ∧ ws.Pairwise fun a b => ltW a b = true := by
  have ht : ∀ {a b c : ByteArray}, ltW a b = true → ltW b c = true → ltW a c = true := fun h g => lessB_trans _ _ _ h g
  constructor
  · intro h
    have h' : ∀ i, i < ws.length → okW ws i = true := by simpa [wordsC] using h
    refine ⟨fun s hs => ?_, ?_⟩
    · obtain ⟨i, hi, rfl⟩ := List.getElem_of_mem hs
      have := h' i hi
      match i, hi, this with
      | 0, hi, this => rwa [okW_zero ws hi] at this
      | j + 1, hi, this => rw [okW_succ ws j hi] at this; simp only [Bool.and_eq_true] at this; exact this.1
    · have adj : ∀ j, (hj : j + 1 < ws.length) → ltW ws[j] ws[j + 1] = true := fun j hj => by
        have := h' (j + 1) hj
        rw [okW_succ ws j hj] at this; simp only [Bool.and_eq_true] at this; exact this.2
      clear h h'
      induction ws with
      | nil => exact List.Pairwise.nil
      | cons a ws ih =>
        have ih := ih fun j hj => adj (j + 1) (by simp; omega)
        refine List.Pairwise.cons (fun b hb => ?_) ih
        cases ws with
        | nil => cases hb
        | cons c ws =>
          have hac : ltW a c = true := adj 0 (by simp)
          rcases List.mem_cons.1 hb with rfl | hb
          · exact hac
          · exact ht hac ((List.pairwise_cons.1 ih).1 b hb)
  · rintro ⟨h2, h3⟩
    simp only [wordsC, List.all_eq_true, List.mem_range]
    intro i hi
    match i, hi with
    | 0, hi => rw [okW_zero ws hi]; exact h2 _ (List.getElem_mem _)
    | j + 1, hi =>
      rw [okW_succ ws j hi, h2 _ (List.getElem_mem _), Bool.true_and]
      exact List.pairwise_iff_getElem.1 h3 j (j + 1) (by omega) hi (by omega)

/-- how a matcher is written, how many words it has at the most, whether it holds of them -/
def signC (how : Int) : Option (Bs × Int × Bool) :=
  if how = 1 then some ([61], 1, true) else if how = 2 then some ([33, 61], 1, false) else if how = 3 then some ([61, 126], 8, true) else if how = 4 then some ([33, 126], 8, false) else none
theorem signC_cases (how : Int) : (how = 1 ∧ signC how = some ([61], 1, true)) ∨ (how = 2 ∧ signC how = some ([33, 61], 1, false)) ∨ (how = 3 ∧ signC how = some ([61, 126], 8, true)) ∨ (how = 4 ∧ signC how = some ([33, 126], 8, false)) ∨ ((how < 1 ∨ 4 < how) ∧ signC how = none) := by
  by_cases h1 : how = 1
  · subst h1; simp [signC]
  by_cases h2 : how = 2
  · subst h2; simp [signC]
  by_cases h3 : how = 3
  · subst h3; simp [signC]
  by_cases h4 : how = 4
  · subst h4; simp [signC]
  refine .inr (.inr (.inr (.inr ⟨by omega, by simp [signC, h1, h2, h3, h4]⟩)))

def rightMr (how : Int) (nm ws : Bool) (n : Nat) : Bool :=
  match signC how with
  | none => false
  | some (_, most, _) => nm && decide ((n : Int) ≤ most) && (ws && decide (1 ≤ n))
def knownC (how : Int) : Bool := (signC how).isSome
def mostC (how : Int) : Int := match signC how with | some (_, n, _) => n | none => 0
theorem rightMr_is (how : Int) (nm ws : Bool) (n : Nat) : rightMr how nm ws n = (knownC how && (nm && (decide ((n : Int) ≤ mostC how) && (ws && decide (1 ≤ n))))) := by
  unfold rightMr knownC mostC
  cases signC how with
  | none => rfl
  | some x => simp [Bool.and_assoc]
/-- which matchers may be -/
def rightM (m : Mat) : Bool := rightMr m.how (nameC m.name.data.toList) (wordsC m.words) m.words.length
def onesC (how : Int) : Bool := match signC how with | some (_, _, b) => b | none => false
def getW (ws : List ByteArray) (v : ByteArray) : Bool := ws.any fun s => decide (s = v)
/-- whether a matcher holds of a set -/
def holdsM (v : ByteArray) (m : Mat) : Bool := getW m.words v == onesC m.how
def joinW : List ByteArray → Bs
  | [] => []
  | s :: r => s.data.toList ++ r.flatMap fun x => 124 :: x.data.toList
def signT (how : Int) : Bs := match signC how with | some (t, _, _) => t | none => []
def textM (m : Mat) : Bs := m.name.data.toList ++ signT m.how ++ 34 :: (joinW m.words ++ [34])
def likeM (a b : Mat) : Bool := decide (a.name = b.name) && decide (a.how = b.how) && decide (a.words = b.words)
theorem rightM_iff (m : Mat) : rightM m = true ↔ nameC m.name.data.toList = true ∧ 1 ≤ m.how ∧ m.how ≤ 4 ∧ wordsC m.words = true ∧ 1 ≤ m.words.length ∧ m.words.length ≤ 8 ∧ (3 ≤ m.how ∨ m.words.length = 1) := by
  unfold rightM rightMr
  rcases signC_cases m.how with ⟨h, e⟩ | ⟨h, e⟩ | ⟨h, e⟩ | ⟨h, e⟩ | ⟨h, e⟩ <;> rw [e] <;> simp only [Bool.and_eq_true, decide_eq_true_eq, Bool.false_eq_true, false_iff] <;> (try constructor) <;> (try rintro ⟨⟨h1, h2⟩, h3, h4⟩) <;> (try rintro ⟨h1, h2, h3, h4, h5, h6, h7⟩) <;> (try refine ⟨?_, ?_, ?_, ?_, ?_, ?_, ?_⟩) <;> (try refine ⟨⟨?_, ?_⟩, ?_, ?_⟩) <;> first | assumption | omega
theorem wordsC_all {ws : List ByteArray} (h : wordsC ws = true) : ∀ x ∈ ws, wordC x.data.toList = true := by
  intro x hx
  obtain ⟨i, hi, rfl⟩ := List.getElem_of_mem hx
  have h' : okW ws i = true := by
    unfold wordsC at h
    exact List.all_eq_true.1 h i (List.mem_range.2 hi)
  unfold okW at h'
  rw [List.getElem?_eq_getElem hi] at h'
  simp only [Bool.and_eq_true] at h'
  exact h'.1
end Go.Proofs.YtkgnapojkijbgaaGreatDoor
