/- Labels: which names and values may be, sets, their texts, their order. Mathematics alone. -/
import Derived.Lib.Bytealg
import Derived.Lib.Strings
namespace Go.Proofs.YtmhekhilgllciaaGreat

abbrev Lab := ByteArray × ByteArray
abbrev Bs := List UInt8

def letC (c : UInt8) : Bool := decide (97 ≤ c.toNat ∧ c.toNat ≤ 122 ∨ 65 ≤ c.toNat ∧ c.toNat ≤ 90)
def digC (c : UInt8) : Bool := decide (48 ≤ c.toNat ∧ c.toNat ≤ 57)
def wrdC (c : UInt8) : Bool := letC c || digC c || c == 95
def visC (c : UInt8) : Bool := decide (32 ≤ c.toNat ∧ c.toNat ≤ 126)
def nameC (s : Bs) : Bool := decide (1 ≤ s.length) && decide (s.length ≤ 64) && !digC (s.headD 48) && s.all wrdC
def valC (s : Bs) : Bool := decide (1 ≤ s.length) && decide (s.length ≤ 64) && s.all visC
def labC (l : Lab) : Bool := nameC l.1.data.toList && valC l.2.data.toList

/-- byte by byte -/
def lessB : Bs → Bs → Bool
  | _, [] => false
  | [], _ :: _ => true
  | a :: as, b :: bs => decide (a < b) || (a == b && lessB as bs)
theorem lessB_irrefl : ∀ a, lessB a a = false
  | [] => rfl
  | a :: as => by simp [lessB, lessB_irrefl as]
theorem lessB_trans : ∀ a b c, lessB a b = true → lessB b c = true → lessB a c = true
  | [], [], _, h, _ => by simp [lessB] at h
  | [], _ :: _, [], _, h => by simp [lessB] at h
  | [], _ :: _, _ :: _, _, _ => rfl
  | _ :: _, [], _, h, _ => by simp [lessB] at h
  | _ :: _, _ :: _, [], _, h => by simp [lessB] at h
  | a :: as, b :: bs, c :: cs, h, g => by
    simp only [lessB, Bool.or_eq_true, decide_eq_true_eq, Bool.and_eq_true, beq_iff_eq] at h g ⊢
    rcases h with h | ⟨rfl, h⟩
    · rcases g with g | ⟨rfl, g⟩
      · exact .inl (UInt8.lt_trans h g)
      · exact .inl h
    · rcases g with g | ⟨rfl, g⟩
      · exact .inl g
      · exact .inr ⟨rfl, lessB_trans as bs cs h g⟩
theorem lessB_tri : ∀ a b, lessB a b = false → lessB b a = false → a = b
  | [], [], _, _ => rfl
  | [], _ :: _, h, _ => by simp [lessB] at h
  | _ :: _, [], _, h => by simp [lessB] at h
  | a :: as, b :: bs, h, g => by
    simp only [lessB, Bool.or_eq_false_iff, decide_eq_false_iff_not, Bool.and_eq_false_iff, beq_eq_false_iff_ne] at h g
    have e : a = b := UInt8.le_antisymm (UInt8.not_lt.1 g.1) (UInt8.not_lt.1 h.1)
    subst e
    have h2 := h.2.resolve_left (fun x => x rfl)
    have g2 := g.2.resolve_left (fun x => x rfl)
    rw [lessB_tri as bs h2 g2]
theorem lessB_asymm {a b : Bs} (h : lessB a b = true) : lessB b a = false := by
  cases e : lessB b a with
  | false => rfl
  | true => have := lessB_trans _ _ _ h e; rw [lessB_irrefl] at this; cases this
theorem lessB_cmp : ∀ a b, lessB a b = decide (Lib.compareBytes a b < 0)
  | [], [] => rfl
  | [], _ :: _ => rfl
  | _ :: _, [] => rfl
  | a :: as, b :: bs => by
    unfold lessB Lib.compareBytes
    rw [lessB_cmp as bs]
    by_cases h : a < b
    · simp [h]
    · by_cases g : b < a
      · have hne : ¬ a = b := fun e => by subst e; exact UInt8.lt_irrefl _ g
        simp [h, g, hne]
      · have e : a = b := UInt8.le_antisymm (UInt8.not_lt.1 g) (UInt8.not_lt.1 h)
        simp [e]
theorem cmp_zero : ∀ a b, Lib.compareBytes a b = 0 ↔ a = b
  | [], [] => by simp [Lib.compareBytes]
  | [], _ :: _ => by simp [Lib.compareBytes]
  | _ :: _, [] => by simp [Lib.compareBytes]
  | a :: as, b :: bs => by
    unfold Lib.compareBytes
    by_cases h : a < b
    · have hne : ¬ a = b := fun e => by subst e; exact UInt8.lt_irrefl _ h
      simp [h, hne]
    · by_cases g : b < a
      · have hne : ¬ a = b := fun e => by subst e; exact UInt8.lt_irrefl _ g
        simp [h, g, hne]
      · have e : a = b := UInt8.le_antisymm (UInt8.not_lt.1 g) (UInt8.not_lt.1 h)
        simp [e, cmp_zero as bs]
theorem cmp_tri (a b : Bs) : Lib.compareBytes a b = -1 ∨ Lib.compareBytes a b = 0 ∨ Lib.compareBytes a b = 1 := by
  match a, b with
  | [], [] => exact .inr (.inl rfl)
  | [], _ :: _ => exact .inl rfl
  | _ :: _, [] => exact .inr (.inr rfl)
  | a :: as, b :: bs =>
    unfold Lib.compareBytes
    split
    · exact .inl rfl
    · split
      · exact .inr (.inr rfl)
      · exact cmp_tri as bs

/-- by names -/
def ltL (a b : Lab) : Bool := lessB a.1.data.toList b.1.data.toList
theorem bytes_ext {a b : ByteArray} (h : a.data.toList = b.data.toList) : a = b := by
  cases a; cases b; congr; exact Array.toList_inj.1 h
theorem ltL_irrefl (a : Lab) : ltL a a = false := lessB_irrefl _
theorem ltL_trans {a b c : Lab} (h : ltL a b = true) (g : ltL b c = true) : ltL a c = true := lessB_trans _ _ _ h g
theorem ltL_tri {a b : Lab} (h : ltL a b = false) (g : ltL b a = false) : a.1 = b.1 := bytes_ext (lessB_tri _ _ h g)
theorem ltL_asymm {a b : Lab} (h : ltL a b = true) : ltL b a = false := lessB_asymm h
theorem ltL_ne {a b : Lab} (h : ltL a b = true) : a.1 ≠ b.1 := by
  intro e; unfold ltL at h; rw [e, lessB_irrefl] at h; cases h

/-- what is asked of place i of a set -/
def okAt (ls : List Lab) (i : Nat) : Bool :=
  match ls[i]? with
  | none => true
  | some l => labC l && (match i with | 0 => true | j + 1 => match ls[j]? with | none => true | some p => ltL p l)
def rightC (ls : List Lab) : Bool := decide (ls.length ≤ 8) && (List.range ls.length).all (okAt ls)

theorem okAt_zero (ls : List Lab) (h : 0 < ls.length) : okAt ls 0 = labC ls[0] := by simp [okAt, h]
theorem okAt_succ (ls : List Lab) (j : Nat) (h : j + 1 < ls.length) : okAt ls (j + 1) = (labC ls[j + 1] && ltL ls[j] ls[j + 1]) := by
  simp [okAt, h, show j < ls.length by omega]
/-- ascending -/
def Asc (ls : List Lab) : Prop := ls.Pairwise fun a b => ltL a b = true
theorem asc_of_adj : ∀ (ls : List Lab), (∀ j, (h : j + 1 < ls.length) → ltL ls[j] ls[j + 1] = true) → Asc ls
  | [], _ => List.Pairwise.nil
  | a :: ls, h => by
    have ih := asc_of_adj ls (fun j hj => h (j + 1) (by simp; omega))
    refine List.Pairwise.cons (fun b hb => ?_) ih
    cases ls with
    | nil => cases hb
    | cons c ls =>
      have hac : ltL a c = true := h 0 (by simp)
      rcases List.mem_cons.1 hb with rfl | hb
      · exact hac
      · exact ltL_trans hac ((List.pairwise_cons.1 ih).1 b hb)
theorem rightC_iff (ls : List Lab) : rightC ls = true ↔ ls.length ≤ 8 ∧ (∀ l ∈ ls, labC l = true) ∧ Asc ls := by
  constructor
  · intro h
    simp only [rightC, Bool.and_eq_true, decide_eq_true_eq, List.all_eq_true, List.mem_range] at h
    refine ⟨h.1, fun l hl => ?_, asc_of_adj ls fun j hj => ?_⟩
    · obtain ⟨i, hi, rfl⟩ := List.getElem_of_mem hl
      have := h.2 i hi
      match i, hi, this with
      | 0, hi, this => rwa [okAt_zero ls hi] at this
      | j + 1, hi, this => rw [okAt_succ ls j hi] at this; simp only [Bool.and_eq_true] at this; exact this.1
    · have := h.2 (j + 1) hj
      rw [okAt_succ ls j hj] at this; simp only [Bool.and_eq_true] at this; exact this.2
  · rintro ⟨h1, h2, h3⟩
    simp only [rightC, Bool.and_eq_true, decide_eq_true_eq, List.all_eq_true, List.mem_range]
    refine ⟨h1, fun i hi => ?_⟩
    match i, hi with
    | 0, hi => rw [okAt_zero ls hi]; exact h2 _ (List.getElem_mem _)
    | j + 1, hi =>
      rw [okAt_succ ls j hi, h2 _ (List.getElem_mem _), Bool.true_and]
      exact List.pairwise_iff_getElem.1 h3 j (j + 1) (by omega) hi (by omega)
theorem rightC_okAt {ls : List Lab} (h : rightC ls = true) : ls.length ≤ 8 ∧ ∀ i, i < ls.length → okAt ls i = true := by
  simpa [rightC] using h
theorem first_not (p : Nat → Bool) : ∀ n, (¬ ∀ i, i < n → p i = true) → ∃ j, j < n ∧ p j = false ∧ ∀ k, k < j → p k = true
  | 0, h => absurd (fun i hi => absurd hi (by omega)) h
  | n + 1, h => by
    by_cases hn : ∀ i, i < n → p i = true
    · refine ⟨n, by omega, ?_, hn⟩
      rw [← Bool.not_eq_true]
      intro e
      refine h fun i hi => ?_
      rcases Nat.lt_or_ge i n with g | g
      · exact hn i g
      · obtain rfl : i = n := by omega
        exact e
    · obtain ⟨j, hj, hp, ha⟩ := first_not p n hn
      exact ⟨j, by omega, hp, ha⟩
theorem rightC_bad {ls : List Lab} (h : rightC ls = false) (hl : ls.length ≤ 8) : ∃ j, j < ls.length ∧ okAt ls j = false ∧ ∀ k, k < j → okAt ls k = true := by
  refine first_not _ _ fun hall => ?_
  have : rightC ls = true := by simpa [rightC] using ⟨hl, hall⟩
  rw [h] at this; cases this

/-- a value in quotes, without them -/
def quoteL (v : Bs) : Bs := v.flatMap fun c => if c = 34 ∨ c = 92 then [92, c] else [c]
def labT (l : Lab) : Bs := l.1.data.toList ++ 61 :: 34 :: (quoteL l.2.data.toList ++ [34])
def bodyT : List Lab → Bs
  | [] => []
  | l :: r => labT l ++ r.flatMap fun x => 44 :: labT x
theorem bodyT_snoc (ls : List Lab) (x : Lab) : bodyT (ls ++ [x]) = bodyT ls ++ (if ls = [] then [] else [44]) ++ labT x := by
  cases ls with
  | nil => simp [bodyT]
  | cons l r => simp [bodyT]
def textL (ls : List Lab) : Bs := 123 :: (bodyT ls ++ [125])
theorem quoteL_len (v : Bs) : (quoteL v).length ≤ 2 * v.length := by
  induction v with
  | nil => simp [quoteL]
  | cons c v ih =>
    have e : quoteL (c :: v) = (if c = 34 ∨ c = 92 then [92, c] else [c]) ++ quoteL v := rfl
    rw [e, List.length_append, List.length_cons]
    split <;> simp <;> omega
theorem labT_len (l : Lab) (h : labC l = true) : (labT l).length ≤ 195 := by
  simp only [labC, nameC, valC, Bool.and_eq_true, decide_eq_true_eq] at h
  have := quoteL_len l.2.data.toList
  simp only [labT, List.length_append, List.length_cons, List.length_nil]
  omega
theorem bodyT_len (ls : List Lab) (h : ∀ l ∈ ls, labC l = true) : (bodyT ls).length ≤ ls.length * 196 := by
  cases ls with
  | nil => simp [bodyT]
  | cons l r =>
    have h0 := labT_len l (h l (by simp))
    have h1 : ∀ (r : List Lab), (∀ l ∈ r, labC l = true) → (r.flatMap fun x => 44 :: labT x).length ≤ r.length * 196 := by
      intro r
      induction r with
      | nil => simp
      | cons x r ih =>
        intro hr
        have := ih fun l hl => hr l (by simp [hl])
        have hx := labT_len x (hr x (by simp))
        simp only [List.flatMap_cons, List.length_append, List.length_cons] at *
        omega
    have := h1 r fun x hx => h x (by simp [hx])
    simp only [bodyT, List.length_append, List.length_cons] at *
    omega
end Go.Proofs.YtmhekhilgllciaaGreat
