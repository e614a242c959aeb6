/- Labels in order: mathematics alone. -/
import Derived.Test.YtdlhmjdjoadioabGreatDoorLabM
namespace Go.Proofs.YtdlhmjdjoadioabGreatDoor

/-- in order: no later one is below an earlier one -/
def WS (ls : List Lab) : Prop := ls.Pairwise fun a b => ltL b a = false
theorem WS.of_asc {ls : List Lab} (h : Asc ls) : WS ls := h.imp fun h => ltL_asymm h
theorem asc_uniq : ∀ (xs ys : List Lab), Asc xs → WS ys → ys.Perm xs → ys = xs
  | [], ys, _, _, h => List.Perm.eq_nil h
  | x :: xs, [], _, _, h => absurd h.symm (by intro h; exact absurd (List.Perm.eq_nil h) (by simp))
  | x :: xs, y :: ys, hx, hy, h => by
    obtain ⟨hx1, hx2⟩ := List.pairwise_cons.1 hx
    obtain ⟨hy1, hy2⟩ := List.pairwise_cons.1 hy
    have hyx : y = x := by
      have hm : y ∈ x :: xs := h.subset (by simp)
      rcases List.mem_cons.1 hm with rfl | hm
      · rfl
      · have hlt := hx1 y hm
        have hm2 : x ∈ y :: ys := h.symm.subset (by simp)
        rcases List.mem_cons.1 hm2 with e | hm2
        · exact e.symm
        · have := hy1 x hm2
          rw [hlt] at this; cases this
    subst hyx
    rw [asc_uniq xs ys hx2 hy2 ((List.perm_cons y).1 h)]
def sortL (ls : List Lab) : List Lab := ls.mergeSort fun a b => !ltL b a
theorem sortL_perm (ls : List Lab) : (sortL ls).Perm ls := List.mergeSort_perm _ _
theorem ltL_ntrans {a b c : Lab} (h : ltL a b = false) (g : ltL b c = false) : ltL a c = false := by
  cases e : ltL a c with
  | false => rfl
  | true =>
    cases e2 : ltL b a with
    | true => have := ltL_trans e2 e; rw [g] at this; cases this
    | false =>
      have := ltL_tri h e2
      unfold ltL at e g
      rw [this] at e
      rw [e] at g; cases g
theorem sortL_ws (ls : List Lab) : WS (sortL ls) := by
  have h := List.pairwise_mergeSort (le := fun a b => !ltL b a) (by
    intro a b c h g
    simp only [Bool.not_eq_true'] at *
    exact ltL_ntrans g h) (by
    intro a b
    cases e : ltL b a with
    | false => simp
    | true => simp [ltL_asymm e]) ls
  exact h.imp fun h => by simpa using h
theorem sort_right {ls out : List Lab} (hp : out.Perm ls) (hs : WS out) (hl : ∀ l ∈ ls, labC l = true) (h8 : ls.length ≤ 8) : (rightC out = rightC (sortL ls)) ∧ (rightC out = true → out = sortL ls) := by
  have hl1 : ∀ l ∈ out, labC l = true := fun l h => hl l (hp.subset h)
  have hl2 : ∀ l ∈ sortL ls, labC l = true := fun l h => hl l ((sortL_perm ls).subset h)
  have h1 : out.length ≤ 8 := by rw [hp.length_eq]; exact h8
  have h2 : (sortL ls).length ≤ 8 := by rw [(sortL_perm ls).length_eq]; exact h8
  have hpp : out.Perm (sortL ls) := hp.trans (sortL_perm ls).symm
  have key : rightC out = true → out = sortL ls := fun h =>
    (asc_uniq out (sortL ls) ((rightC_iff out).1 h).2.2 (sortL_ws ls) hpp.symm).symm
  refine ⟨?_, key⟩
  rw [Bool.eq_iff_iff]
  constructor
  · intro h; rw [← key h]; exact h
  · intro h
    have := asc_uniq (sortL ls) out ((rightC_iff _).1 h).2.2 hs hpp
    rw [this]; exact h
def newP (ls : List Lab) : List Lab × Int :=
  if ls.length ≤ 8 then
    if (ls.all labC) = true then
      if rightC (sortL ls) = true then (sortL ls, 0) else ([], 10)
    else ([], 1)
  else ([], 2)
/-- the first two neighbours of one name, in a row that is in order -/
theorem ws_adj {ls : List Lab} (h : WS ls) (hl : ∀ l ∈ ls, labC l = true) (h8 : ls.length ≤ 8) :
    ∃ J, J ≤ ls.length ∧ (∀ k (_h : k + 1 < ls.length) (_h2 : k + 1 < J ∨ J = ls.length), ls[k].1 ≠ ls[k + 1].1) ∧ (J = ls.length ∧ rightC ls = true ∨ ∃ m, ∃ hm : m + 1 < ls.length, J = m + 1 ∧ ls[m].1 = ls[m + 1].1 ∧ rightC ls = false) := by
  by_cases ha : ∀ k (hk : k + 1 < ls.length), ls[k].1 ≠ ls[k + 1].1
  · refine ⟨ls.length, Nat.le_refl _, fun k hk _ => ha k hk, .inl ⟨rfl, (rightC_iff ls).2 ⟨h8, hl, asc_of_adj ls fun j hj => ?_⟩⟩⟩
    have h1 := List.pairwise_iff_getElem.1 h j (j + 1) (by omega) hj (by omega)
    cases e : ltL ls[j] ls[j + 1] with
    | true => rfl
    | false => exact absurd (ltL_tri e h1) (ha j hj)
  · obtain ⟨j, hj, hb, hall⟩ := first_not (fun k => if h : k + 1 < ls.length then decide (ls[k].1 ≠ ls[k + 1].1) else true) ls.length (fun hall => ha fun k hk => by
      have := hall k (by omega)
      simp only [hk, dite_true, decide_eq_true_eq] at this
      exact this)
    have hj1 : j + 1 < ls.length := by
      rcases Nat.lt_or_ge (j + 1) ls.length with g | g
      · exact g
      · have : ¬ j + 1 < ls.length := by omega
        simp [this] at hb
    have hne : ls[j].1 = ls[j + 1].1 := by simpa [hj1] using hb
    refine ⟨j + 1, by omega, fun k hk hkJ => ?_, .inr ⟨j, hj1, rfl, hne, ?_⟩⟩
    · rcases hkJ with hkJ | hkJ
      · have := hall k (by omega)
        simpa [hk] using this
      · omega
    · rw [← Bool.not_eq_true]
      intro hr
      have := List.pairwise_iff_getElem.1 ((rightC_iff ls).1 hr).2.2 j (j + 1) (by omega) hj1 (by omega)
      exact ltL_ne this hne
end Go.Proofs.YtdlhmjdjoadioabGreatDoor
/- What is laid over: mathematics alone. -/
namespace Go.Proofs.YtdlhmjdjoadioabGreatDoor

def hasN (ms : List Lab) (s : ByteArray) : Bool := ms.any fun m => decide (m.1 = s)
theorem hasN_iff (ms : List Lab) (s : ByteArray) : hasN ms s = true ↔ ∃ m ∈ ms, m.1 = s := by simp [hasN, List.any_eq_true]
def restL (ls ms : List Lab) : List Lab := ls.filter fun l => !hasN ms l.1
theorem restL_take (ls ms : List Lab) (k : Nat) (h : k < ls.length) : restL (ls.take (k + 1)) ms = restL (ls.take k) ms ++ (if hasN ms ls[k].1 = true then [] else [ls[k]]) := by
  rw [List.take_succ_eq_append_getElem h, restL, List.filter_append]
  congr 1
  cases hq : hasN ms ls[k].1 <;> simp [hq]
theorem restL_len (ls ms : List Lab) : (restL ls ms).length ≤ ls.length := List.length_filter_le _ _
def withP (ls ms : List Lab) : List Lab × Int := if rightC ls = true then if rightC ms = true then newP (restL ls ms ++ ms) else ([], 1) else ([], 1)

end Go.Proofs.YtdlhmjdjoadioabGreatDoor
/- Blocks: which words, values and blocks may be, their text, what is the same, a key's value. Mathematics alone. -/
namespace Go.Proofs.YtdlhmjdjoadioabGreatDoor

structure Dfn where
  kind : ByteArray
  keys : List ByteArray
  vals : List ByteArray

def bwB (c : UInt8) : Bool := decide (97 ≤ c.toNat ∧ c.toNat ≤ 122 ∨ 48 ≤ c.toNat ∧ c.toNat ≤ 57 ∨ c.toNat = 95)
def bvB (c : UInt8) : Bool := decide (32 ≤ c.toNat ∧ c.toNat ≤ 126 ∧ c.toNat ≠ 59)
def bwC (s : Bs) : Bool := decide (1 ≤ s.length) && decide (s.length ≤ 64) && s.all bwB
/-- the first byte and the last one: no blank -/
def bvE (s : Bs) : Bool := !decide ((s.getD 0 0).toNat = 32) && !decide ((s.getD (s.length - 1) 0).toNat = 32)
def bvC (s : Bs) : Bool := decide (1 ≤ s.length) && decide (s.length ≤ 200) && bvE s && s.all bvB
def memB (k : ByteArray) (l : List ByteArray) : Bool := l.any fun x => decide (x = k)
theorem memB_iff (k : ByteArray) (l : List ByteArray) : memB k l = true ↔ k ∈ l := by
  unfold memB
  rw [List.any_eq_true]
  constructor
  · rintro ⟨x, hx, e⟩; rw [decide_eq_true_eq] at e; subst e; exact hx
  · intro h; exact ⟨k, h, by simp⟩
/-- what is asked of place i of a block's keys -/
def okD (ks vs : List ByteArray) (i : Nat) : Bool :=
  match ks[i]?, vs[i]? with
  | some k, some v => bwC k.data.toList && !memB k (ks.take i) && bvC v.data.toList
  | _, _ => true
theorem okD_at (ks vs : List ByteArray) (i : Nat) (h : i < ks.length) (h2 : i < vs.length) : okD ks vs i = (bwC ks[i].data.toList && !memB ks[i] (ks.take i) && bvC vs[i].data.toList) := by
  simp [okD, h, h2]
def keysC (ks vs : List ByteArray) : Bool := (List.range ks.length).all (okD ks vs)
def defC (d : Dfn) : Bool := bwC d.kind.data.toList && decide (d.keys.length ≤ 64) && decide (d.keys.length = d.vals.length) && keysC d.keys d.vals
def defsC (ds : List Dfn) : Bool := decide (ds.length ≤ 64) && ds.all defC
/-- where a walk over the keys ends -/
theorem keys_end (ks vs : List ByteArray) : ∃ J, J ≤ ks.length ∧ (∀ k (_h : k < J), okD ks vs k = true) ∧ (J = ks.length ∧ keysC ks vs = true ∨ J < ks.length ∧ okD ks vs J = false ∧ keysC ks vs = false) := by
  cases h : keysC ks vs with
  | true => exact ⟨ks.length, Nat.le_refl _, by simpa [keysC] using h, .inl ⟨rfl, rfl⟩⟩
  | false =>
    obtain ⟨j, hj, hb, ha⟩ := first_not (okD ks vs) ks.length (fun hall => by
      have : keysC ks vs = true := by simpa [keysC] using hall
      rw [h] at this; cases this)
    exact ⟨j, by omega, ha, .inr ⟨hj, hb, rfl⟩⟩
theorem bwC_size {s : ByteArray} (h : bwC s.data.toList = true) : 1 ≤ s.size ∧ s.size ≤ 64 := by
  have e : s.data.toList.length = s.size := by simp
  simp only [bwC, Bool.and_eq_true, decide_eq_true_eq] at h
  omega
theorem bvC_size {s : ByteArray} (h : bvC s.data.toList = true) : 1 ≤ s.size ∧ s.size ≤ 200 := by
  have e : s.data.toList.length = s.size := by simp
  simp only [bvC, Bool.and_eq_true, decide_eq_true_eq] at h
  omega
theorem defC_iff (d : Dfn) : defC d = true ↔ bwC d.kind.data.toList = true ∧ d.keys.length ≤ 64 ∧ d.keys.length = d.vals.length ∧ ∀ i, i < d.keys.length → okD d.keys d.vals i = true := by
  simp [defC, keysC, and_assoc]

/-- a key's line -/
def lineD (k v : Bs) : Bs := 9 :: (k ++ 9 :: (v ++ [10]))
def keysT : List ByteArray → List ByteArray → Bs
  | k :: ks, v :: vs => lineD k.data.toList v.data.toList ++ keysT ks vs
  | _, _ => []
def headT (k : Bs) : Bs := [100, 101, 102, 105, 110, 101, 32] ++ k ++ [32, 123, 10]
def defT (d : Dfn) : Bs := headT d.kind.data.toList ++ keysT d.keys d.vals ++ [125, 10]
def defsT (ds : List Dfn) : Bs := ds.flatMap defT
theorem keysT_snoc : ∀ (ks vs : List ByteArray) (k v : ByteArray), ks.length = vs.length → keysT (ks ++ [k]) (vs ++ [v]) = keysT ks vs ++ lineD k.data.toList v.data.toList
  | [], [], k, v, _ => by simp [keysT]
  | [], _ :: _, _, _, h => by simp at h
  | _ :: _, [], _, _, h => by simp at h
  | a :: ks, b :: vs, k, v, h => by
    have ih := keysT_snoc ks vs k v (by simpa using h)
    simp [keysT, ih]
theorem keysT_take (ks vs : List ByteArray) (i : Nat) (h : i < ks.length) (h2 : i < vs.length) : keysT (ks.take (i + 1)) (vs.take (i + 1)) = keysT (ks.take i) (vs.take i) ++ lineD ks[i].data.toList vs[i].data.toList := by
  rw [List.take_succ_eq_append_getElem h, List.take_succ_eq_append_getElem h2, keysT_snoc _ _ _ _ (by simp; omega)]
theorem defsT_snoc (ds : List Dfn) (d : Dfn) : defsT (ds ++ [d]) = defsT ds ++ defT d := by simp [defsT]
theorem lineD_len (k v : Bs) : (lineD k v).length = k.length + v.length + 3 := by simp [lineD]; omega
theorem keysT_len : ∀ (ks vs : List ByteArray), (∀ k ∈ ks, k.size ≤ 70) → (∀ v ∈ vs, v.size ≤ 205) → (keysT ks vs).length ≤ ks.length * 278
  | [], _, _, _ => by simp [keysT]
  | _ :: _, [], _, _ => by simp [keysT]
  | k :: ks, v :: vs, h, g => by
    have ih := keysT_len ks vs (fun x hx => h x (List.mem_cons_of_mem _ hx)) (fun x hx => g x (List.mem_cons_of_mem _ hx))
    have h1 := h k (by simp)
    have h2 := g v (by simp)
    have e1 : k.data.toList.length = k.size := by simp
    have e2 : v.data.toList.length = v.size := by simp
    simp only [keysT, List.length_append, lineD_len, List.length_cons]
    omega
theorem okD_sizes {ks vs : List ByteArray} (hl : ks.length = vs.length) (h : ∀ i, i < ks.length → okD ks vs i = true) : (∀ k ∈ ks, k.size ≤ 70) ∧ (∀ v ∈ vs, v.size ≤ 205) := by
  constructor
  · intro k hk
    obtain ⟨i, hi, rfl⟩ := List.getElem_of_mem hk
    have := h i hi
    rw [okD_at ks vs i hi (by omega)] at this
    simp only [Bool.and_eq_true] at this
    have := bwC_size this.1.1
    omega
  · intro v hv
    obtain ⟨i, hi, rfl⟩ := List.getElem_of_mem hv
    have := h i (by omega)
    rw [okD_at ks vs i (by omega) hi] at this
    simp only [Bool.and_eq_true] at this
    have := bvC_size this.2
    omega
theorem defT_len {d : Dfn} (h : defC d = true) : (defT d).length ≤ 20000 := by
  obtain ⟨h1, h2, h3, h4⟩ := (defC_iff d).1 h
  obtain ⟨g1, g2⟩ := okD_sizes h3 h4
  have := keysT_len d.keys d.vals g1 g2
  have h5 := bwC_size h1
  have e : d.kind.data.toList.length = d.kind.size := by simp
  simp only [defT, headT, List.length_append, List.length_cons, List.length_nil]
  omega
theorem defsT_len : ∀ (ds : List Dfn), (∀ d ∈ ds, defC d = true) → (defsT ds).length ≤ ds.length * 20000
  | [], _ => by simp [defsT]
  | d :: ds, h => by
    have ih := defsT_len ds (fun x hx => h x (List.mem_cons_of_mem _ hx))
    have := defT_len (h d (by simp))
    have e : defsT (d :: ds) = defT d ++ defsT ds := by simp [defsT]
    rw [e, List.length_append, List.length_cons]
    omega

/-- whether two are the same -/
def likeD (a b : Dfn) : Bool := decide (a.kind = b.kind) && decide (a.keys = b.keys) && decide (a.vals = b.vals)
theorem likeD_iff (a b : Dfn) : likeD a b = true ↔ a = b := by
  cases a; cases b
  simp [likeD, and_assoc]
def likeDs : List Dfn → List Dfn → Bool
  | [], [] => true
  | a :: as, b :: bs => likeD a b && likeDs as bs
  | _, _ => false
theorem likeDs_iff : ∀ a b : List Dfn, likeDs a b = true ↔ a = b
  | [], [] => by simp [likeDs]
  | [], _ :: _ => by simp [likeDs]
  | _ :: _, [] => by simp [likeDs]
  | a :: as, b :: bs => by simp [likeDs, likeD_iff, likeDs_iff as bs]

/-- the first place of a key -/
def keyI (ks : List ByteArray) (k : ByteArray) : Option Nat := ks.findIdx? fun x => decide (x = k)
/-- a key's value, where there is one -/
def getV (d : Dfn) (k : ByteArray) : Option ByteArray := match keyI d.keys k with | none => none | some i => d.vals[i]?
end Go.Proofs.YtdlhmjdjoadioabGreatDoor
