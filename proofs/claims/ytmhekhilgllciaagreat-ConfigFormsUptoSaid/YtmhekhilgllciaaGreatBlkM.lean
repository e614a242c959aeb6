/- Blocks: which words, values and blocks may be, their text, what is the same, a key's value. Mathematics alone. -/
import Derived.Test.YtmhekhilgllciaaGreatLabM
namespace Go.Proofs.YtmhekhilgllciaaGreat

structure Dfn where
  kind : ByteArray
  keys : List ByteArray
  vals : List ByteArray

def bwB (c : UInt8) : Bool := decide (97 ≤ c.toNat ∧ c.toNat ≤ 122 ∨ 48 ≤ c.toNat ∧ c.toNat ≤ 57 ∨ c.toNat = 95)
def bvB (c : UInt8) : Bool := decide (32 ≤ c.toNat ∧ c.toNat ≤ 126 ∧ c.toNat ≠ 59)
def bwC (s : Bs) : Bool := decide (1 ≤ s.length) && decide (s.length ≤ 64) && s.all bwB
/-- the first byte and the last one: no blank -/
def bvE (s : Bs) : Bool := !decide ((s.getD 0 0).toNat = 32) && !decide ((s.getD (s.length - 1) 0).toNat = 32)
def bvC (s : Bs) : Bool := decide (1 ≤ s.length) && decide (s.length ≤ 200) && bvE s && s.all bvB
def memB (k : ByteArray) (l : List ByteArray) : Bool := l.any fun x => decide (x = k)
theorem memB_iff (k : ByteArray) (l : List ByteArray) : memB k l = true ↔ k ∈ l := by
  unfold memB
  rw [List.any_eq_true]
  constructor
  · rintro ⟨x, hx, e⟩; rw [decide_eq_true_eq] at e; subst e; exact hx
  · intro h; exact ⟨k, h, by simp⟩
/-- what is asked of place i of a block's keys -/
def okD (ks vs : List ByteArray) (i : Nat) : Bool :=
  match ks[i]?, vs[i]? with
  | some k, some v => bwC k.data.toList && !memB k (ks.take i) && bvC v.data.toList
  | _, _ => true
theorem okD_at (ks vs : List ByteArray) (i : Nat) (h : i < ks.length) (h2 : i < vs.length) : okD ks vs i = (bwC ks[i].data.toList && !memB ks[i] (ks.take i) && bvC vs[i].data.toList) := by
  simp [okD, h, h2]
def keysC (ks vs : List ByteArray) : Bool := (List.range ks.length).all (okD ks vs)
def defC (d : Dfn) : Bool := bwC d.kind.data.toList && decide (d.keys.length ≤ 64) && decide (d.keys.length = d.vals.length) && keysC d.keys d.vals
def defsC (ds : List Dfn) : Bool := decide (ds.length ≤ 64) && ds.all defC
/-- where a walk over the keys ends -/
theorem keys_end (ks vs : List ByteArray) : ∃ J, J ≤ ks.length ∧ (∀ k (_h : k < J), okD ks vs k = true) ∧ (J = ks.length ∧ keysC ks vs = true ∨ J < ks.length ∧ okD ks vs J = false ∧ keysC ks vs = false) := by
  cases h : keysC ks vs with
  | true => exact ⟨ks.length, Nat.le_refl _, by simpa [keysC] using h, .inl ⟨rfl, rfl⟩⟩
  | false =>
    obtain ⟨j, hj, hb, ha⟩ := first_not (okD ks vs) ks.length (fun hall => by
      have : keysC ks vs = true := by simpa [keysC] using hall
      rw [h] at this; cases this)
    exact ⟨j, by omega, ha, .inr ⟨hj, hb, rfl⟩⟩
theorem bwC_size {s : ByteArray} (h : bwC s.data.toList = true) : 1 ≤ s.size ∧ s.size ≤ 64 := by
  have e : s.data.toList.length = s.size := by simp
  simp only [bwC, Bool.and_eq_true, decide_eq_true_eq] at h
  omega
theorem bvC_size {s : ByteArray} (h : bvC s.data.toList = true) : 1 ≤ s.size ∧ s.size ≤ 200 := by
  have e : s.data.toList.length = s.size := by simp
  simp only [bvC, Bool.and_eq_true, decide_eq_true_eq] at h
  omega
theorem defC_iff (d : Dfn) : defC d = true ↔ bwC d.kind.data.toList = true ∧ d.keys.length ≤ 64 ∧ d.keys.length = d.vals.length ∧ ∀ i, i < d.keys.length → okD d.keys d.vals i = true := by
  simp [defC, keysC, and_assoc]

/-- a key's line -/
def lineD (k v : Bs) : Bs := 9 :: (k ++ 9 :: (v ++ [10]))
def keysT : List ByteArray → List ByteArray → Bs
  | k :: ks, v :: vs => lineD k.data.toList v.data.toList ++ keysT ks vs
  | _, _ => []
def headT (k : Bs) : Bs := [100, 101, 102, 105, 110, 101, 32] ++ k ++ [32, 123, 10]
def defT (d : Dfn) : Bs := headT d.kind.data.toList ++ keysT d.keys d.vals ++ [125, 10]
def defsT (ds : List Dfn) : Bs := ds.flatMap defT
theorem keysT_snoc : ∀ (ks vs : List ByteArray) (k v : ByteArray), ks.length = vs.length → keysT (ks ++ [k]) (vs ++ [v]) = keysT ks vs ++ lineD k.data.toList v.data.toList
  | [], [], k, v, _ => by simp [keysT]
  | [], _ :: _, _, _, h => by simp at h
  | _ :: _, [], _, _, h => by simp at h
  | a :: ks, b :: vs, k, v, h => by
    have ih := keysT_snoc ks vs k v (by simpa using h)
    simp [keysT, ih]
theorem keysT_take (ks vs : List ByteArray) (i : Nat) (h : i < ks.length) (h2 : i < vs.length) : keysT (ks.take (i + 1)) (vs.take (i + 1)) = keysT (ks.take i) (vs.take i) ++ lineD ks[i].data.toList vs[i].data.toList := by
  rw [List.take_succ_eq_append_getElem h, List.take_succ_eq_append_getElem h2, keysT_snoc _ _ _ _ (by simp; omega)]
theorem defsT_snoc (ds : List Dfn) (d : Dfn) : defsT (ds ++ [d]) = defsT ds ++ defT d := by simp [defsT]
theorem lineD_len (k v : Bs) : (lineD k v).length = k.length + v.length + 3 := by simp [lineD]; omega
theorem keysT_len : ∀ (ks vs : List ByteArray), (∀ k ∈ ks, k.size ≤ 70) → (∀ v ∈ vs, v.size ≤ 205) → (keysT ks vs).length ≤ ks.length * 278
  | [], _, _, _ => by simp [keysT]
  | _ :: _, [], _, _ => by simp [keysT]
  | k :: ks, v :: vs, h, g => by
    have ih := keysT_len ks vs (fun x hx => h x (List.mem_cons_of_mem _ hx)) (fun x hx => g x (List.mem_cons_of_mem _ hx))
    have h1 := h k (by simp)
    have h2 := g v (by simp)
    have e1 : k.data.toList.length = k.size := by simp
    have e2 : v.data.toList.length = v.size := by simp
    simp only [keysT, List.length_append, lineD_len, List.length_cons]
    omega
theorem okD_sizes {ks vs : List ByteArray} (hl : ks.length = vs.length) (h : ∀ i, i < ks.length → okD ks vs i = true) : (∀ k ∈ ks, k.size ≤ 70) ∧ (∀ v ∈ vs, v.size ≤ 205) := by
  constructor
  · intro k hk
    obtain ⟨i, hi, rfl⟩ := List.getElem_of_mem hk
    have := h i hi
    rw [okD_at ks vs i hi (by omega)] at this
    simp only [Bool.and_eq_true] at this
    have := bwC_size this.1.1
    omega
  · intro v hv
    obtain ⟨i, hi, rfl⟩ := List.getElem_of_mem hv
    have := h i (by omega)
    rw [okD_at ks vs i (by omega) hi] at this
    simp only [Bool.and_eq_true] at this
    have := bvC_size this.2
    omega
theorem defT_len {d : Dfn} (h : defC d = true) : (defT d).length ≤ 20000 := by
  obtain ⟨h1, h2, h3, h4⟩ := (defC_iff d).1 h
  obtain ⟨g1, g2⟩ := okD_sizes h3 h4
  have := keysT_len d.keys d.vals g1 g2
  have h5 := bwC_size h1
  have e : d.kind.data.toList.length = d.kind.size := by simp
  simp only [defT, headT, List.length_append, List.length_cons, List.length_nil]
  omega
theorem defsT_len : ∀ (ds : List Dfn), (∀ d ∈ ds, defC d = true) → (defsT ds).length ≤ ds.length * 20000
  | [], _ => by simp [defsT]
  | d :: ds, h => by
    have ih := defsT_len ds (fun x hx => h x (List.mem_cons_of_mem _ hx))
    have := defT_len (h d (by simp))
    have e : defsT (d :: ds) = defT d ++ defsT ds := by simp [defsT]
    rw [e, List.length_append, List.length_cons]
    omega

/-- whether two are the same -/
def likeD (a b : Dfn) : Bool := decide (a.kind = b.kind) && decide (a.keys = b.keys) && decide (a.vals = b.vals)
theorem likeD_iff (a b : Dfn) : likeD a b = true ↔ a = b := by
  cases a; cases b
  simp [likeD, and_assoc]
def likeDs : List Dfn → List Dfn → Bool
  | [], [] => true
  | a :: as, b :: bs => likeD a b && likeDs as bs
  | _, _ => false
theorem likeDs_iff : ∀ a b : List Dfn, likeDs a b = true ↔ a = b
  | [], [] => by simp [likeDs]
  | [], _ :: _ => by simp [likeDs]
  | _ :: _, [] => by simp [likeDs]
  | a :: as, b :: bs => by simp [likeDs, likeD_iff, likeDs_iff as bs]

/-- the first place of a key -/
def keyIB (ks : List ByteArray) (k : ByteArray) : Option Nat := ks.findIdx? fun x => decide (x = k)
/-- a key's value, where there is one -/
def getV (d : Dfn) (k : ByteArray) : Option ByteArray := match keyIB d.keys k with | none => none | some i => d.vals[i]?
end Go.Proofs.YtmhekhilgllciaaGreat
