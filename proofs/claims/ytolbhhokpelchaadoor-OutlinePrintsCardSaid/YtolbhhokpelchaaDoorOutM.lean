/- Nodes: what they are, and which may be. Mathematics alone. -/
import Derived.Test.YtolbhhokpelchaaDoorBlkM
namespace Go.Proofs.YtolbhhokpelchaaDoor

inductive Nd where
  | mk (kind : Int) (word : ByteArray) (names : List ByteArray) (items : List Nd)
def Nd.kind : Nd → Int | .mk k _ _ _ => k
def Nd.word : Nd → ByteArray | .mk _ w _ _ => w
def Nd.names : Nd → List ByteArray | .mk _ _ n _ => n
def Nd.items : Nd → List Nd | .mk _ _ _ i => i
instance : Inhabited Nd := ⟨.mk 0 .empty [] []⟩

/-- a word's byte, a word -/
def owB (c : UInt8) : Bool := decide (32 ≤ c.toNat ∧ c.toNat ≤ 126)
def owC (s : Bs) : Bool := decide (s.length ≤ 200) && s.all owB
/-- what is asked of a name at place i (bwC: which bytes a name may have, and how many) -/
def onK (ns : List ByteArray) (i : Nat) : Bool :=
  match ns[i]? with
  | some k => bwC k.data.toList && !memB k (ns.take i)
  | none => true
theorem onK_at (ns : List ByteArray) (i : Nat) (h : i < ns.length) : onK ns i = (bwC ns[i].data.toList && !memB ns[i] (ns.take i)) := by simp [onK, h]
def namesC (ns : List ByteArray) : Bool := decide (ns.length ≤ 64) && (List.range ns.length).all (onK ns)
theorem names_end (ns : List ByteArray) (h64 : ns.length ≤ 64) : ∃ J, J ≤ ns.length ∧ (∀ k (_h : k < J), onK ns k = true) ∧ (J = ns.length ∧ namesC ns = true ∨ J < ns.length ∧ onK ns J = false ∧ namesC ns = false) := by
  cases h : (List.range ns.length).all (onK ns) with
  | true => exact ⟨ns.length, Nat.le_refl _, by simpa using h, .inl ⟨rfl, by simp [namesC, h, h64]⟩⟩
  | false =>
    obtain ⟨j, hj, hb, ha⟩ := first_not (onK ns) ns.length (fun hall => by
      have : (List.range ns.length).all (onK ns) = true := by simpa using hall
      rw [h] at this; cases this)
    exact ⟨j, by omega, ha, .inr ⟨hj, hb, by simp only [namesC, h, Bool.and_false]⟩⟩
/-- what a node has of its kind -/
def partsC (n : Nd) : Bool :=
  decide (n.kind = 1) && (owC n.word.data.toList && decide (n.names.length = 0) && decide (n.items.length = 0)) ||
  decide (n.kind = 2) && (decide (n.word = .empty) && decide (n.names.length = 0) && decide (n.items.length ≤ 64)) ||
  decide (n.kind = 3) && (decide (n.word = .empty) && decide (n.names.length = n.items.length) && namesC n.names)
/-- may a node be, that is so deep at most? -/
def rightD : Nat → Nd → Bool
  | 0, _ => false
  | d + 1, n => partsC n && n.items.all (rightD d)
def nodeC (n : Nd) : Bool := rightD 8 n
theorem rightD_mono : ∀ (d : Nat) (n : Nd), rightD d n = true → rightD (d + 1) n = true
  | 0, n, h => by cases h
  | d + 1, n, h => by
    simp only [rightD, Bool.and_eq_true] at h
    simp only [rightD, Bool.and_eq_true]
    refine ⟨h.1, ?_⟩
    rw [List.all_eq_true] at *
    intro x hx
    exact rightD_mono d x (h.2 x hx)
theorem partsC_items {n : Nd} (h : partsC n = true) : n.items.length ≤ 64 := by
  simp only [partsC, namesC, Bool.or_eq_true, Bool.and_eq_true, decide_eq_true_eq] at h
  omega
/-- a row of one node -/
def rowN (n : Nd) : Nd := .mk 2 .empty [] [n]
theorem rightD_row (d : Nat) (n : Nd) : rightD (d + 1) (rowN n) = rightD d n := by
  simp [rightD, rowN, partsC, Nd.kind, Nd.word, Nd.names, Nd.items]
/-- where a walk over items ends -/
theorem items_end (d : Nat) (xs : List Nd) : ∃ J, J ≤ xs.length ∧ (∀ k (h : k < xs.length), k < J → rightD d xs[k] = true) ∧ (J = xs.length ∧ xs.all (rightD d) = true ∨ ∃ h : J < xs.length, rightD d xs[J] = false ∧ xs.all (rightD d) = false) := by
  induction xs with
  | nil => exact ⟨0, Nat.le_refl _, fun k h => by simp at h, .inl ⟨rfl, rfl⟩⟩
  | cons x xs ih =>
    cases hx : rightD d x with
    | false => exact ⟨0, Nat.zero_le _, fun k _ h => by omega, .inr ⟨by simp, hx, by simp [hx]⟩⟩
    | true =>
      obtain ⟨J, h1, h2, h3⟩ := ih
      refine ⟨J + 1, by simpa using h1, fun k h hk => ?_, ?_⟩
      · cases k with
        | zero => exact hx
        | succ k => exact h2 k (by simpa using h) (by omega)
      · rcases h3 with ⟨e, h4⟩ | ⟨h4, h5, h6⟩
        · exact .inl ⟨by simp [e], by simp [hx, h4]⟩
        · exact .inr ⟨by simpa using h4, h5, by simp [hx, h6]⟩
end Go.Proofs.YtolbhhokpelchaaDoor
