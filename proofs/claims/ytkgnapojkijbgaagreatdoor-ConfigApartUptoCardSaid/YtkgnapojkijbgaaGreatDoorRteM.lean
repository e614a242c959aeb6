/- Routes: which may be, and where labels lead. Mathematics alone. -/
import Derived.Test.YtkgnapojkijbgaaGreatDoorRteA
import Derived.Test.YtkgnapojkijbgaaGreatDoorBlkM
import Derived.Lib.ItoaNum
namespace Go.Proofs.YtkgnapojkijbgaaGreatDoor

def inRt (n a b : Int) : Bool := decide (a ≤ n) && decide (n ≤ b)
/-- the set that is asked of names -/
def byLabs (bs : List ByteArray) : List Lab := bs.map fun b => (b, ⟨#[118]⟩)
/-- what is asked of the word of hours at place i -/
def okU (us : List ByteArray) (i : Nat) : Bool :=
  match us[i]? with
  | none => true
  | some x => bwC x.data.toList && (match i with | 0 => true | j + 1 => match us[j]? with | none => true | some p => ltW p x)
theorem okU_zero (us : List ByteArray) (h : 0 < us.length) : okU us 0 = bwC us[0].data.toList := by simp [okU, h]
theorem okU_succ (us : List ByteArray) (j : Nat) (h : j + 1 < us.length) : okU us (j + 1) = (bwC us[j + 1].data.toList && ltW us[j] us[j + 1]) := by
  simp [okU, h, show j < us.length by omega]
def allU (us : List ByteArray) : Bool := (List.range us.length).all (okU us)
def muteC (us : List ByteArray) : Bool := allU us && decide (us.length ≤ 8)
theorem mute_end (us : List ByteArray) : ∃ J, J ≤ us.length ∧ (∀ k (_h : k < J), okU us k = true) ∧ (J = us.length ∧ allU us = true ∨ J < us.length ∧ okU us J = false ∧ allU us = false) := by
  cases h : allU us with
  | true => exact ⟨us.length, Nat.le_refl _, by simpa [allU] using h, .inl ⟨rfl, rfl⟩⟩
  | false =>
    obtain ⟨j, hj, hb, ha⟩ := first_not (okU us) us.length (fun hall => by
      have : allU us = true := by simpa [allU] using hall
      rw [h] at this; cases this)
    exact ⟨j, by omega, ha, .inr ⟨hj, hb, rfl⟩⟩
def matchC (ms : List Mat) : Bool := decide (ms.length ≤ 8) && ms.all rightM
def timesC (n : Rt) : Bool := inRt n.wait 0 1099511627776 && (inRt n.every 1 1099511627776 && inRt n.rep 1 1099511627776)
/-- may a route be, those within it aside? -/
def aloneC (n : Rt) : Bool := bwC n.recv.data.toList && (matchC n.ms && (rightC (byLabs n.bys) && (timesC n && (muteC n.mute && decide (n.kids.length ≤ 16)))))
/-- may a route be, that is so deep at most? -/
def rightRt : Nat → Rt → Bool
  | 0, _ => false
  | d + 1, n => aloneC n && n.kids.all (rightRt d)
def rteC (n : Rt) : Bool := rightRt 4 n
theorem alone_kids {n : Rt} (h : aloneC n = true) : n.kids.length ≤ 16 ∧ n.ms.length ≤ 8 := by
  simp only [aloneC, matchC, Bool.and_eq_true, decide_eq_true_eq] at h
  exact ⟨h.2.2.2.2.2, h.2.1.1⟩
theorem kids_end (p : Rt → Bool) (xs : List Rt) : ∃ J, J ≤ xs.length ∧ (∀ k (h : k < xs.length), k < J → p xs[k] = true) ∧ (J = xs.length ∧ xs.all p = true ∨ ∃ h : J < xs.length, p xs[J] = false ∧ xs.all p = false) := by
  induction xs with
  | nil => exact ⟨0, Nat.le_refl _, fun k h => by simp at h, .inl ⟨rfl, rfl⟩⟩
  | cons x xs ih =>
    cases hx : p x with
    | false => exact ⟨0, Nat.zero_le _, fun k _ h => by omega, .inr ⟨by simp, hx, by simp [hx]⟩⟩
    | true =>
      obtain ⟨J, h1, h2, h3⟩ := ih
      refine ⟨J + 1, by simpa using h1, fun k h hk => ?_, ?_⟩
      · cases k with
        | zero => exact hx
        | succ k => exact h2 k (by simpa using h) (by omega)
      · rcases h3 with ⟨e, h4⟩ | ⟨h4, h5, h6⟩
        · exact .inl ⟨by simp [e], by simp [hx, h4]⟩
        · exact .inr ⟨by simpa using h4, h5, by simp [hx, h6]⟩

/-! ### Where labels lead -/
/-- a target: its path, and the route without those within it -/
abbrev Tgt := Bs × Rt
def leadsTo (L : List Lab) (x : Rt) : Bool := (holdsL L x.ms).1
mutual
def Rt.find (L : List Lab) (p : Bs) : Rt → List Tgt
  | .mk r m b a e pp u o xs => match findRs L p 0 xs with
    | [] => [(p, .mk r m b a e pp u o [])]
    | t :: ts => t :: ts
def findRs (L : List Lab) (p : Bs) (i : Nat) : List Rt → List Tgt
  | [] => []
  | x :: xs => if leadsTo L x then x.find L (p ++ 46 :: Lib.decDigits i) ++ (if x.on then findRs L p (i + 1) xs else []) else findRs L p (i + 1) xs
end
end Go.Proofs.YtkgnapojkijbgaaGreatDoor
