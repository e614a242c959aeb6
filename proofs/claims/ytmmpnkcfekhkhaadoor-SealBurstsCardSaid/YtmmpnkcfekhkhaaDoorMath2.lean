/- Plain mathematics of the check: it is linear, it goes on over a text as over one number, and no burst of 32 bits goes unseen. It speaks of no program. -/
import Derived.Test.YtmmpnkcfekhkhaaDoorMath
namespace Go.Proofs.YtmmpnkcfekhkhaaDoor

theorem stepC_bit (c i : Nat) : (stepC c).testBit i = (c.testBit (i + 1) ^^ (c.testBit 0 && (3988292384 : Nat).testBit i)) := by
  unfold stepC
  split
  · rename_i h
    rw [Nat.testBit_xor, ← Nat.testBit_succ, Nat.testBit_zero, decide_eq_true h, Bool.true_and]
  · rename_i h
    rw [← Nat.testBit_succ, Nat.testBit_zero c, decide_eq_false h, Bool.false_and, Bool.xor_false]
theorem stepC_xor (x y : Nat) : stepC (x ^^^ y) = stepC x ^^^ stepC y := by
  apply Nat.eq_of_testBit_eq
  intro i
  simp only [stepC_bit, Nat.testBit_xor]
  cases x.testBit (i + 1) <;> cases y.testBit (i + 1) <;> cases x.testBit 0 <;> cases y.testBit 0 <;> cases (3988292384 : Nat).testBit i <;> rfl
theorem stepN_xor (k x y : Nat) : stepN k (x ^^^ y) = stepN k x ^^^ stepN k y := by
  induction k with
  | zero => rfl
  | succ k ih => rw [stepN, stepN, stepN, ih, stepC_xor]
theorem stepN_add (m n x : Nat) : stepN (m + n) x = stepN m (stepN n x) := by
  induction m with
  | zero => rw [Nat.zero_add]; rfl
  | succ m ih => rw [Nat.succ_add, stepN, stepN, ih]
theorem stepC_two (x : Nat) : stepC (2 * x) = x := by
  unfold stepC; rw [if_neg (by omega)]; omega
theorem stepN_pow (k x : Nat) : stepN k (2 ^ k * x) = x := by
  induction k generalizing x with
  | zero => simp [stepN]
  | succ k ih =>
    rw [stepN_add k 1, stepN, stepN, Nat.pow_succ, Nat.mul_comm (2 ^ k) 2, Nat.mul_assoc, stepC_two, ih]
theorem stepC_ne {x : Nat} (hx : x < 4294967296) (h : x ≠ 0) : stepC x ≠ 0 := by
  unfold stepC
  split
  · intro e
    have e2 : x / 2 = 3988292384 := by
      have := congrArg (· ^^^ 3988292384) e
      simpa [Nat.xor_assoc] using this
    omega
  · omega
theorem stepN_ne {x : Nat} (k : Nat) (hx : x < 4294967296) (h : x ≠ 0) : stepN k x ≠ 0 := by
  induction k with
  | zero => exact h
  | succ k ih => exact stepC_ne (stepN_lt k hx) ih

/-- three texts of one length, and their xor -/
theorem crcS_xor3 : ∀ (A B C X : List UInt8) (a b c : Nat) (hB : B.length = A.length) (hC : C.length = A.length) (hX : X.length = A.length),
    (∀ j (h : j < A.length), X[j] = A[j] ^^^ (B[j] ^^^ C[j])) → crcS (a ^^^ (b ^^^ c)) X = crcS a A ^^^ (crcS b B ^^^ crcS c C)
  | [], B, C, X, a, b, c, hB, hC, hX, _ => by
    obtain rfl := List.eq_nil_of_length_eq_zero hB
    obtain rfl := List.eq_nil_of_length_eq_zero hC
    obtain rfl := List.eq_nil_of_length_eq_zero hX
    rfl
  | u :: A, [], C, X, a, b, c, hB, hC, hX, _ => by simp at hB
  | u :: A, v :: B, [], X, a, b, c, hB, hC, hX, _ => by simp at hC
  | u :: A, v :: B, x :: C, [], a, b, c, hB, hC, hX, _ => by simp at hX
  | u :: A, v :: B, x :: C, y :: X, a, b, c, hB, hC, hX, h => by
    have h0 := h 0 (by simp)
    simp only [List.getElem_cons_zero] at h0
    have ih := crcS_xor3 A B C X (onB a u.toNat) (onB b v.toNat) (onB c x.toNat) (by simpa using hB) (by simpa using hC) (by simpa using hX)
      (fun j hj => by have := h (j + 1) (by simpa using hj); simpa using this)
    have e : onB (a ^^^ (b ^^^ c)) y.toNat = onB a u.toNat ^^^ (onB b v.toNat ^^^ onB c x.toNat) := by
      rw [h0, onB, onB, onB, onB, ← stepN_xor, ← stepN_xor, UInt8.toNat_xor, UInt8.toNat_xor]
      congr 1
      apply Nat.eq_of_testBit_eq
      intro i
      simp only [Nat.testBit_xor]
      cases a.testBit i <;> cases b.testBit i <;> cases c.testBit i <;> cases u.toNat.testBit i <;> cases v.toNat.testBit i <;> cases x.toNat.testBit i <;> rfl
    show crcS (onB (a ^^^ (b ^^^ c)) y.toNat) X = _
    rw [e, ih]
    rfl
theorem crcN_xor3 {A B C X : List UInt8} (hB : B.length = A.length) (hC : C.length = A.length) (hX : X.length = A.length)
    (h : ∀ j (h : j < A.length), X[j] = A[j] ^^^ (B[j] ^^^ C[j])) : crcN X = crcN A ^^^ crcN B ^^^ crcN C := by
  have e := crcS_xor3 A B C X 4294967295 4294967295 4294967295 hB hC hX h
  rw [show (4294967295 : Nat) ^^^ (4294967295 ^^^ 4294967295) = 4294967295 by decide] at e
  rw [crcN, crcN, crcN, crcN, e]
  apply Nat.eq_of_testBit_eq
  intro i
  simp only [Nat.testBit_xor]
  cases (crcS 4294967295 A).testBit i <;> cases (crcS 4294967295 B).testBit i <;> cases (crcS 4294967295 C).testBit i <;> cases (4294967295 : Nat).testBit i <;> rfl

/-- a text as one number, the first byte the lowest -/
def num : List UInt8 → Nat
  | [] => 0
  | b :: l => 256 * num l + b.toNat
theorem num_inj : ∀ {a b : List UInt8}, a.length = b.length → num a = num b → a = b
  | [], [], _, _ => rfl
  | [], _ :: _, h, _ => by simp at h
  | _ :: _, [], h, _ => by simp at h
  | x :: a, y :: b, h, e => by
    simp only [num] at e
    have hx := x.toNat_lt
    have hy := y.toNat_lt
    have e1 : x = y := UInt8.toNat_inj.1 (by omega)
    rw [e1, num_inj (a := a) (b := b) (by simpa using h) (by omega)]
theorem add_xor {b : Nat} (hb : b < 256) (M : Nat) : 256 * M + b = b ^^^ 2 ^ 8 * M := by
  apply Nat.eq_of_testBit_eq
  intro i
  rw [show 256 * M + b = 2 ^ 8 * M + b by rfl, Nat.testBit_two_pow_mul_add M (by omega : b < 2 ^ 8), Nat.testBit_xor, Nat.testBit_two_pow_mul]
  by_cases h : i < 8
  · simp [h, Nat.not_le.2 h]
  · have hp := Nat.pow_le_pow_right (n := 2) (by omega) (show 8 ≤ i by omega)
    have hz : b.testBit i = false := Nat.testBit_lt_two_pow (by omega)
    simp [h, Nat.not_lt.1 h, hz]
theorem crcS_num : ∀ (l : List UInt8) (s : Nat), crcS s l = stepN (8 * l.length) (s ^^^ num l)
  | [], s => by simp [crcS, num, stepN]
  | b :: l, s => by
    have e : crcS s (b :: l) = crcS (onB s b.toNat) l := rfl
    rw [e, crcS_num l, num, add_xor b.toNat_lt, List.length_cons, Nat.mul_succ, stepN_add, ← Nat.xor_assoc, stepN_xor 8, stepN_pow, onB]
theorem num_set : ∀ (l : List UInt8) (i : Nat) (e : UInt8) (h : i < l.length), num (l.set i (l[i] ^^^ e)) = num l ^^^ 2 ^ (8 * i) * e.toNat
  | b :: l, 0, e, _ => by
    simp only [List.set_cons_zero, List.getElem_cons_zero, num]
    rw [add_xor (b ^^^ e).toNat_lt, add_xor b.toNat_lt, UInt8.toNat_xor, Nat.mul_zero, Nat.pow_zero, Nat.one_mul, Nat.xor_assoc, Nat.xor_assoc, Nat.xor_comm e.toNat]
  | b :: l, i + 1, e, h => by
    have hl : i < l.length := by simpa using h
    simp only [List.set_cons_succ, List.getElem_cons_succ, num]
    rw [add_xor b.toNat_lt, add_xor b.toNat_lt, num_set l i e hl, Nat.xor_assoc]
    congr 1
    rw [show 8 * (i + 1) = 8 + 8 * i by omega, Nat.pow_add, Nat.mul_assoc]
    apply Nat.eq_of_testBit_eq
    intro j
    simp only [Nat.testBit_xor, Nat.testBit_two_pow_mul]
    by_cases hj : 8 ≤ j <;> simp [hj]
theorem burst {l m : List UInt8} {p d : Nat} (hm : m.length = l.length) (hp : p ≤ 8 * l.length) (hd : d < 4294967296) (h : num m = num l ^^^ 2 ^ p * d) (hne : m ≠ l) : crcN m ≠ crcN l := by
  intro e
  have h0 : d ≠ 0 := by
    intro h0
    subst h0
    exact hne (num_inj hm (by simpa using h))
  have e1 : crcS 4294967295 m = crcS 4294967295 l := by
    have := congrArg (· ^^^ 4294967295) e
    simpa [crcN, Nat.xor_assoc] using this
  rw [crcS_num, crcS_num, hm, h, ← Nat.xor_assoc, stepN_xor, show 8 * l.length = (8 * l.length - p) + p by omega, stepN_add _ p (2 ^ p * d), stepN_pow] at e1
  have e2 : stepN (8 * l.length - p) d = 0 := by
    have := congrArg (stepN (8 * l.length - p + p) (4294967295 ^^^ num l) ^^^ ·) e1
    simpa [← Nat.xor_assoc] using this
  exact stepN_ne _ hd h0 e2
theorem burst_step {N p k d : Nat} : (N ^^^ 2 ^ p * d) ^^^ 2 ^ (p + k) = N ^^^ 2 ^ p * (d ^^^ 2 ^ k) := by
  rw [Nat.xor_assoc]
  congr 1
  rw [Nat.pow_add]
  apply Nat.eq_of_testBit_eq
  intro j
  simp only [Nat.testBit_xor, Nat.testBit_two_pow_mul]
  by_cases hj : p ≤ j <;> simp [hj]

end Go.Proofs.YtmmpnkcfekhkhaaDoor
