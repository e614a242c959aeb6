/- Plain mathematics for layer 1: a number's bytes, the check of bytes as a function on natural numbers. It speaks of no program. -/
namespace Go.Proofs.YtmmpnkcfekhkhaaDoor

/-- a number's bytes -/
def numB (n : Nat) : List UInt8 :=
  if h : n < 128 then [UInt8.ofNat n] else UInt8.ofNat (n % 128 + 128) :: numB (n / 128)
termination_by n
decreasing_by omega

theorem numB_lt {n : Nat} (h : n < 128) : numB n = [UInt8.ofNat n] := by rw [numB]; simp [h]
theorem numB_ge {n : Nat} (h : 128 ≤ n) : numB n = UInt8.ofNat (n % 128 + 128) :: numB (n / 128) := by
  rw [numB]; simp [show ¬ n < 128 by omega]

theorem numB_pos (n : Nat) : 1 ≤ (numB n).length := by
  rw [numB]; split <;> simp

theorem numB_len (k : Nat) : ∀ n, n < 128 ^ (k + 1) → (numB n).length ≤ k + 1 := by
  induction k with
  | zero => intro n h; rw [numB_lt (by simpa using h)]; simp
  | succ k ih =>
    intro n h
    by_cases hn : n < 128
    · rw [numB_lt hn]; simp
    · rw [numB_ge (by omega)]
      have := ih (n / 128) (by rw [Nat.pow_succ] at h; omega)
      simp; omega
theorem numB_len9 {n : Nat} (h : n < 9223372036854775808) : (numB n).length ≤ 9 := numB_len 8 n (by omega)


/-- what a text's beginning is read as: the number, its bytes, the error -/
def rdF : Nat → Nat → List UInt8 → Nat → Nat × Nat × Nat
  | 0, _, _, _ => (0, 0, 2)
  | _ + 1, _, [], _ => (0, 0, 3)
  | f + 1, i, b :: l, acc => if 128 ≤ b.toNat then rdF f (i + 1) l (acc + (b.toNat - 128) * 2 ^ (7 * i)) else if b.toNat = 0 ∧ 0 < i then (0, 0, 6) else (acc + b.toNat * 2 ^ (7 * i), i + 1, 0)
def rd (l : List UInt8) : Nat × Nat × Nat := rdF 9 0 l 0

theorem rd_bd {i acc b : Nat} (ha : acc < 2 ^ (7 * i)) (hb : b ≤ 127) : acc + b * 2 ^ (7 * i) < 2 ^ (7 * (i + 1)) := by
  have e : 2 ^ (7 * (i + 1)) = 128 * 2 ^ (7 * i) := by rw [show 7 * (i + 1) = 7 * i + 7 by omega, Nat.pow_add]; omega
  have := Nat.mul_le_mul_right (2 ^ (7 * i)) hb
  omega
theorem rd_63 {i x : Nat} (hi : i ≤ 8) (h : x < 2 ^ (7 * (i + 1))) : x ≤ 9223372036854775807 := by
  have := Nat.pow_le_pow_right (n := 2) (by omega) (show 7 * (i + 1) ≤ 63 by omega)
  omega
theorem rd_int {i acc b : Nat} (h : acc + b * 2 ^ (7 * i) ≤ 9223372036854775807) : (acc : Int) + (b : Int) * 2 ^ (7 * i) ≤ 9223372036854775807 ∧ (0 : Int) ≤ (b : Int) * 2 ^ (7 * i) ∧ ((acc + b * 2 ^ (7 * i) : Nat) : Int) = (acc : Int) + (b : Int) * 2 ^ (7 * i) := by
  have e : ((b * 2 ^ (7 * i) : Nat) : Int) = (b : Int) * 2 ^ (7 * i) := by push_cast; rfl
  refine ⟨by omega, by omega, by omega⟩
theorem drop_cons (l : List UInt8) (i : Nat) (h : i < l.length) : l.drop i = l[i] :: l.drop (i + 1) := List.drop_eq_getElem_cons h

/-- the check's step, on numbers of any size -/
def stepC (c : Nat) : Nat := if c % 2 = 1 then (c / 2) ^^^ 3988292384 else c / 2
def stepN : Nat → Nat → Nat
  | 0, c => c
  | k + 1, c => stepC (stepN k c)
def onB (c b : Nat) : Nat := stepN 8 (c ^^^ b)
def crcS (c : Nat) (l : List UInt8) : Nat := l.foldl (fun c b => onB c b.toNat) c
def crcN (l : List UInt8) : Nat := crcS 4294967295 l ^^^ 4294967295

theorem stepC_lt {c : Nat} (h : c < 4294967296) : stepC c < 4294967296 := by
  unfold stepC
  split
  · exact Nat.xor_lt_two_pow (n := 32) (by omega) (by omega)
  · omega
theorem stepN_lt {c : Nat} (k : Nat) (h : c < 4294967296) : stepN k c < 4294967296 := by
  induction k with
  | zero => exact h
  | succ k ih => exact stepC_lt ih
theorem onB_lt {c b : Nat} (h : c < 4294967296) (hb : b < 256) : onB c b < 4294967296 :=
  stepN_lt 8 (Nat.xor_lt_two_pow (n := 32) (by omega) (by omega))
theorem crcS_lt (l : List UInt8) : ∀ {c : Nat}, c < 4294967296 → crcS c l < 4294967296 := by
  induction l with
  | nil => intro c h; exact h
  | cons b l ih => intro c h; exact ih (onB_lt h b.toNat_lt)
theorem crcN_lt (l : List UInt8) : crcN l < 4294967296 := Nat.xor_lt_two_pow (n := 32) (crcS_lt l (by omega)) (by omega)
theorem crcN_nil : crcN [] = 0 := by simp [crcN, crcS]
theorem crcS_app (c : Nat) (a b : List UInt8) : crcS c (a ++ b) = crcS (crcS c a) b := by simp [crcS]
theorem crcS_snoc (c : Nat) (a : List UInt8) (b : UInt8) : crcS c (a ++ [b]) = onB (crcS c a) b.toNat := by simp [crcS]

theorem take_snoc (l : List UInt8) (k : Nat) (h : k < l.length) : l.take (k + 1) = l.take k ++ [l[k]] := by
  rw [List.take_succ_eq_append_getElem h]

/-- the number of a row of digits to the base 128, the lowest first -/
def rdv : List UInt8 → Nat
  | [] => 0
  | b :: l => b.toNat % 128 + 128 * rdv l
theorem rdv_lt (l : List UInt8) : rdv l < 2 ^ (7 * l.length) := by
  induction l with
  | nil => simp [rdv]
  | cons b l ih =>
    rw [rdv, List.length_cons, show 7 * (l.length + 1) = 7 * l.length + 7 by omega, Nat.pow_add]
    omega
theorem rdF_low : ∀ (j f i : Nat) (l : List UInt8) (acc : Nat) (hj : j < l.length), j < f → (∀ k (hk : k < j), 128 ≤ (l[k]'(by omega)).toNat) → l[j].toNat < 128 →
    rdF f i l acc = if l[j].toNat = 0 ∧ 0 < i + j then (0, 0, 6) else (acc + rdv (l.take (j + 1)) * 2 ^ (7 * i), i + j + 1, 0) := by
  intro j
  induction j with
  | zero =>
    intro f i l acc hj hf _ hb
    match l, f, hj, hf with
    | b :: l, f + 1, hj, hf =>
      simp only [List.getElem_cons_zero] at hb
      rw [rdF, if_neg (by omega)]
      simp only [List.getElem_cons_zero, Nat.add_zero]
      split
      · rfl
      · simp [rdv, Nat.mod_eq_of_lt hb]
  | succ j ih =>
    intro f i l acc hj hf hall hb
    match l, f, hj, hf with
    | b :: l, f + 1, hj, hf =>
      simp only [List.getElem_cons_succ] at hb
      have h0 : 128 ≤ b.toNat := hall 0 (by omega)
      rw [rdF, if_pos h0, ih f (i + 1) l _ (by simpa using hj) (by omega) (fun k hk => by have := hall (k + 1) (by omega); simpa using this) hb]
      simp only [List.getElem_cons_succ]
      rw [show i + 1 + j = i + (j + 1) by omega]
      split
      · rfl
      · have hm : b.toNat % 128 = b.toNat - 128 := by have := b.toNat_lt; omega
        rw [List.take_succ_cons, rdv, hm, show 7 * (i + 1) = 7 * i + 7 by omega, Nat.pow_add, Nat.add_mul]
        congr 1
        rw [Nat.add_assoc]
        congr 2
        rw [show (2 : Nat) ^ 7 = 128 by rfl, Nat.mul_comm (2 ^ (7 * i)) 128, ← Nat.mul_assoc, Nat.mul_comm _ 128]
theorem rdF_high : ∀ (f i : Nat) (l : List UInt8) (acc : Nat), (∀ k (hk : k < l.length), k < f → 128 ≤ l[k].toNat) → rdF f i l acc = if f ≤ l.length then (0, 0, 2) else (0, 0, 3) := by
  intro f
  induction f with
  | zero => intro i l acc _; simp [rdF]
  | succ f ih =>
    intro i l acc hall
    match l with
    | [] => simp [rdF]
    | b :: l =>
      have h0 : 128 ≤ b.toNat := hall 0 (by simp) (by omega)
      rw [rdF, if_pos h0, ih (i + 1) l _ (fun k hk hf => by have := hall (k + 1) (by simpa using hk) (by omega); simpa using this)]
      simp

theorem low_or_high (l : List UInt8) : ∀ n : Nat, (∃ j, j < n ∧ ∃ hj : j < l.length, (∀ k (hk : k < j), 128 ≤ (l[k]'(by omega)).toNat) ∧ l[j].toNat < 128) ∨ ∀ k (hk : k < l.length), k < n → 128 ≤ l[k].toNat
  | 0 => .inr fun k _ h => by omega
  | n + 1 => by
    rcases low_or_high l n with ⟨j, h1, h2, h3⟩ | h
    · exact .inl ⟨j, by omega, h2, h3⟩
    · by_cases hn : n < l.length
      · by_cases hb : l[n].toNat < 128
        · exact .inl ⟨n, by omega, hn, fun k hk => h k (by omega) hk, hb⟩
        · exact .inr fun k hk hkn => by
            by_cases e : k = n
            · subst e; omega
            · exact h k hk (by omega)
      · exact .inr fun k hk hkn => h k hk (by omega)
theorem rd_low {l : List UInt8} {j : Nat} (h9 : j < 9) (hj : j < l.length) (hall : ∀ k (hk : k < j), 128 ≤ (l[k]'(by omega)).toNat) (hb : l[j].toNat < 128) :
    rd l = if l[j].toNat = 0 ∧ 0 < j then (0, 0, 6) else (rdv (l.take (j + 1)), j + 1, 0) := by
  rw [rd, rdF_low j 9 0 l 0 hj h9 hall hb]; simp
theorem rd_high {l : List UInt8} (hall : ∀ k (hk : k < l.length), k < 9 → 128 ≤ l[k].toNat) : rd l = if 9 ≤ l.length then (0, 0, 2) else (0, 0, 3) := rdF_high 9 0 l 0 hall
theorem rdv_drop {l : List UInt8} {i : Nat} (h : i < l.length) : rdv (l.drop i) = l[i].toNat % 128 + 128 * rdv (l.drop (i + 1)) := by
  rw [List.drop_eq_getElem_cons h, rdv]
theorem rdv_63 {l : List UInt8} (h : l.length ≤ 9) : rdv l ≤ 9223372036854775807 := by
  have h1 := rdv_lt l
  have := Nat.pow_le_pow_right (n := 2) (by omega) (show 7 * l.length ≤ 63 by omega)
  omega

end Go.Proofs.YtmmpnkcfekhkhaaDoor
