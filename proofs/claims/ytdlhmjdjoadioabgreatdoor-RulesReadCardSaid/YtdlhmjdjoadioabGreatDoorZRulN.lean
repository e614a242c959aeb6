/- Rules: their words, and what words are read as: mathematics alone. -/
import Derived.Test.YtdlhmjdjoadioabGreatDoorMg2
import Derived.Test.YtdlhmjdjoadioabGreatDoorLabP
import Derived.Lib.ItoaNum
import Derived.Lib.AtoiAll
namespace Go.Proofs.YtdlhmjdjoadioabGreatDoor

theorem pu_snoc : ∀ (xs : Bs) (acc v : Nat) (c : UInt8), Lib.parseUint10 acc xs = .ok v → Lib.parseUint10 acc (xs ++ [c]) = Lib.parseUint10 v [c]
  | [], acc, v, c, h => by
    simp only [Lib.parseUint10] at h
    injection h with h
    subst h
    rfl
  | x :: r, acc, v, c, h => by
    rw [List.cons_append]
    unfold Lib.parseUint10 at h
    rw [show Lib.parseUint10 acc (x :: (r ++ [c])) = if 48 ≤ x.toNat ∧ x.toNat ≤ 57 then if 1844674407370955162 ≤ acc then .range else if 18446744073709551616 ≤ acc * 10 + (x.toNat - 48) then .range else Lib.parseUint10 (acc * 10 + (x.toNat - 48)) (r ++ [c]) else _ from rfl]
    split at h
    · rename_i hd
      rw [if_pos hd]
      split at h
      · cases h
      · rename_i h1
        rw [if_neg h1]
        split at h
        · cases h
        · rename_i h2
          rw [if_neg h2]
          exact pu_snoc r _ v c h
    · cases h
theorem dig_nat {d : Nat} (h : d < 10) : (UInt8.ofNat (48 + d)).toNat = 48 + d := by
  rw [UInt8.toNat_ofNat']
  omega
theorem pu_one (v d : Nat) (hd : d < 10) (hv : v * 10 + d < 18446744073709551616) : Lib.parseUint10 v [UInt8.ofNat (48 + d)] = .ok (v * 10 + d) := by
  unfold Lib.parseUint10
  rw [dig_nat hd, if_pos (by omega), if_neg (by omega), show 48 + d - 48 = d by omega, if_neg (by omega)]
  rfl
theorem pu_dec (u : Nat) (h : u < 18446744073709551616) : Lib.parseUint10 0 (Lib.decDigits u) = .ok u := by
  induction u using Nat.strongRecOn with
  | _ u ih =>
    by_cases hu : u < 10
    · rw [Lib.decDigits, dif_pos hu, pu_one 0 u hu (by omega)]
      congr 1; omega
    · rw [Lib.decDigits, dif_neg hu, pu_snoc _ 0 (u / 10) _ (ih (u / 10) (by omega) (by omega)), pu_one (u / 10) (u % 10) (by omega) (by omega)]
      congr 1; omega
theorem dec_digits (u : Nat) : ∀ c ∈ Lib.decDigits u, 48 ≤ c.toNat ∧ c.toNat ≤ 57 := by
  induction u using Nat.strongRecOn with
  | _ u ih =>
    intro c hc
    rw [Lib.decDigits] at hc
    split at hc
    · rename_i hu
      obtain rfl := List.mem_singleton.1 hc
      rw [dig_nat hu]; omega
    · rename_i hu
      rcases List.mem_append.1 hc with hc | hc
      · exact ih (u / 10) (by omega) c hc
      · obtain rfl := List.mem_singleton.1 hc
        rw [dig_nat (by omega)]; omega
theorem dec_ne (u : Nat) : Lib.decDigits u ≠ [] := by
  rw [Lib.decDigits]
  split <;> simp
theorem atoi_itoa (n : Int) (h1 : -9223372036854775808 ≤ n) (h2 : n ≤ 9223372036854775807) : Lib.atoiAll (Lib.itoa n) = .ok n := by
  unfold Lib.itoa
  by_cases hn : n < 0
  · rw [if_pos hn]
    have hp : Lib.parseMag (Lib.decDigits n.natAbs) = .ok n.natAbs := by
      unfold Lib.parseMag
      rw [if_neg (dec_ne _)]
      exact pu_dec _ (by omega)
    unfold Lib.atoiAll
    simp only [show (45 : UInt8).toNat = 45 from rfl, or_true, if_true, hp, not_true_eq_false, false_and, if_false, true_and]
    rw [if_neg (by omega)]
    congr 1; omega
  · rw [if_neg hn]
    obtain ⟨c, r, e⟩ : ∃ c r, Lib.decDigits n.toNat = c :: r := by
      cases h : Lib.decDigits n.toNat with
      | nil => exact absurd h (dec_ne _)
      | cons c r => exact ⟨c, r, rfl⟩
    have hc := dec_digits n.toNat c (by rw [e]; simp)
    have hp : Lib.parseMag (c :: r) = .ok n.toNat := by
      unfold Lib.parseMag
      rw [if_neg (by simp), ← e]
      exact pu_dec _ (by omega)
    have h1 : ¬ (c.toNat = 43 ∨ c.toNat = 45) := by omega
    have h2 : ¬ c.toNat = 45 := by omega
    rw [e]
    unfold Lib.atoiAll
    dsimp only
    rw [if_neg h1, hp]
    dsimp only
    rw [if_neg (by omega), if_neg (fun h => h2 h.1), if_neg h2]
    congr 1; omega

def signL (h : Int) : ByteArray := if h = 1 then ⟨#[62]⟩ else if h = 2 then ⟨#[62, 61]⟩ else if h = 3 then ⟨#[60]⟩ else if h = 4 then ⟨#[60, 61]⟩ else if h = 5 then ⟨#[61, 61]⟩ else ⟨#[]⟩
def howL (s : ByteArray) : Int := if s = ⟨#[62]⟩ then 1 else if s = ⟨#[62, 61]⟩ then 2 else if s = ⟨#[60]⟩ then 3 else if s = ⟨#[60, 61]⟩ then 4 else if s = ⟨#[61, 61]⟩ then 5 else 0
def itoaS (n : Int) : ByteArray := ⟨(Lib.itoa n).toArray⟩
def textB (ls : List Lab) : ByteArray := ⟨(textL ls).toArray⟩
def wordsL (r : Rul) : List ByteArray := [r.name, r.metric, signL r.how, itoaS r.limit, itoaS r.fr, itoaS r.keep, itoaS r.tries, textB r.labels]
def wordsP (r : Rul) : List ByteArray × Int := if rulC r = true then (wordsL r, 0) else ([], 1)
def numL (s : ByteArray) : Int := match Lib.atoiAll s.data.toList with | .ok v => v | _ => 0
def zeroR : Rul := ⟨⟨#[]⟩, ⟨#[]⟩, 0, 0, 0, 0, 0, []⟩
def rOf (a b s l f k t x : ByteArray) : Rul := ⟨a, b, howL s, numL l, numL f, numL k, numL t, (parseL x.data.toList).getD []⟩
/-- r is the rule of these words -/
def IsR (ss : List ByteArray) (r : Rul) : Prop := rulC r = true ∧ wordsL r = ss
theorem howL_sign {h : Int} (h1 : 1 ≤ h) (h2 : h ≤ 5) : howL (signL h) = h := by
  have : h = 1 ∨ h = 2 ∨ h = 3 ∨ h = 4 ∨ h = 5 := by omega
  rcases this with rfl | rfl | rfl | rfl | rfl <;> decide +kernel
theorem numL_itoa (n : Int) (h1 : -9223372036854775808 ≤ n) (h2 : n ≤ 9223372036854775807) : numL (itoaS n) = n := by
  unfold numL itoaS
  simp only [atoi_itoa n h1 h2]
/-- the rule of a row of words is one -/
theorem IsR.eq {a b s l f k t x : ByteArray} {r : Rul} (h : IsR [a, b, s, l, f, k, t, x] r) : rOf a b s l f k t x = r := by
  obtain ⟨h1, h2⟩ := h
  obtain ⟨_, _, ⟨g1, g2⟩, ⟨g3, g4⟩, ⟨g5, g6⟩, ⟨g7, g8⟩, ⟨g9, g10⟩, g11⟩ := (rulC_iff r).1 h1
  have hp := parseL_text (rlabsC_iff _ |>.1 g11).2.1
  obtain ⟨n, m, h, li, fr, ke, tr, la⟩ := r
  simp only at g1 g2 g3 g4 g5 g6 g7 g8 g9 g10
  simp only [wordsL, List.cons.injEq, and_true] at h2
  obtain ⟨rfl, rfl, rfl, rfl, rfl, rfl, rfl, rfl⟩ := h2
  simp only [rOf, Rul.mk.injEq, true_and]
  exact ⟨howL_sign g1 g2, numL_itoa _ (by omega) (by omega), numL_itoa _ (by omega) (by omega), numL_itoa _ (by omega) (by omega), numL_itoa _ (by omega) (by omega), by simp only [textB, List.toList_toArray]; rw [hp]; rfl⟩
def readP (ss : List ByteArray) : Rul × Int :=
  match ss with
  | [a, b, s, l, f, k, t, x] => if rulC (rOf a b s l f k t x) = true ∧ wordsL (rOf a b s l f k t x) = ss then (rOf a b s l f k t x, 0) else (zeroR, 6)
  | _ => (zeroR, 6)
theorem readP_is {ss : List ByteArray} {r : Rul} (h : IsR ss r) : readP ss = (r, 0) := by
  obtain ⟨h1, rfl⟩ := h
  have e : rOf r.name r.metric (signL r.how) (itoaS r.limit) (itoaS r.fr) (itoaS r.keep) (itoaS r.tries) (textB r.labels) = r := IsR.eq ⟨h1, rfl⟩
  show (if rulC (rOf _ _ _ _ _ _ _ _) = true ∧ wordsL (rOf _ _ _ _ _ _ _ _) = _ then _ else _) = _
  rw [e, if_pos ⟨h1, rfl⟩]
theorem readP_cases (ss : List ByteArray) : (∃ r, IsR ss r ∧ readP ss = (r, 0)) ∨ (readP ss = (zeroR, 6) ∧ ∀ r, ¬ IsR ss r) := by
  by_cases h : ∃ r, IsR ss r
  · obtain ⟨r, h⟩ := h
    exact .inl ⟨r, h, readP_is h⟩
  · refine .inr ⟨?_, fun r hr => h ⟨r, hr⟩⟩
    unfold readP
    split
    · rename_i a b s l f k t x
      split
      · rename_i hh
        exact absurd ⟨_, hh⟩ h
      · rfl
    · rfl
theorem words_inj {r s : Rul} (h1 : rulC r = true) (h2 : rulC s = true) (h : wordsL r = wordsL s) : r = s := by
  have e1 := readP_is ⟨h1, rfl⟩
  have e2 := readP_is (ss := wordsL s) ⟨h2, rfl⟩
  rw [h, e2] at e1
  exact (Prod.mk.inj e1).1.symm
end Go.Proofs.YtdlhmjdjoadioabGreatDoor
