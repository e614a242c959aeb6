/- Hours: which may be, which ticks are within, their text, what a text is read as, the next change. Mathematics alone. -/
import Derived.Test.YtmhekhilgllciaaGreatBlkM
import Derived.Lib.AtoiAll
import Derived.Lib.IndexMore
import Derived.Lib.Join
namespace Go.Proofs.YtmhekhilgllciaaGreat

/-- the bit of a day -/
def hasT (d k : Nat) : Bool := decide (d / 2 ^ k % 2 = 1)
def nameT (k : Nat) : Bs := [[109, 111, 110], [116, 117, 101], [119, 101, 100], [116, 104, 117], [102, 114, 105], [115, 97, 116], [115, 117, 110]].getD k []
/-- the names of the days below k that are in d -/
def namesT (d k : Nat) : List Bs := ((List.range k).filter (hasT d)).map nameT
def daysT (d : Nat) : Bs := Lib.join (namesT d 7) [44]
def twoT (n : Nat) : Bs := [UInt8.ofNat (48 + n / 10), UInt8.ofNat (48 + n % 10)]
def clockT (m : Nat) : Bs := twoT (m / 60) ++ ([58] ++ twoT (m % 60))
def textT (d f t : Nat) : Bs := daysT d ++ ([32] ++ (clockT f ++ ([45] ++ clockT t)))
/-- days and minutes that may be -/
def spanC (d f t : Int) : Bool := decide (1 ≤ d ∧ d ≤ 127 ∧ 0 ≤ f ∧ f < t ∧ t ≤ 1440)
/-- the days below k whose names are in a text -/
def daysN (s : Bs) : Nat → Nat
  | 0 => 0
  | k + 1 => if Lib.contains s (nameT k) then daysN s k ||| 2 ^ k else daysN s k
def minT (s : Bs) : Int :=
  match Lib.atoiAll (Lib.cut s [58]).1, Lib.atoiAll (Lib.cut s [58]).2.1 with
  | .ok a, .ok b => IntKind.i64.wrap (IntKind.i64.wrap (a * 60) + b)
  | _, _ => -1
def pDays (s : Bs) : Nat := daysN (Lib.cut s [32]).1 7
def pFrom (s : Bs) : Int := minT (Lib.cut (Lib.cut s [32]).2.1 [45]).1
def pTo (s : Bs) : Int := minT (Lib.cut (Lib.cut s [32]).2.1 [45]).2.1
def parseH (s : Bs) : Option (Nat × Nat × Nat) :=
  if spanC (pDays s) (pFrom s) (pTo s) = true ∧ textT (pDays s) (pFrom s).toNat (pTo s).toNat = s then some (pDays s, (pFrom s).toNat, (pTo s).toNat) else none

set_option maxRecDepth 100000 in
theorem days_back : ∀ d, d < 128 → daysN (daysT d) 7 = d ∧ 32 ∉ daysT d ∧ (1 ≤ d → 3 ≤ (daysT d).length) ∧ (daysT d).length ≤ 27 := by decide +kernel
set_option maxRecDepth 100000 in
theorem clock_back : ∀ m, m < 1441 → minT (clockT m) = (m : Int) ∧ 45 ∉ clockT m ∧ (clockT m).length = 5 := by decide +kernel
theorem cut_atH (c : UInt8) (x y : Bs) (h : c ∉ x) : Lib.cut (x ++ ([c] ++ y)) [c] = (x, y, true) := by
  have hi : Lib.index (x ++ ([c] ++ y)) [c] = (x.length : Int) := by
    refine Lib.index_first (by simp) ?_ ?_
    · unfold Lib.occAt; rw [List.drop_left]; simp [List.isPrefixOf]
    · intro j hj
      unfold Lib.occAt
      rw [List.drop_append_of_le_length (by omega)]
      cases hd : x.drop j with
      | nil => have := congrArg List.length hd; simp at this; omega
      | cons a l =>
        have hm : a ∈ x := List.mem_of_mem_drop (i := j) (by rw [hd]; simp)
        have : c ≠ a := fun e => h (e ▸ hm)
        simp [List.isPrefixOf, this]
  unfold Lib.cut
  rw [hi, if_pos (by omega), show ((x.length : Int)).toNat = x.length by omega, List.take_left, ← List.drop_drop, List.drop_left]
  rfl
theorem parse_text {d f t : Nat} (h : spanC d f t = true) : parseH (textT d f t) = some (d, f, t) := by
  have h0 := h
  unfold spanC at h
  rw [decide_eq_true_eq] at h
  obtain ⟨d1, d2, _, _⟩ := days_back d (by omega)
  obtain ⟨f1, f2, _⟩ := clock_back f (by omega)
  obtain ⟨t1, _, _⟩ := clock_back t (by omega)
  have c1 : Lib.cut (textT d f t) [32] = (daysT d, clockT f ++ ([45] ++ clockT t), true) := cut_atH _ _ _ d2
  have c2 : Lib.cut (clockT f ++ ([45] ++ clockT t)) [45] = (clockT f, clockT t, true) := cut_atH _ _ _ f2
  have e1 : pDays (textT d f t) = d := by unfold pDays; rw [c1]; exact d1
  have e2 : pFrom (textT d f t) = f := by unfold pFrom; rw [c1, c2]; exact f1
  have e3 : pTo (textT d f t) = t := by unfold pTo; rw [c1, c2]; exact t1
  unfold parseH
  rw [e1, e2, e3, Int.toNat_natCast, Int.toNat_natCast, if_pos ⟨h0, rfl⟩]
theorem parse_someH {s : Bs} {d f t : Nat} (h : parseH s = some (d, f, t)) : spanC d f t = true ∧ textT d f t = s := by
  unfold parseH at h
  split at h
  · rename_i hc
    obtain ⟨h1, h2⟩ := hc
    simp only [Option.some.injEq, Prod.mk.injEq] at h
    obtain ⟨rfl, rfl, rfl⟩ := h
    have hs := h1
    unfold spanC at hs
    rw [decide_eq_true_eq] at hs
    rw [Int.toNat_of_nonneg (by omega), Int.toNat_of_nonneg (by omega)]
    exact ⟨h1, h2⟩
  · cases h
theorem parse_iffH (s : Bs) (d f t : Nat) : parseH s = some (d, f, t) ↔ spanC d f t = true ∧ textT d f t = s :=
  ⟨parse_someH, fun ⟨h1, h2⟩ => h2 ▸ parse_text h1⟩
theorem textT_len {d f t : Nat} (h : spanC d f t = true) : 15 ≤ (textT d f t).length ∧ (textT d f t).length ≤ 39 := by
  unfold spanC at h
  rw [decide_eq_true_eq] at h
  obtain ⟨_, _, d3, d4⟩ := days_back d (by omega)
  obtain ⟨_, _, f3⟩ := clock_back f (by omega)
  obtain ⟨_, _, t3⟩ := clock_back t (by omega)
  have := d3 (by omega)
  unfold textT
  simp only [List.length_append, List.length_cons, List.length_nil]
  omega

/-- is a tick (from 0 on) within -/
def inR (d f t : Nat) (x : Nat) : Bool := hasT d (x / 60000 % 10080 / 1440) && decide (f ≤ x / 60000 % 10080 % 1440 ∧ x / 60000 % 10080 % 1440 < t)
def tickC (x : Int) : Bool := decide (0 ≤ x ∧ x ≤ 1099511627776)
def inT (n : Bs) (d f t x : Int) : Bool := bwC n && spanC d f t && tickC x && inR d.toNat f.toNat t.toNat x.toNat

theorem inR_week (d f t x : Nat) : inR d f t (x + 604800000) = inR d f t x := by
  unfold inR
  rw [show (x + 604800000) / 60000 % 10080 = x / 60000 % 10080 by omega]

/-- how many minutes of a week below m are within -/
def popT (d : Nat) : Nat → Nat
  | 0 => 0
  | k + 1 => popT d k + d / 2 ^ k % 2
def cntT (d f t m : Nat) : Nat := popT d (m / 1440) * (t - f) + (if hasT d (m / 1440) then min (m % 1440 - f) (t - f) else 0)
theorem cntT_zero (d f t : Nat) : cntT d f t 0 = 0 := by simp [cntT, popT]
theorem cntT_succ (d f t m : Nat) (hf : f < t) (ht : t ≤ 1440) : cntT d f t (m + 1) = cntT d f t m + (if hasT d (m / 1440) && decide (f ≤ m % 1440 ∧ m % 1440 < t) then 1 else 0) := by
  by_cases hb : m % 1440 = 1439
  · have e1 : (m + 1) / 1440 = m / 1440 + 1 := by omega
    have e2 : (m + 1) % 1440 = 0 := by omega
    unfold cntT
    rw [e1, e2, hb]
    have hlt := Nat.mod_two_eq_zero_or_one (d / 2 ^ (m / 1440))
    have hp : popT d (m / 1440 + 1) = popT d (m / 1440) + d / 2 ^ (m / 1440) % 2 := rfl
    rw [hp]
    unfold hasT
    rcases hlt with h | h
    · simp [h]
    · rw [h]
      simp only [decide_true, if_true, Bool.true_and, Nat.add_mul, Nat.one_mul, Nat.zero_sub, Nat.zero_min]
      by_cases h2 : t = 1440
      · have : (decide (f ≤ 1439 ∧ 1439 < t)) = true := by rw [decide_eq_true_eq]; omega
        rw [this]
        simp
        omega
      · have : (decide (f ≤ 1439 ∧ 1439 < t)) = false := by rw [decide_eq_false_iff_not]; omega
        rw [this]
        simp
        omega
  · have e1 : (m + 1) / 1440 = m / 1440 := by omega
    have e2 : (m + 1) % 1440 = m % 1440 + 1 := by omega
    unfold cntT
    rw [e1, e2]
    cases h : hasT d (m / 1440) with
    | false => simp
    | true =>
      simp only [if_true, Bool.true_and]
      by_cases h2 : f ≤ m % 1440 ∧ m % 1440 < t
      · have : decide (f ≤ m % 1440 ∧ m % 1440 < t) = true := decide_eq_true h2
        rw [this]
        simp
        omega
      · have : decide (f ≤ m % 1440 ∧ m % 1440 < t) = false := decide_eq_false h2
        rw [this]
        simp
        omega
theorem cntT_week (d f t : Nat) : cntT d f t 10080 = popT d 7 * (t - f) + (if hasT d 7 then min (0 - f) (t - f) else 0) := rfl
theorem cntT_all (d f t : Nat) (hd : d < 128) : cntT d f t 10080 = popT d 7 * (t - f) := by
  rw [cntT_week]
  have : hasT d 7 = false := by unfold hasT; rw [decide_eq_false_iff_not]; omega
  rw [this]; simp
theorem inR_min (d f t week m : Nat) (hm : m < 10080) : inR d f t ((10080 * week + m) * 60000 + 59999) = (hasT d (m / 1440) && decide (f ≤ m % 1440 ∧ m % 1440 < t)) := by
  unfold inR
  rw [show ((10080 * week + m) * 60000 + 59999) / 60000 % 10080 = m by omega]

/-- the ticks at which hours may begin or end, from the day of x on, in their order -/
def candT (f t x i : Nat) : Nat := ((x / 86400000 + i / 2) * 1440 + (if i % 2 = 0 then f else t)) * 60000
def goodT (d f t x i : Nat) : Bool := decide (x < candT f t x i ∧ candT f t x i ≤ 1099511627776) && (inR d f t (candT f t x i) != inR d f t (candT f t x i - 1))
theorem cand_mono (f t x i j : Nat) (hf : f < t) (ht : t ≤ 1440) (h : i ≤ j) : candT f t x i ≤ candT f t x j := by
  unfold candT
  have h1 : (i / 2) ≤ j / 2 := by omega
  by_cases h2 : i / 2 = j / 2
  · rw [h2]
    split <;> split <;> omega
  · split <;> split <;> omega
/-- where it changes, hours begin or end -/
theorem change_at {d f t y : Nat} (ht0 : t ≤ 1440) (h1 : 0 < y) (h : inR d f t y ≠ inR d f t (y - 1)) : ∃ D, y = (D * 1440 + f) * 60000 ∨ y = (D * 1440 + t) * 60000 := by
  unfold inR at h
  by_cases hm : y % 60000 = 0
  · have e : (y - 1) / 60000 = y / 60000 - 1 := by omega
    by_cases hd : y / 60000 % 1440 = 0
    · by_cases hf : f = 0
      · exact ⟨y / 60000 / 1440, .inl (by omega)⟩
      · by_cases ht : 1440 ≤ t
        · by_cases ht2 : t = 1440
          · refine ⟨y / 60000 / 1440 - 1, .inr ?_⟩
            have : 1440 ≤ y / 60000 := by omega
            omega
          · omega
        · exfalso
          apply h
          have a1 : y / 60000 % 10080 % 1440 = 0 := by omega
          have a2 : (y - 1) / 60000 % 10080 % 1440 = 1439 := by omega
          rw [a1, a2, decide_eq_false (by omega), decide_eq_false (by omega)]
          simp
    · have a1 : (y - 1) / 60000 % 10080 / 1440 = y / 60000 % 10080 / 1440 := by omega
      have a2 : (y - 1) / 60000 % 10080 % 1440 = y / 60000 % 10080 % 1440 - 1 := by omega
      have a3 : y / 60000 % 10080 % 1440 = y / 60000 % 1440 := by omega
      rw [a1, a2, a3] at h
      refine ⟨y / 60000 / 1440, ?_⟩
      by_cases b1 : y / 60000 % 1440 = f
      · exact .inl (by omega)
      · by_cases b2 : y / 60000 % 1440 = t
        · exact .inr (by omega)
        · exfalso
          apply h
          congr 1
          rw [decide_eq_decide]
          omega
  · exfalso
    apply h
    rw [show (y - 1) / 60000 = y / 60000 by omega]
theorem cand_of {f t x y D : Nat} (hD : x / 86400000 ≤ D) (h : y = (D * 1440 + f) * 60000 ∨ y = (D * 1440 + t) * 60000) : ∃ j, j / 2 = D - x / 86400000 ∧ y = candT f t x j := by
  rcases h with h | h
  · refine ⟨2 * (D - x / 86400000), by omega, ?_⟩
    unfold candT
    rw [show 2 * (D - x / 86400000) % 2 = 0 by omega, if_pos rfl, show x / 86400000 + 2 * (D - x / 86400000) / 2 = D by omega]
    exact h
  · refine ⟨2 * (D - x / 86400000) + 1, by omega, ?_⟩
    unfold candT
    rw [if_neg (by omega), show x / 86400000 + (2 * (D - x / 86400000) + 1) / 2 = D by omega]
    exact h
theorem still_to {d f t x i : Nat} (hf : f < t) (ht : t ≤ 1440) (_hi : i ≤ 16) (hn : ∀ j, j < i → goodT d f t x j = false) :
    ∀ k, x + k ≤ 1099511627776 → (i < 16 ∧ x + k < candT f t x i) ∨ (i = 16 ∧ x + k ≤ (x / 60000 + 10079) * 60000) → inR d f t (x + k) = inR d f t x := by
  intro k
  induction k with
  | zero => intro _ _; rfl
  | succ k ih =>
    intro hk hc
    rw [← ih (by omega) (by rcases hc with ⟨a, b⟩ | ⟨a, b⟩; exact .inl ⟨a, by omega⟩; exact .inr ⟨a, by omega⟩)]
    by_cases he : inR d f t (x + (k + 1)) = inR d f t (x + k)
    · exact he
    · exfalso
      have hch : inR d f t (x + (k + 1)) ≠ inR d f t (x + (k + 1) - 1) := by rw [show x + (k + 1) - 1 = x + k by omega]; exact he
      obtain ⟨D, hD⟩ := change_at ht (by omega) hch
      have hlo : x / 86400000 ≤ D := by rcases hD with h | h <;> omega
      obtain ⟨j, hj, hy⟩ := cand_of hlo hD
      have hgood : goodT d f t x j = true := by
        unfold goodT
        rw [← hy, decide_eq_true (by omega), Bool.true_and]
        simpa using hch
      have hji : i ≤ j := by
        apply Nat.le_of_not_lt
        intro h
        rw [hn j h] at hgood
        cases hgood
      have hm := cand_mono f t x i j hf ht hji
      rcases hc with ⟨a, b⟩ | ⟨a, b⟩
      · omega
      · have : j / 2 ≤ 7 := by rcases hD with h | h <;> omega
        omega
/-- the next change, by the first place of the row at which there is one -/
theorem good_is {d f t x i : Nat} (h : goodT d f t x i = true) : x < candT f t x i ∧ candT f t x i ≤ 1099511627776 ∧ inR d f t (candT f t x i) ≠ inR d f t (candT f t x i - 1) := by
  unfold goodT at h
  simp only [Bool.and_eq_true, decide_eq_true_eq, bne_iff_ne, ne_eq] at h
  exact ⟨h.1.1, h.1.2, h.2⟩
theorem cand_min (f t x i : Nat) : candT f t x i % 60000 = 0 := by unfold candT; omega
/-- where the first change is -/
def findT (d f t x : Nat) : Nat → Nat → Option Nat
  | _, 0 => none
  | i, n + 1 => if goodT d f t x i = true then some (candT f t x i) else findT d f t x (i + 1) n
def nextT (d f t x : Nat) : Option Nat := findT d f t x 0 16
theorem findT_none {d f t x : Nat} : ∀ (n i : Nat), findT d f t x i n = none → ∀ j, i ≤ j → j < i + n → goodT d f t x j = false := by
  intro n
  induction n with
  | zero => intro i _ j h1 h2; omega
  | succ n ih =>
    intro i h j h1 h2
    unfold findT at h
    split at h
    · cases h
    · rename_i hg
      by_cases e : j = i
      · subst e; simpa using hg
      · exact ih (i + 1) h j (by omega) (by omega)
theorem findT_some {d f t x y : Nat} : ∀ (n i : Nat), findT d f t x i n = some y → ∃ k, i ≤ k ∧ k < i + n ∧ y = candT f t x k ∧ goodT d f t x k = true ∧ ∀ j, i ≤ j → j < k → goodT d f t x j = false := by
  intro n
  induction n with
  | zero => intro i h; cases h
  | succ n ih =>
    intro i h
    unfold findT at h
    split at h
    · rename_i hg
      cases h
      exact ⟨i, Nat.le_refl _, by omega, rfl, hg, fun j a b => by omega⟩
    · rename_i hg
      obtain ⟨k, a, b, c, d', e⟩ := ih (i + 1) h
      refine ⟨k, by omega, by omega, c, d', fun j p q => ?_⟩
      by_cases e' : j = i
      · subst e'; simpa using hg
      · exact e j (by omega) q
/-- none: all the week is the same, or time ends -/
theorem next_none {d f t x : Nat} (hf : f < t) (ht : t ≤ 1440) (h : nextT d f t x = none) (b : Nat) (hb : b < 10080) (h1 : x ≤ (x / 60000 + b) * 60000) (h2 : (x / 60000 + b) * 60000 ≤ 1099511627776) :
    inR d f t ((x / 60000 + b) * 60000) = inR d f t x := by
  have hn := findT_none 16 0 h
  have := still_to (d := d) hf ht (Nat.le_refl 16) (fun j hj => hn j (Nat.zero_le _) (by omega)) ((x / 60000 + b) * 60000 - x) (by omega) (.inr ⟨rfl, by omega⟩)
  rw [show x + ((x / 60000 + b) * 60000 - x) = (x / 60000 + b) * 60000 by omega] at this
  exact this
/-- some: it is behind, at a minute's beginning; at it In is other, and till then it stays -/
theorem next_some {d f t x y : Nat} (hf : f < t) (ht : t ≤ 1440) (h : nextT d f t x = some y) :
    x < y ∧ y ≤ 1099511627776 ∧ y % 60000 = 0 ∧ inR d f t y ≠ inR d f t x ∧ (∀ z, x ≤ z → z < y → inR d f t z = inR d f t x) := by
  obtain ⟨k, _, hk, rfl, hg, hl⟩ := findT_some 16 0 h
  obtain ⟨g1, g2, g3⟩ := good_is hg
  have hs : ∀ z, x ≤ z → z < candT f t x k → inR d f t z = inR d f t x := by
    intro z z1 z2
    have := still_to (d := d) hf ht (show k ≤ 16 by omega) (fun j hj => hl j (Nat.zero_le _) hj) (z - x) (by omega) (.inl ⟨by omega, by omega⟩)
    rw [show x + (z - x) = z by omega] at this
    exact this
  refine ⟨g1, g2, cand_min f t x k, ?_, hs⟩
  rw [← hs (candT f t x k - 1) (by omega) (by omega)]
  exact g3
end Go.Proofs.YtmhekhilgllciaaGreat
