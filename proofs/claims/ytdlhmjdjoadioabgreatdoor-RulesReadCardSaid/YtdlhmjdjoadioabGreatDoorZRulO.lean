/- The document's own Sign, Number of layer 8. -/
import Derived.Test.YtdlhmjdjoadioabGreatDoorZRulX
namespace Go.Proofs.YtdlhmjdjoadioabGreatDoor
open Go.RowKit

/-! ### Mathematics -/
def valB (l : Bs) : Nat := l.foldl (fun a c => 10 * a + (c.toNat - 48)) 0
theorem valB_snoc (l : Bs) (c : UInt8) : valB (l ++ [c]) = 10 * valB l + (c.toNat - 48) := by simp [valB]
theorem fold_ge : ∀ (l : Bs) (a : Nat), a ≤ l.foldl (fun a c => 10 * a + (c.toNat - 48)) a
  | [], _ => Nat.le_refl _
  | c :: l, a => Nat.le_trans (by omega) (fold_ge l (10 * a + (c.toNat - 48)))
theorem valB_take (l : Bs) (j : Nat) : valB (l.take j) ≤ valB l := by
  have h := fold_ge (l.drop j) (valB (l.take j))
  unfold valB at h ⊢
  rw [← List.foldl_append, List.take_append_drop] at h
  exact h
theorem valB_dec (u : Nat) : valB (Lib.decDigits u) = u := by
  induction u using Nat.strongRecOn with
  | _ u ih =>
    rw [Lib.decDigits]
    split
    · rename_i hu
      have := dig_nat hu
      simp only [valB, List.foldl_cons, List.foldl_nil]
      omega
    · rw [valB_snoc, ih (u / 10) (by omega), dig_nat (by omega)]
      omega
def fromN (s : Bs) : Nat := match s with | c :: _ => if c.toNat = 45 then 1 else 0 | [] => 0
theorem drop_from {s : Bs} {m : Int} (h : s = Lib.itoa m) : s.drop (fromN s) = Lib.decDigits m.natAbs ∧ (fromN s = 1 → m < 0) ∧ (fromN s = 0 → 0 ≤ m) := by
  unfold Lib.itoa at h
  by_cases hm : m < 0
  · rw [if_pos hm] at h
    subst h
    exact ⟨rfl, fun _ => hm, (fun h => by cases h)⟩
  · rw [if_neg hm] at h
    have e : m.toNat = m.natAbs := by omega
    rw [e] at h
    have hz : fromN s = 0 := by
      cases s with
      | nil => rfl
      | cons c r =>
        have := dec_digits m.natAbs c (by rw [← h]; simp)
        show (if c.toNat = 45 then 1 else 0) = 0
        rw [if_neg (by omega)]
    rw [hz]
    exact ⟨by rw [List.drop_zero]; exact h, (fun h => by cases h), fun _ => by omega⟩
theorem itoaS_list (m : Int) : (itoaS m).data.toList = Lib.itoa m := rfl
theorem itoaS_inj {n m : Int} (h1 : -9223372036854775808 ≤ n) (h2 : n ≤ 9223372036854775807) (h3 : -9223372036854775808 ≤ m) (h4 : m ≤ 9223372036854775807) (h : itoaS n = itoaS m) : n = m := by
  rw [← numL_itoa n h1 h2, h, numL_itoa m h3 h4]
theorem num_ok {s : ByteArray} {m : Int} (h : s = itoaS m) (h1 : -1099511627776 ≤ m) (h2 : m ≤ 1099511627776) (k : Nat) (hk : k < s.size) (hF : fromN s.data.toList ≤ k) :
    (48 ≤ (s[k]'hk).toNat ∧ (s[k]'hk).toNat ≤ 57) ∧ valB ((s.data.toList.take k).drop (fromN s.data.toList)) ≤ 1099511627776 := by
  obtain ⟨hd, _, _⟩ := drop_from (s := s.data.toList) (m := m) (by rw [h, itoaS_list])
  have hlen : k < s.data.toList.length := hk
  constructor
  · have hm : s[k] ∈ Lib.decDigits m.natAbs := by
      rw [← hd]
      rw [List.mem_iff_getElem]
      refine ⟨k - fromN s.data.toList, by rw [List.length_drop]; omega, ?_⟩
      rw [List.getElem_drop]
      have e : fromN s.data.toList + (k - fromN s.data.toList) = k := by omega
      simp only [e]
      rfl
    exact dec_digits _ _ hm
  · rw [List.drop_take, hd]
    have := valB_take (Lib.decDigits m.natAbs) (k - fromN s.data.toList)
    rw [valB_dec] at this
    omega
theorem num_is {s : ByteArray} {m : Int} (h : s = itoaS m) : valB (s.data.toList.drop (fromN s.data.toList)) = m.natAbs ∧ (fromN s.data.toList = 1 → m < 0) ∧ (fromN s.data.toList = 0 → 0 ≤ m) := by
  obtain ⟨hd, h2⟩ := drop_from (s := s.data.toList) (m := m) (by rw [h, itoaS_list])
  rw [hd, valB_dec]
  exact ⟨rfl, h2⟩

theorem idxZ {P : Program} {t : TypeId} (W : World) (s : ByteArray) (i : Int) (k : Nat) (hi : i = (k : Int)) (hk : k < s.size) (ht : P.underlying t = some .string) :
    (Instr.index t (.string s) (.int .i64 i)).run P W = .ok (.int .u8 ((s[k]'hk).toNat : Int)) W := by
  subst hi
  simp [Instr.index, run_underlying ht, asIntOf, hk, go_sem]

/-! ### Sign -/
set_option maxHeartbeats 1600000 in
set_option maxRecDepth 100000 in
theorem rSign_any (k : Int) (h1 : 1 ≤ k) (h5 : k ≤ 5) (w : World) : Calls Tryz.prog 27 #[.int .i64 k] w (StrZ (signL k) w) := by
  have hB := Blk.new w 9 #[.string ⟨#[]⟩, .string ⟨#[62]⟩, .string ⟨#[62, 61]⟩, .string ⟨#[60]⟩, .string ⟨#[60, 61]⟩, .string ⟨#[61, 61]⟩]
  have hb := (Below.refl w.heap.size w).alloc (Nat.le_refl _) (.cells #[.string ⟨#[]⟩, .string ⟨#[62]⟩, .string ⟨#[62, 61]⟩, .string ⟨#[60]⟩, .string ⟨#[60, 61]⟩, .string ⟨#[61, 61]⟩] 9)
  have c0 := hB.cell 0
  have c1 := hB.cell 1
  have c2 := hB.cell 2
  have c3 := hB.cell 3
  have c4 := hB.cell 4
  have c5 := hB.cell 5
  have HB := Lib.hid hb
  clear hb hB
  have hk : k = 1 ∨ k = 2 ∨ k = 3 ∨ k = 4 ∨ k = 5 := by omega
  clear h1 h5
  rcases hk with rfl | rfl | rfl | rfl | rfl
  all_goals
    go_enter Tryz.func27, Tryz.ntmps27
    go_wp2_with fail
    go_ret
    exact ⟨rfl, HB.out⟩

/-! ### Number -/
/-- what Number answers: a number whose text is s, or one that none has; if s is the text of one that may be, that one -/
def NumR (s : ByteArray) (w : World) (e : Ending) (w' : World) : Prop := ∃ n : Int, e = .returned (.int .i64 n) ∧ (n = 2199023255552 ∨ itoaS n = s) ∧ (∀ m : Int, -1099511627776 ≤ m → m ≤ 1099511627776 → s = itoaS m → n = m) ∧ Below w.heap.size w w'
set_option maxHeartbeats 6400000 in
set_option maxRecDepth 100000 in
theorem rNumber_any (s : ByteArray) (w : World) (hT : TabW w) (hs : s.size ≤ 100000) : Calls Tryz.prog 26 #[.string s] w (NumR s w) := by
  have hlen : s.data.toList.length = s.size := rfl
  have HOK := Lib.hid (fun (m : Int) (h : s = itoaS m) => num_ok h)
  have HIS := Lib.hid (fun (m : Int) (h : s = itoaS m) => num_is h)
  have hcase : (fromN s.data.toList = 1 ∧ ∃ h0 : 0 < s.size, (s[0]'h0).toNat = 45) ∨ (fromN s.data.toList = 0 ∧ (s.size = 0 ∨ ∃ h0 : 0 < s.size, (s[0]'h0).toNat ≠ 45)) := by
    rcases Nat.eq_zero_or_pos s.size with h0 | h0
    · refine .inr ⟨?_, .inl h0⟩
      have : s.data.toList = [] := List.eq_nil_of_length_eq_zero (by rw [hlen]; exact h0)
      rw [this]; rfl
    · have e : s.data.toList = s[0] :: s.data.toList.drop 1 := by
        have h := List.drop_eq_getElem_cons (l := s.data.toList) (i := 0) (by rw [hlen]; exact h0)
        rw [List.drop_zero] at h
        exact h
      by_cases h45 : (s[0]'h0).toNat = 45
      · refine .inl ⟨?_, h0, h45⟩
        rw [e]; show (if (s[0]'h0).toNat = 45 then 1 else 0) = 1; rw [if_pos h45]
      · refine .inr ⟨?_, .inr ⟨h0, h45⟩⟩
        rw [e]; show (if (s[0]'h0).toNat = 45 then 1 else 0) = 0; rw [if_neg h45]
  have hstep : ∀ F k (hk : k < s.size), F ≤ k → valB ((s.data.toList.take (k + 1)).drop F) = 10 * valB ((s.data.toList.take k).drop F) + ((s[k]'hk).toNat - 48) := fun F k hk hF => by
    rw [List.take_succ_eq_append_getElem (by rw [hlen]; exact hk), List.drop_append_of_le_length (by rw [List.length_take, hlen]; omega), valB_snoc]
    rfl
  have hidx := fun (k : Nat) (hk : k < s.size) (W : World) => idxZ (P := Tryz.prog) W s (k : Int) k rfl hk Tryz.underlying9
  have HSTEP := Lib.hid hstep
  have HIDX := Lib.hid hidx
  have HLEN := Lib.hid hlen
  clear hstep hidx hlen
  have HTT := Lib.hid hT
  clear hT
  rcases hcase with ⟨hf, h0, h45⟩ | ⟨hf, h0⟩
  · have HFR := Lib.hid hf
    have hi00 : ∀ W, (Instr.index 9 (.string s) (.int .i64 0)).run Tryz.prog W = .ok (.int .u8 ((s[0]'h0).toNat : Int)) W := fun W => HIDX.out 0 h0 W
    have h45' : (((s[0]'h0).toNat : Int) == 45) = true := beq_iff_eq.2 (by omega)
    have h0' : decide (0 < (s.size : Int)) = true := decide_eq_true (by omega)
    generalize (s[0]'h0).toNat = c0 at *
    clear hf h45
    go_enter Tryz.func26, Tryz.ntmps26
    go_wp2_with fail
    · clear hi00 h45' h0'

      go_loopg [3, 5] (s.size - 1) (fun gg nv iv wr => ∃ k : Nat, k + gg = s.size ∧ 1 ≤ k ∧ iv = .int .i64 k ∧ (∃ v : Nat, nv = .int .i64 (v : Int) ∧ Hid (v = valB ((s.data.toList.take k).drop 1)) ∧ v ≤ 12094627905545) ∧ w = wr)
      case atStart => exact ⟨1, by omega, Nat.le_refl _, rfl, ⟨0, rfl, Lib.hid (by rw [List.drop_take]; simp [valB]), by omega⟩, rfl⟩
      case round =>
        obtain ⟨k, hkg, hFk, rfl, ⟨v, rfl, HV, hv⟩, rfl⟩ := hrel
        cases gk with
        | zero =>
          obtain rfl : k = s.size := by omega
          have hVV : v = valB (s.data.toList.drop 1) := by
            rw [HV.out, List.take_of_length_le (by rw [HLEN.out]; exact Nat.le_refl _)]
          have hm : ∀ m : Int, -1099511627776 ≤ m → m ≤ 1099511627776 → s = itoaS m → -(v : Int) = m := fun m h1 h2 h => by
            obtain ⟨q1, q2, q3⟩ := HIS.out m h
            rw [HFR.out] at q1 q2 q3
            rw [← hVV] at q1
            have := q2 rfl
            omega
          have hit := itoa_any (-(v : Int)) (by omega) (by omega) w HTT.out
          have heq : (((itoaS (-(v : Int))).toList == s.toList)) = decide (itoaS (-(v : Int)) = s) := toList_eq_iff _ _
          have HM := Lib.hid hm
          have HIT := Lib.hid hit
          clear hVV hm hit HV HSTEP HIDX
          by_cases hq : itoaS (-(v : Int)) = s
          · rw [decide_eq_true hq] at heq
            have HQ := Lib.hid hq
            clear hq
            go_wp2_with (go_at_call 20; refine HIT.out.mono ?_; rintro e w2 ⟨rfl, hb2⟩)
            go_ret
            exact ⟨_, rfl, .inr (by first | exact HQ.out | (simp only [Int.zero_sub]; exact HQ.out)), fun m h1 h2 h => by first | exact HM.out m h1 h2 h | (simp only [Int.zero_sub]; exact HM.out m h1 h2 h), hb2⟩
          · rw [decide_eq_false hq] at heq
            have HQ := Lib.hid hq
            clear hq
            go_wp2_with (go_at_call 20; refine HIT.out.mono ?_; rintro e w2 ⟨rfl, hb2⟩)
            go_ret
            exact ⟨_, rfl, .inl rfl, fun m h1 h2 h => absurd (by rw [HM.out m h1 h2 h]; exact h.symm) HQ.out, hb2⟩
        | succ gg =>
          have hkl : k < s.size := by omega
          have hi0 := HIDX.out k hkl
          have hok : ∀ m : Int, -1099511627776 ≤ m → m ≤ 1099511627776 → s = itoaS m → (48 ≤ (s[k]'hkl).toNat ∧ (s[k]'hkl).toNat ≤ 57) ∧ v ≤ 1099511627776 := fun m h1 h2 h => by
            have := HOK.out m h h1 h2 k hkl (by rw [HFR.out]; exact hFk)
            rw [HFR.out] at this
            rw [HV.out]; exact this
          have hst := HSTEP.out 1 k hkl hFk
          rw [← HV.out] at hst
          have hc256 : (s[k]'hkl).toNat < 256 := UInt8.toNat_lt _
          generalize (s[k]'hkl).toNat = c at *
          have HST := Lib.hid hst
          have HOKK := Lib.hid hok
          clear hst hok HV
          by_cases h1 : c < 48
          · have d1 : decide ((c : Int) < 48) = true := decide_eq_true (by omega)
            have hbad : ∀ m : Int, -1099511627776 ≤ m → m ≤ 1099511627776 → s = itoaS m → (2199023255552 : Int) = m := fun m g1 g2 g => by have := HOKK.out m g1 g2 g; omega
            have HBAD := Lib.hid hbad
            clear hbad h1
            go_wp2_with fail
            go_ret
            exact ⟨_, rfl, .inl rfl, HBAD.out, Below.refl _ _⟩
          · have d1 : decide ((c : Int) < 48) = false := decide_eq_false (by omega)
            by_cases h2 : 57 < c
            · have d2 : decide (57 < (c : Int)) = true := decide_eq_true (by omega)
              have hbad : ∀ m : Int, -1099511627776 ≤ m → m ≤ 1099511627776 → s = itoaS m → (2199023255552 : Int) = m := fun m g1 g2 g => by have := HOKK.out m g1 g2 g; omega
              have HBAD := Lib.hid hbad
              clear hbad h1 h2
              go_wp2_with fail
              go_ret
              exact ⟨_, rfl, .inl rfl, HBAD.out, Below.refl _ _⟩
            · have d2 : decide (57 < (c : Int)) = false := decide_eq_false (by omega)
              by_cases h3 : 1099511627776 < v
              · have d3 : decide (1099511627776 < (v : Int)) = true := decide_eq_true (by omega)
                have hbad : ∀ m : Int, -1099511627776 ≤ m → m ≤ 1099511627776 → s = itoaS m → (2199023255552 : Int) = m := fun m g1 g2 g => by have := HOKK.out m g1 g2 g; omega
                have HBAD := Lib.hid hbad
                clear hbad h1 h2 h3 hv
                go_wp2_with fail
                go_ret
                exact ⟨_, rfl, .inl rfl, HBAD.out, Below.refl _ _⟩
              · have d3 : decide (1099511627776 < (v : Int)) = false := decide_eq_false (by omega)
                have k1 : IntKind.u8.wrap ((c : Int) - 48) = ((c - 48 : Nat) : Int) := by
                  rw [IntWalk.u8_in _ (by omega)]; omega
                have hc9 : c - 48 ≤ 9 := by omega
                obtain ⟨dg, hdg⟩ : ∃ dg, c - 48 = dg := ⟨_, rfl⟩
                rw [hdg] at k1 hc9 HST
                have hv3 : v ≤ 1099511627776 := by omega
                clear h1 h2 h3 hv hdg hc256
                go_wp2_with fail
                go_roundg gg
                case measure => omega
                case rel => exact ⟨k + 1, by omega, by omega, by go_num, ⟨10 * v + dg, by go_num, Lib.hid (by rw [HST.out]), by omega⟩, rfl⟩
  · have HFR := Lib.hid hf
    rcases h0 with h0 | ⟨h0, h45⟩
    · have h0' : decide (0 < (s.size : Int)) = false := decide_eq_false (by omega)
      go_enter Tryz.func26, Tryz.ntmps26
      go_wp2_with fail
      clear h0'

      go_loopg [3, 5] (s.size - 0) (fun gg nv iv wr => ∃ k : Nat, k + gg = s.size ∧ 0 ≤ k ∧ iv = .int .i64 k ∧ (∃ v : Nat, nv = .int .i64 (v : Int) ∧ Hid (v = valB ((s.data.toList.take k).drop 0)) ∧ v ≤ 12094627905545) ∧ w = wr)
      case atStart => exact ⟨0, by omega, Nat.le_refl _, rfl, ⟨0, rfl, Lib.hid (by rw [List.drop_take]; simp [valB]), by omega⟩, rfl⟩
      case round =>
        obtain ⟨k, hkg, hFk, rfl, ⟨v, rfl, HV, hv⟩, rfl⟩ := hrel
        cases gk with
        | zero =>
          obtain rfl : k = s.size := by omega
          have hVV : v = valB (s.data.toList.drop 0) := by
            rw [HV.out, List.take_of_length_le (by rw [HLEN.out]; exact Nat.le_refl _)]
          have hm : ∀ m : Int, -1099511627776 ≤ m → m ≤ 1099511627776 → s = itoaS m → (v : Int) = m := fun m h1 h2 h => by
            obtain ⟨q1, q2, q3⟩ := HIS.out m h
            rw [HFR.out] at q1 q2 q3
            rw [← hVV] at q1
            have := q3 rfl
            omega
          have hit := itoa_any ((v : Int)) (by omega) (by omega) w HTT.out
          have heq : (((itoaS ((v : Int))).toList == s.toList)) = decide (itoaS ((v : Int)) = s) := toList_eq_iff _ _
          have HM := Lib.hid hm
          have HIT := Lib.hid hit
          clear hVV hm hit HV HSTEP HIDX
          by_cases hq : itoaS ((v : Int)) = s
          · rw [decide_eq_true hq] at heq
            have HQ := Lib.hid hq
            clear hq
            go_wp2_with (go_at_call 20; refine HIT.out.mono ?_; rintro e w2 ⟨rfl, hb2⟩)
            go_ret
            exact ⟨_, rfl, .inr (by first | exact HQ.out | (simp only [Int.zero_sub]; exact HQ.out)), fun m h1 h2 h => by first | exact HM.out m h1 h2 h | (simp only [Int.zero_sub]; exact HM.out m h1 h2 h), hb2⟩
          · rw [decide_eq_false hq] at heq
            have HQ := Lib.hid hq
            clear hq
            go_wp2_with (go_at_call 20; refine HIT.out.mono ?_; rintro e w2 ⟨rfl, hb2⟩)
            go_ret
            exact ⟨_, rfl, .inl rfl, fun m h1 h2 h => absurd (by rw [HM.out m h1 h2 h]; exact h.symm) HQ.out, hb2⟩
        | succ gg => omega
    · have hi00 : ∀ W, (Instr.index 9 (.string s) (.int .i64 0)).run Tryz.prog W = .ok (.int .u8 ((s[0]'h0).toNat : Int)) W := fun W => HIDX.out 0 h0 W
      have h45' : (((s[0]'h0).toNat : Int) == 45) = false := beq_eq_false_iff_ne.2 (by omega)
      have h0' : decide (0 < (s.size : Int)) = true := decide_eq_true (by omega)
      generalize (s[0]'h0).toNat = c0 at *
      clear h45
      go_enter Tryz.func26, Tryz.ntmps26
      go_wp2_with fail
      clear hi00 h45' h0'

      go_loopg [3, 5] (s.size - 0) (fun gg nv iv wr => ∃ k : Nat, k + gg = s.size ∧ 0 ≤ k ∧ iv = .int .i64 k ∧ (∃ v : Nat, nv = .int .i64 (v : Int) ∧ Hid (v = valB ((s.data.toList.take k).drop 0)) ∧ v ≤ 12094627905545) ∧ w = wr)
      case atStart => exact ⟨0, by omega, Nat.le_refl _, rfl, ⟨0, rfl, Lib.hid (by rw [List.drop_take]; simp [valB]), by omega⟩, rfl⟩
      case round =>
        obtain ⟨k, hkg, hFk, rfl, ⟨v, rfl, HV, hv⟩, rfl⟩ := hrel
        cases gk with
        | zero =>
          obtain rfl : k = s.size := by omega
          have hVV : v = valB (s.data.toList.drop 0) := by
            rw [HV.out, List.take_of_length_le (by rw [HLEN.out]; exact Nat.le_refl _)]
          have hm : ∀ m : Int, -1099511627776 ≤ m → m ≤ 1099511627776 → s = itoaS m → (v : Int) = m := fun m h1 h2 h => by
            obtain ⟨q1, q2, q3⟩ := HIS.out m h
            rw [HFR.out] at q1 q2 q3
            rw [← hVV] at q1
            have := q3 rfl
            omega
          have hit := itoa_any ((v : Int)) (by omega) (by omega) w HTT.out
          have heq : (((itoaS ((v : Int))).toList == s.toList)) = decide (itoaS ((v : Int)) = s) := toList_eq_iff _ _
          have HM := Lib.hid hm
          have HIT := Lib.hid hit
          clear hVV hm hit HV HSTEP HIDX
          by_cases hq : itoaS ((v : Int)) = s
          · rw [decide_eq_true hq] at heq
            have HQ := Lib.hid hq
            clear hq
            go_wp2_with (go_at_call 20; refine HIT.out.mono ?_; rintro e w2 ⟨rfl, hb2⟩)
            go_ret
            exact ⟨_, rfl, .inr (by first | exact HQ.out | (simp only [Int.zero_sub]; exact HQ.out)), fun m h1 h2 h => by first | exact HM.out m h1 h2 h | (simp only [Int.zero_sub]; exact HM.out m h1 h2 h), hb2⟩
          · rw [decide_eq_false hq] at heq
            have HQ := Lib.hid hq
            clear hq
            go_wp2_with (go_at_call 20; refine HIT.out.mono ?_; rintro e w2 ⟨rfl, hb2⟩)
            go_ret
            exact ⟨_, rfl, .inl rfl, fun m h1 h2 h => absurd (by rw [HM.out m h1 h2 h]; exact h.symm) HQ.out, hb2⟩
        | succ gg =>
          have hkl : k < s.size := by omega
          have hi0 := HIDX.out k hkl
          have hok : ∀ m : Int, -1099511627776 ≤ m → m ≤ 1099511627776 → s = itoaS m → (48 ≤ (s[k]'hkl).toNat ∧ (s[k]'hkl).toNat ≤ 57) ∧ v ≤ 1099511627776 := fun m h1 h2 h => by
            have := HOK.out m h h1 h2 k hkl (by rw [HFR.out]; exact hFk)
            rw [HFR.out] at this
            rw [HV.out]; exact this
          have hst := HSTEP.out 0 k hkl hFk
          rw [← HV.out] at hst
          have hc256 : (s[k]'hkl).toNat < 256 := UInt8.toNat_lt _
          generalize (s[k]'hkl).toNat = c at *
          have HST := Lib.hid hst
          have HOKK := Lib.hid hok
          clear hst hok HV
          by_cases h1 : c < 48
          · have d1 : decide ((c : Int) < 48) = true := decide_eq_true (by omega)
            have hbad : ∀ m : Int, -1099511627776 ≤ m → m ≤ 1099511627776 → s = itoaS m → (2199023255552 : Int) = m := fun m g1 g2 g => by have := HOKK.out m g1 g2 g; omega
            have HBAD := Lib.hid hbad
            clear hbad h1
            go_wp2_with fail
            go_ret
            exact ⟨_, rfl, .inl rfl, HBAD.out, Below.refl _ _⟩
          · have d1 : decide ((c : Int) < 48) = false := decide_eq_false (by omega)
            by_cases h2 : 57 < c
            · have d2 : decide (57 < (c : Int)) = true := decide_eq_true (by omega)
              have hbad : ∀ m : Int, -1099511627776 ≤ m → m ≤ 1099511627776 → s = itoaS m → (2199023255552 : Int) = m := fun m g1 g2 g => by have := HOKK.out m g1 g2 g; omega
              have HBAD := Lib.hid hbad
              clear hbad h1 h2
              go_wp2_with fail
              go_ret
              exact ⟨_, rfl, .inl rfl, HBAD.out, Below.refl _ _⟩
            · have d2 : decide (57 < (c : Int)) = false := decide_eq_false (by omega)
              by_cases h3 : 1099511627776 < v
              · have d3 : decide (1099511627776 < (v : Int)) = true := decide_eq_true (by omega)
                have hbad : ∀ m : Int, -1099511627776 ≤ m → m ≤ 1099511627776 → s = itoaS m → (2199023255552 : Int) = m := fun m g1 g2 g => by have := HOKK.out m g1 g2 g; omega
                have HBAD := Lib.hid hbad
                clear hbad h1 h2 h3 hv
                go_wp2_with fail
                go_ret
                exact ⟨_, rfl, .inl rfl, HBAD.out, Below.refl _ _⟩
              · have d3 : decide (1099511627776 < (v : Int)) = false := decide_eq_false (by omega)
                have k1 : IntKind.u8.wrap ((c : Int) - 48) = ((c - 48 : Nat) : Int) := by
                  rw [IntWalk.u8_in _ (by omega)]; omega
                have hc9 : c - 48 ≤ 9 := by omega
                obtain ⟨dg, hdg⟩ : ∃ dg, c - 48 = dg := ⟨_, rfl⟩
                rw [hdg] at k1 hc9 HST
                have hv3 : v ≤ 1099511627776 := by omega
                clear h1 h2 h3 hv hdg hc256
                go_wp2_with fail
                go_roundg gg
                case measure => omega
                case rel => exact ⟨k + 1, by omega, by omega, by go_num, ⟨10 * v + dg, by go_num, Lib.hid (by rw [HST.out]), by omega⟩, rfl⟩
end Go.Proofs.YtdlhmjdjoadioabGreatDoor
