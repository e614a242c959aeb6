/- The contract of hours.Next. -/
import Derived.Test.YtekcmgajjbdmgabDoorHrsB
import Derived.Test.YtekcmgajjbdmgabDoorIdxV
import Derived.Test.YtekcmgajjbdmgabDoorLater
import Derived.Outline
namespace Go.Proofs.YtekcmgajjbdmgabDoor
open Go.RowKit

def nextI (n : Bs) (d f t x : Int) : Int × Int :=
  if bwC n && spanC d f t && tickC x then (match nextT d.toNat f.toNat t.toNat x.toNat with | some y => ((y : Int), 0) | none => (0, 9)) else (0, 1)
def NextP (r : Int × Int) (w : World) (e : Ending) (w' : World) : Prop := e = .returned (.tuple #[.int .i64 r.1, .int .i64 r.2]) ∧ Below w.heap.size w w'

theorem candT_le {f t x i : Nat} (hx : x ≤ 1099511627776) (hf : f < t) (ht : t ≤ 1440) (hi : i < 16) : candT f t x i ≤ 1200000000000 := by
  unfold candT
  split <;> omega
/-- the first place at which there is a change ends the row -/
theorem nextT_hit {d f t x k : Nat} (hk : k < 16) (hg : goodT d f t x k = true) (hl : ∀ j, j < k → goodT d f t x j = false) : nextT d f t x = some (candT f t x k) := by
  cases h : nextT d f t x with
  | none =>
    have := findT_none 16 0 h k (Nat.zero_le _) (by omega)
    rw [this] at hg; cases hg
  | some y =>
    obtain ⟨m, _, hm, rfl, hgm, hlm⟩ := findT_some 16 0 h
    have : m = k := by
      rcases Nat.lt_trichotomy m k with h1 | h1 | h1
      · have := hl m h1; rw [this] at hgm; cases hgm
      · exact h1
      · have := hlm k (Nat.zero_le _) h1; rw [this] at hg; cases hg
    rw [this]
theorem nextT_miss {d f t x : Nat} (hl : ∀ j, j < 16 → goodT d f t x j = false) : nextT d f t x = none := by
  cases h : nextT d f t x with
  | none => rfl
  | some y =>
    obtain ⟨m, _, hm, rfl, hgm, _⟩ := findT_some 16 0 h
    have := hl m (by omega); rw [this] at hgm; cases hgm

set_option maxHeartbeats 3200000 in
set_option maxRecDepth 100000 in
theorem hNext_any (n : ByteArray) (d f t x : Int) (w : World) (hn : n.size ≤ maxLen) :
    Calls Tryd.prog 23 #[.agg #[.string n, .int .i64 d, .int .i64 f, .int .i64 t], .int .i64 x] w (NextP (nextI n.data.toList d f t x) w) := by
  have hR := fun W => hRight_any n d f t W hn
  have hT := fun W => hTick_any x W
  have hI := fun W x => hIn_any n d f t x W hn
  have hb0 := (Below.refl w.heap.size w).alloc (Nat.le_refl _) (.cells #[.string n, .int .i64 d, .int .i64 f, .int .i64 t] 33)
  unfold nextI
  unfold inT at hI
  cases hr : bwC n.data.toList && spanC d f t with
  | false =>
    rw [hr] at hR
    rw [Bool.false_and, if_neg (by simp)]
    clear hr hI
    go_enter Tryd.func23, Tryd.ntmps23
    go_wp2_with (go_at_call 17; refine (hR _).mono ?_; rintro e w2 ⟨rfl, hb2⟩)
    go_ret2
    exact ⟨rfl, bthen hb0 hb2⟩
  | true =>
    rw [hr] at hR hI
    cases ht : tickC x with
    | false =>
      rw [ht] at hT
      rw [Bool.and_false, if_neg (by simp)]
      clear hr ht hI
      go_enter Tryd.func23, Tryd.ntmps23
      go_wp2_with (first | (go_at_call 17; refine (hR _).mono ?_; rintro e w2 ⟨rfl, hb2⟩) | (go_at_call 40; refine (hT _).mono ?_; rintro e w3 ⟨rfl, rfl⟩))
      go_ret2
      exact ⟨rfl, bthen hb0 hb2⟩
    | true =>
      rw [ht] at hT
      rw [Bool.and_eq_true] at hr
      have hs := hr.2
      unfold spanC at hs
      unfold tickC at ht
      rw [decide_eq_true_eq] at hs ht
      obtain ⟨d, rfl⟩ := Int.eq_ofNat_of_zero_le (show 0 ≤ d by omega)
      obtain ⟨f, rfl⟩ := Int.eq_ofNat_of_zero_le (show 0 ≤ f by omega)
      obtain ⟨t, rfl⟩ := Int.eq_ofNat_of_zero_le (show 0 ≤ t by omega)
      obtain ⟨x, rfl⟩ := Int.eq_ofNat_of_zero_le (show 0 ≤ x by omega)
      simp only [Int.toNat_natCast, Bool.true_and, if_true] at hI ⊢
      have hx : x ≤ 1099511627776 := by omega
      have hft : f < t := by omega
      have ht' : t ≤ 1440 := by omega
      have hIn : ∀ W (y : Nat), y ≤ 1099511627776 → Calls Tryd.prog 19 #[.agg #[.string n, .int .i64 (d : Int), .int .i64 (f : Int), .int .i64 (t : Int)], .int .i64 (y : Int)] W (BoolW (inR d f t y) W) := by
        intro W y hy
        have h := hI W (y : Int)
        have e : tickC (y : Int) = true := by unfold tickC; rw [decide_eq_true_eq]; omega
        rw [e, Bool.true_and, Int.toNat_natCast] at h
        exact h
      have HIN := Lib.hid hIn
      have HX := Lib.hid hx
      have HFT := Lib.hid (And.intro hft ht')
      have e0 : (x : Int).tdiv 86400000 = ((x / 86400000 : Nat) : Int) := by rw [Int.tdiv_eq_ediv_of_nonneg (by omega)]; omega
      have hq : x / 86400000 ≤ 12726 := by omega
      have hcl := fun i (hi : i < 16) => candT_le hx hft ht' hi
      have HCL := Lib.hid hcl
      have hce : ∀ i, candT f t x i = ((x / 86400000 + i / 2) * 1440 + (if i % 2 = 0 then f else t)) * 60000 := fun i => rfl
      have HCE := Lib.hid hce
      obtain ⟨r, hrr⟩ : ∃ r : Int × Int, (match nextT d f t x with | some y => ((y : Int), 0) | none => (0, 9)) = r := ⟨_, rfl⟩
      rw [hrr]
      have HN := Lib.hid hrr
      clear hr hs ht hI hIn hft hcl hce hrr
      generalize hQ : x / 86400000 = q at *
      clear hQ hx
      go_enter Tryd.func23, Tryd.ntmps23
      go_wp2_with (first | (go_at_call 17; refine (hR _).mono ?_; rintro e w2 ⟨rfl, hb2⟩) | (go_at_call 40; refine (hT _).mono ?_; rintro e w3 ⟨rfl, rfl⟩))
      have hb3 := bthen hb0 hb2
      go_loopg [7, 9, 10] 8 (fun gg iv _ _ wr => ∃ j : Nat, j + gg = 8 ∧ iv = .int .i64 ((q + j : Nat) : Int) ∧ Hid (∀ i, i < 2 * j → goodT d f t x i = false) ∧ Below (w.alloc (.cells #[.string n, .int .i64 (d : Int), .int .i64 (f : Int), .int .i64 (t : Int)] 33)).heap.size (w.alloc (.cells #[.string n, .int .i64 (d : Int), .int .i64 (f : Int), .int .i64 (t : Int)] 33)) wr)
      case atStart => exact ⟨0, rfl, rfl, Lib.hid (fun i hi => absurd hi (by omega)), hb2⟩
      case round =>
        have hx0 := fun W (a b : Value) => run_indexV (P := Tryd.prog) W 72 3 2 #[a, b] 0 0 a Tryd.underlying72 rfl (by omega) rfl sizeInt aggInt
        have hx1 := fun W (a b : Value) => run_indexV (P := Tryd.prog) W 72 3 2 #[a, b] 1 1 b Tryd.underlying72 rfl (by omega) rfl sizeInt aggInt
        obtain ⟨j, hjg, rfl, HG, hwr⟩ := hrel
        obtain ⟨k0, k1, k2, k3⟩ := box4 hwr
        have hbr := bthen hb0 hwr
        cases gk with
        | zero =>
          obtain rfl : j = 8 := by omega
          have hn0 := nextT_miss (d := d) (f := f) (t := t) (x := x) (fun i hi => HG.out i (by omega))
          have hr0 := HN.out
          rw [hn0] at hr0
          subst hr0
          clear hn0 hjg HG
          go_wp2_with fail
          go_ret2
          exact ⟨rfl, hbr⟩
        | succ g =>
          have hjq : j ≤ 7 := by omega
          obtain ⟨D, hDq⟩ : ∃ D, q + j = D := ⟨_, rfl⟩
          rw [hDq]
          have hD : (D : Int) ≤ (q : Int) + 7 := by omega
          have hDl : D ≤ 12734 := by omega
          have HDQ := Lib.hid hDq
          clear hDq
          go_upto_region 8 with fail
          clear hD
          go_loopg [33, 9, 10] 2 (fun gg iv _ _ wq => ∃ m : Nat, m + gg = 2 ∧ iv = .int .i64 ((m : Nat) : Int) ∧ Hid (∀ i, i < 2 * j + m → goodT d f t x i = false) ∧ Below (w.alloc (.cells #[.string n, .int .i64 (d : Int), .int .i64 (f : Int), .int .i64 (t : Int)] 33)).heap.size (w.alloc (.cells #[.string n, .int .i64 (d : Int), .int .i64 (f : Int), .int .i64 (t : Int)] 33)) wq)
          case atStart => exact ⟨0, rfl, rfl, Lib.hid (fun i hi => HG.out i (by omega)), hwr⟩
          case round =>
            obtain ⟨m, hmg, rfl, HG2, hwq⟩ := hrel
            clear k0 k1 k2 k3
            obtain ⟨k0, k1, k2, k3⟩ := box4 hwq
            have hbq := bthen hb0 hwq
            cases gk with
            | zero =>
              obtain rfl : m = 2 := by omega
              clear HG hmg
              go_wp2_with fail
              go_roundg g
              case measure => omega
              case rel => exact ⟨j + 1, by omega, by have := HDQ.out; rw [show q + (j + 1) = D + 1 by omega]; go_num, Lib.hid (fun i hi => HG2.out i (by omega)), hwq⟩
            | succ g2 =>
              have hm01 : m = 0 ∧ g2 = 1 ∨ m = 1 ∧ g2 = 0 := by omega
              have hce := HCE.out (2 * j + m)
              have hcl := HCL.out (2 * j + m) (by omega)
              have hng := nextT_hit (d := d) (f := f) (t := t) (x := x) (k := 2 * j + m) (by omega)
              have hgd : goodT d f t x (2 * j + m) = (decide (x < candT f t x (2 * j + m) ∧ candT f t x (2 * j + m) ≤ 1099511627776) && (inR d f t (candT f t x (2 * j + m)) != inR d f t (candT f t x (2 * j + m) - 1))) := rfl
              rw [show (2 * j + m) / 2 = j by omega, HDQ.out] at hce
              generalize hc : candT f t x (2 * j + m) = c at *
              have hstep : goodT d f t x (2 * j + m) = false → ∀ i, i < 2 * j + (m + 1) → goodT d f t x i = false := fun h i hi => by
                by_cases e : i = 2 * j + m
                · rw [e]; exact h
                · exact HG2.out i (by omega)
              have hhit : goodT d f t x (2 * j + m) = true → r = ((c : Int), 0) := fun h => by
                have h1 := hng h (fun i hi => HG2.out i (by omega))
                have h2 := HN.out
                rw [h1] at h2
                exact h2.symm
              have HSTEP := Lib.hid hstep
              have HHIT := Lib.hid hhit
              have HGD := Lib.hid hgd
              obtain ⟨hft, ht'⟩ := HFT.out
              clear hng hstep hhit hgd hc hjq
              rcases hm01 with ⟨rfl, rfl⟩ | ⟨rfl, rfl⟩
              · have hci : ((D : Int) * 1440 + (f : Int)) * 60000 = (c : Int) := by rw [hce, if_pos (by omega)]; omega
                have HCI := Lib.hid hce
                clear hce hmg hft
                have hVl : f ≤ 1440 := by have := HFT.out; omega
                clear hcl
                obtain ⟨ci, hcc⟩ : ∃ ci : Int, ci = (c : Int) := ⟨_, rfl⟩
                rw [← hcc] at hci
                go_upto_region 11 with fail
                clear hci
                by_cases ha : x < c
                case neg =>
                  have HS2 := Lib.hid (HSTEP.out (by rw [HGD.out, decide_eq_false (by omega)]; rfl))
                  refine wp_region_later (by kernel_rfl) (by kernel_rfl) ?_
                  repeat (go_big_quiet_step ((fail)))
                  refine wpQuiet_nil ?_
                  rintro _ ⟨xq, rfl⟩
                  have hbx := hwq.trans ((later_below wr xq).mono hwq.size)
                  clear k0 k1 k2 k3
                  generalize later wr xq = w5 at *
                  go_wp2_with fail
                  go_roundg 1
                  case measure => omega
                  case rel => exact ⟨1, by omega, by go_num, HS2, hbx⟩
                by_cases hb : c ≤ 1099511627776
                case neg =>
                  have hbd : decide ((c : Int) ≤ 1099511627776) = false := decide_eq_false (by omega)
                  have HS2 := Lib.hid (HSTEP.out (by rw [HGD.out, decide_eq_false (by omega)]; rfl))
                  refine wp_region_later (by kernel_rfl) (by kernel_rfl) ?_
                  repeat (go_big_quiet_step ((fail)))
                  refine wpQuiet_nil ?_
                  rintro _ ⟨xq, rfl⟩
                  have hbx := hwq.trans ((later_below wr xq).mono hwq.size)
                  clear k0 k1 k2 k3
                  generalize later wr xq = w5 at *
                  go_wp2_with fail
                  go_roundg 1
                  case measure => omega
                  case rel => exact ⟨1, by omega, by go_num, HS2, hbx⟩
                have hbd : decide ((c : Int) ≤ 1099511627776) = true := decide_eq_true (by omega)
                have hgd := HGD.out
                rw [decide_eq_true ⟨ha, hb⟩, Bool.true_and] at hgd
                have hi1 := fun W => HIN.out W c hb
                have hi2 := fun W => HIN.out W (c - 1) (by omega)
                rw [show ((c - 1 : Nat) : Int) = (c : Int) - 1 by omega] at hi2
                generalize inR d f t c = A at *
                generalize inR d f t (c - 1) = B at *
                have HA := Lib.hid hgd
                clear hgd HGD
                have HI1 := Lib.hid (fun xq => calls_later (hi1 (later wr xq)))
                have HI2 := Lib.hid (fun xq => calls_later (hi2 (later wr xq)))
                clear hi1 hi2
                have l0 := fun xq => later_cell k0 xq
                have l1 := fun xq => later_cell k1 xq
                have l2 := fun xq => later_cell k2 xq
                have l3 := fun xq => later_cell k3 xq
                clear k0 k1 k2 k3
                cases A <;> cases B
                all_goals
                  refine wp_region_later (by kernel_rfl) (by kernel_rfl) ?_
                  repeat (go_big_quiet_step ((go_at_call 19; first | (with_reducible exact HI1.out _) | (with_reducible exact HI2.out _))))
                  refine wpQuiet_nil ?_
                  rintro _ ⟨xq, rfl⟩
                  have hbx := hwq.trans ((later_below wr xq).mono hwq.size)
                  clear l0 l1 l2 l3 HI1 HI2
                  generalize later wr xq = w5 at *
                  first
                  | (have HS2 := Lib.hid (HSTEP.out HA.out)
                     go_wp2_with fail
                     go_roundg 1
                     case measure => omega
                     case rel => exact ⟨1, by omega, by go_num, HS2, hbx⟩)
                  | (have hr0 := HHIT.out HA.out
                     subst hr0
                     go_wp2_with fail
                     go_ret2
                     exact ⟨rfl, bthen hb0 hbx⟩)
              · have hci : ((D : Int) * 1440 + (t : Int)) * 60000 = (c : Int) := by rw [hce, if_neg (by omega)]; omega
                have HCI := Lib.hid hce
                clear hce hmg hft
                have hVl : t ≤ 1440 := by have := HFT.out; omega
                clear hcl
                obtain ⟨ci, hcc⟩ : ∃ ci : Int, ci = (c : Int) := ⟨_, rfl⟩
                rw [← hcc] at hci
                go_upto_region 11 with fail
                clear hci
                by_cases ha : x < c
                case neg =>
                  have HS2 := Lib.hid (HSTEP.out (by rw [HGD.out, decide_eq_false (by omega)]; rfl))
                  refine wp_region_later (by kernel_rfl) (by kernel_rfl) ?_
                  repeat (go_big_quiet_step ((fail)))
                  refine wpQuiet_nil ?_
                  rintro _ ⟨xq, rfl⟩
                  have hbx := hwq.trans ((later_below wr xq).mono hwq.size)
                  clear k0 k1 k2 k3
                  generalize later wr xq = w5 at *
                  go_wp2_with fail
                  go_roundg 0
                  case measure => omega
                  case rel => exact ⟨2, by omega, by go_num, HS2, hbx⟩
                by_cases hb : c ≤ 1099511627776
                case neg =>
                  have hbd : decide ((c : Int) ≤ 1099511627776) = false := decide_eq_false (by omega)
                  have HS2 := Lib.hid (HSTEP.out (by rw [HGD.out, decide_eq_false (by omega)]; rfl))
                  refine wp_region_later (by kernel_rfl) (by kernel_rfl) ?_
                  repeat (go_big_quiet_step ((fail)))
                  refine wpQuiet_nil ?_
                  rintro _ ⟨xq, rfl⟩
                  have hbx := hwq.trans ((later_below wr xq).mono hwq.size)
                  clear k0 k1 k2 k3
                  generalize later wr xq = w5 at *
                  go_wp2_with fail
                  go_roundg 0
                  case measure => omega
                  case rel => exact ⟨2, by omega, by go_num, HS2, hbx⟩
                have hbd : decide ((c : Int) ≤ 1099511627776) = true := decide_eq_true (by omega)
                have hgd := HGD.out
                rw [decide_eq_true ⟨ha, hb⟩, Bool.true_and] at hgd
                have hi1 := fun W => HIN.out W c hb
                have hi2 := fun W => HIN.out W (c - 1) (by omega)
                rw [show ((c - 1 : Nat) : Int) = (c : Int) - 1 by omega] at hi2
                generalize inR d f t c = A at *
                generalize inR d f t (c - 1) = B at *
                have HA := Lib.hid hgd
                clear hgd HGD
                have HI1 := Lib.hid (fun xq => calls_later (hi1 (later wr xq)))
                have HI2 := Lib.hid (fun xq => calls_later (hi2 (later wr xq)))
                clear hi1 hi2
                have l0 := fun xq => later_cell k0 xq
                have l1 := fun xq => later_cell k1 xq
                have l2 := fun xq => later_cell k2 xq
                have l3 := fun xq => later_cell k3 xq
                clear k0 k1 k2 k3
                cases A <;> cases B
                all_goals
                  refine wp_region_later (by kernel_rfl) (by kernel_rfl) ?_
                  repeat (go_big_quiet_step ((go_at_call 19; first | (with_reducible exact HI1.out _) | (with_reducible exact HI2.out _))))
                  refine wpQuiet_nil ?_
                  rintro _ ⟨xq, rfl⟩
                  have hbx := hwq.trans ((later_below wr xq).mono hwq.size)
                  clear l0 l1 l2 l3 HI1 HI2
                  generalize later wr xq = w5 at *
                  first
                  | (have HS2 := Lib.hid (HSTEP.out HA.out)
                     go_wp2_with fail
                     go_roundg 0
                     case measure => omega
                     case rel => exact ⟨2, by omega, by go_num, HS2, hbx⟩)
                  | (have hr0 := HHIT.out HA.out
                     subst hr0
                     go_wp2_with fail
                     go_ret2
                     exact ⟨rfl, bthen hb0 hbx⟩)
end Go.Proofs.YtekcmgajjbdmgabDoor
