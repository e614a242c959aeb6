/- The contracts of the document's own Set, Right, In, Clock of layer 7. -/
import Derived.Test.YtekcmgajjbdmgabDoorHrsD
import Derived.Test.YtekcmgajjbdmgabDoorBlkB
namespace Go.Proofs.YtekcmgajjbdmgabDoor
open Go.RowKit

set_option maxRecDepth 100000 in
theorem rSet_any (d k : Nat) (w : World) (hd : d < 128) (hk : k < 7) : Calls Tryd.prog 41 #[.int .i64 (d : Int), .int .i64 (k : Int)] w (BoolS (hasT d k) w) := by
  go_enter Tryd.func41, Tryd.ntmps41
  go_wp2_with fail
  go_loopg [5, 0] k (fun gg iv u wr => ∃ j : Nat, j + gg = k ∧ iv = .int .i64 (j : Int) ∧ u = .int .i64 ((d / 2 ^ j : Nat) : Int) ∧ w = wr)
  case atStart => exact ⟨0, by omega, rfl, by simp, rfl⟩
  case round =>
    obtain ⟨j, hjg, rfl, rfl, rfl⟩ := hrel
    have hle : d / 2 ^ j ≤ d := Nat.div_le_self _ _
    have hstep : d / 2 ^ (j + 1) = d / 2 ^ j / 2 := by rw [Nat.pow_succ, Nat.div_div_eq_div_mul]
    cases gk with
    | zero =>
      obtain rfl : j = k := by omega
      have hh : hasT d j = decide (d / 2 ^ j % 2 = 1) := rfl
      generalize d / 2 ^ j = q at *
      clear hstep
      by_cases h1 : q % 2 = 1
      · have hh2 : hasT d j = true := by rw [hh]; exact decide_eq_true h1
        clear hh
        have h2 : ((q : Int) % 2 == 1) = true := beq_iff_eq.2 (by omega)
        have h3 : ((q : Int).tmod 2 == 1) = true := beq_iff_eq.2 (by rw [Int.tmod_eq_emod_of_nonneg (by omega)]; omega)
        have h4 : (q : Int) % 2 = 1 := by omega
        go_wp2_with fail
        go_ret
        exact ⟨by rw [hh2]; rfl, rfl⟩
      · have hh2 : hasT d j = false := by rw [hh]; exact decide_eq_false h1
        clear hh
        have h2 : ((q : Int) % 2 == 1) = false := beq_eq_false_iff_ne.2 (by omega)
        have h4 : (q : Int) % 2 = 0 := by omega
        go_wp2_with fail
        go_ret
        exact ⟨by rw [hh2]; rfl, rfl⟩
    | succ g =>
      generalize d / 2 ^ j = q at *
      have HS := Lib.hid hstep
      clear hstep
      go_wp2_with fail
      go_roundg g
      case measure => omega
      case rel => exact ⟨j + 1, by omega, by go_num, by rw [HS.out]; go_num, rfl⟩

set_option maxHeartbeats 3200000 in
theorem rRight_any (n : ByteArray) (d f t : Int) (w : World) (hn : n.size ≤ maxLen) :
    Calls Tryd.prog 18 #[.agg #[.string n, .int .i64 d, .int .i64 f, .int .i64 t]] w (BoolW (bwC n.data.toList && spanC d f t) w) := by
  have hN := fun W => rbWord_any n W hn
  generalize bwC n.data.toList = B at *
  have hz : spanC d f t = (decide (1 ≤ d) && (decide (d ≤ 127) && (decide (0 ≤ f) && (decide (f ≤ 1439) && (decide (f < t) && decide (t ≤ 1440)))))) := by
    unfold spanC
    rw [Bool.eq_iff_iff]
    simp only [Bool.and_eq_true, decide_eq_true_eq]
    omega
  rw [hz]
  clear hz
  cases B
  · go_enter Tryd.func18, Tryd.ntmps18
    go_wp2_with (go_at_call 39; refine (hN _).mono ?_; rintro e w2 ⟨rfl, rfl⟩)
    go_ret
    exact ⟨rfl, (Below.refl _ _).alloc (Nat.le_refl _) _⟩
  by_cases h1 : 1 ≤ d <;> by_cases h2 : d ≤ 127 <;> by_cases h3 : 0 ≤ f <;> by_cases h4 : f ≤ 1439 <;> by_cases h5 : f < t <;> by_cases h6 : t ≤ 1440 <;> (try omega)
  all_goals
    go_enter Tryd.func18, Tryd.ntmps18
    go_wp2_with (go_at_call 39; refine (hN _).mono ?_; rintro e w2 ⟨rfl, rfl⟩)
    go_ret
    exact ⟨by simp [h1, h2, h3, h4, h5, h6], (Below.refl _ _).alloc (Nat.le_refl _) _⟩

set_option maxRecDepth 100000 in
theorem rTwo_any (n : Nat) (w : World) (hn : n < 100) : Calls Tryd.prog 62 #[.int .i64 (n : Int)] w (StrW (twoT n) w) := by
  have hc := run_two w n hn
  go_enter Tryd.func62, Tryd.ntmps62
  go_wp2_with fail
  go_ret
  exact ⟨rfl, (Below.refl _ _).alloc (Nat.le_refl _) _⟩
set_option maxRecDepth 100000 in
theorem rClock_any (m : Nat) (w : World) (hm : m < 1441) : Calls Tryd.prog 42 #[.int .i64 (m : Int)] w (StrW (clockT m) w) := by
  have h1 := fun W => rTwo_any (m / 60) W (by omega)
  have h2 := fun W => rTwo_any (m % 60) W (by omega)
  rw [show ((m / 60 : Nat) : Int) = (m : Int) / 60 by omega] at h1
  rw [show ((m % 60 : Nat) : Int) = (m : Int) % 60 by omega] at h2
  unfold clockT
  unfold StrW at h1 h2 ⊢
  rw [bytA_app, bytA_app]
  have s1 := bytA_size (twoT (m / 60))
  have s2 := bytA_size (twoT (m % 60))
  rw [twoT_len] at s1 s2
  generalize bytA (twoT (m / 60)) = X at *
  generalize bytA (twoT (m % 60)) = Y at *
  have p1 : ¬ 9223372036854775807 < X.size + 1 := by omega
  have p2 : ¬ 9223372036854775807 < X.size + 1 + Y.size := by omega
  clear s1 s2
  go_enter Tryd.func42, Tryd.ntmps42
  go_wp2_with (go_at_call 62; first | ((with_reducible refine (h1 _).mono ?_); rintro e w2 ⟨rfl, hb2⟩) | ((with_reducible refine (h2 _).mono ?_); rintro e w3 ⟨rfl, hb3⟩))
  go_ret
  exact ⟨by rw [← ByteArray.append_assoc]; rfl, bthen hb2 hb3⟩
end Go.Proofs.YtekcmgajjbdmgabDoor
