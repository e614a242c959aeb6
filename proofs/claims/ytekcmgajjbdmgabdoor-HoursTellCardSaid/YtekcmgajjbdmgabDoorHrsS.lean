/- The contract of the document's own In of layer 7. -/
import Derived.Test.YtekcmgajjbdmgabDoorHrsR
namespace Go.Proofs.YtekcmgajjbdmgabDoor
open Go.RowKit

set_option maxHeartbeats 1600000 in
set_option maxRecDepth 100000 in
theorem rIn_any (n : ByteArray) (d f t x : Int) (w : World) (hn : n.size ≤ maxLen) :
    Calls Tryd.prog 20 #[.agg #[.string n, .int .i64 d, .int .i64 f, .int .i64 t], .int .i64 x] w (BoolW (inT n.data.toList d f t x) w) := by
  have hR := fun W => rRight_any n d f t W hn
  have hb0 := (Below.refl w.heap.size w).alloc (Nat.le_refl _) (.cells #[.string n, .int .i64 d, .int .i64 f, .int .i64 t] 33)
  unfold inT
  cases hr : bwC n.data.toList && spanC d f t with
  | false =>
    rw [hr] at hR
    clear hr
    go_enter Tryd.func20, Tryd.ntmps20
    go_wp2_with (go_at_call 18; refine (hR _).mono ?_; rintro e w2 ⟨rfl, hb2⟩)
    go_ret
    exact ⟨rfl, bthen hb0 hb2⟩
  | true =>
    rw [hr] at hR
    cases ht : tickC x with
    | false =>
      unfold tickC at ht
      rw [decide_eq_false_iff_not] at ht
      clear hr
      by_cases h1 : x < 0
      · go_enter Tryd.func20, Tryd.ntmps20
        go_wp2_with (go_at_call 18; refine (hR _).mono ?_; rintro e w2 ⟨rfl, hb2⟩)
        go_ret
        exact ⟨rfl, bthen hb0 hb2⟩
      · have h2 : decide ((1099511627776 : Int) < x) = true := decide_eq_true (by omega)
        have h3 : (1099511627776 : Int) < x := by omega
        clear ht
        go_enter Tryd.func20, Tryd.ntmps20
        go_wp2_with (go_at_call 18; refine (hR _).mono ?_; rintro e w2 ⟨rfl, hb2⟩)
        go_ret
        exact ⟨rfl, bthen hb0 hb2⟩
    | true =>
      rw [Bool.and_eq_true] at hr
      have hs := hr.2
      unfold spanC at hs
      unfold tickC at ht
      rw [decide_eq_true_eq] at hs ht
      obtain ⟨d, rfl⟩ := Int.eq_ofNat_of_zero_le (show 0 ≤ d by omega)
      obtain ⟨f, rfl⟩ := Int.eq_ofNat_of_zero_le (show 0 ≤ f by omega)
      obtain ⟨t, rfl⟩ := Int.eq_ofNat_of_zero_le (show 0 ≤ t by omega)
      obtain ⟨x, rfl⟩ := Int.eq_ofNat_of_zero_le (show 0 ≤ x by omega)
      simp only [Int.toNat_natCast, Bool.true_and]
      unfold inR
      have hd : d < 128 := by omega
      have hk : x / 60000 % 10080 / 1440 < 7 := by omega
      have hD := fun W => rSet_any d (x / 60000 % 10080 / 1440) W hd hk
      generalize hm : x / 60000 % 10080 = m at *
      generalize hasT d (m / 1440) = D at *
      have hx : x ≤ 1099511627776 := by omega
      have hx3 : decide ((1099511627776 : Int) < (x : Int)) = false := decide_eq_false (by omega)
      generalize hA : x / 60000 = A at *
      have q1 := tick_q1 x A hx hA
      have q2 := tick_q2 A m hm
      have q3 := tick_q3 A m hm
      have q4 := tick_q4 m hk
      clear hr hs ht hm hA hx
      cases D <;> by_cases h1 : f ≤ m % 1440 <;> by_cases h2 : m % 1440 < t
      all_goals
        go_enter Tryd.func20, Tryd.ntmps20
        go_wp2_with (first | (go_at_call 18; refine (hR _).mono ?_; rintro e w2 ⟨rfl, hb2⟩; obtain ⟨c0, c1, c2, c3⟩ := box4 hb2) | (go_at_call 41; refine (hD _).mono ?_; rintro e w4 ⟨rfl, rfl⟩))
        go_ret
        exact ⟨by first | (simp [h1, h2]; done) | (simp [h1, h2]; omega), bthen hb0 hb2⟩

end Go.Proofs.YtekcmgajjbdmgabDoor
