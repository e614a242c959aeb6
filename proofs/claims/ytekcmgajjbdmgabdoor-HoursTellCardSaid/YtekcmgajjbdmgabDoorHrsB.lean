/- The contracts of hours.hasDay and In. -/
import Derived.Test.YtekcmgajjbdmgabDoorHrsA
namespace Go.Proofs.YtekcmgajjbdmgabDoor
open Go.RowKit

/-- the cells of hours that have just been laid, behind a call -/
theorem box4 {w w2 : World} {T : TypeId} {a b c d : Value} (hb : Below (w.alloc (.cells #[a, b, c, d] T)).heap.size (w.alloc (.cells #[a, b, c, d] T)) w2) :
    w2.cell? ⟨w.heap.size, 0, none⟩ = some a ∧ w2.cell? ⟨w.heap.size, 1, none⟩ = some b ∧ w2.cell? ⟨w.heap.size, 2, none⟩ = some c ∧ w2.cell? ⟨w.heap.size, 3, none⟩ = some d := by
  have h : ∀ i, w2.cell? ⟨w.heap.size, i, none⟩ = #[a, b, c, d][i]? := fun i => by
    have e : w2.cell? ⟨w.heap.size, i, none⟩ = (w.alloc (.cells #[a, b, c, d] T)).cell? ⟨w.heap.size, i, none⟩ := by unfold World.cell?; rw [hb.block w.heap.size (by simp)]
    rw [e]
    exact World.cell?_alloc_mark w #[a, b, c, d] T (0, 0) i
  exact ⟨h 0, h 1, h 2, h 3⟩
theorem tick_q1 (x A : Nat) (hx : x ≤ 1099511627776) (hA : x / 60000 = A) : wrap64 ((x : Int) / 60000) = (A : Int) := by
  rw [IntWalk.wrap64_in ((x : Int) / 60000) (by omega)]; omega
theorem tick_q2 (A m : Nat) (hm : A % 10080 = m) : ((A : Int)).tmod 10080 = (m : Int) := by
  rw [Int.tmod_eq_emod_of_nonneg (by omega)]; omega
theorem tick_q3 (A m : Nat) (hm : A % 10080 = m) : ((A : Int)).tmod 1440 = ((m % 1440 : Nat) : Int) := by
  rw [Int.tmod_eq_emod_of_nonneg (by omega)]; omega
theorem tick_q4 (m : Nat) (hm : m / 1440 < 7) : wrap64 (((m : Int)).tdiv 1440) = ((m / 1440 : Nat) : Int) := by
  rw [Int.tdiv_eq_ediv_of_nonneg (by omega), IntWalk.wrap64_in _ (by omega)]; omega
theorem bit_hasT : ∀ d : Nat, d < 128 → ∀ k : Nat, k < 7 → (bits BinOp.and IntKind.i64 ((d : Int) / 2 ^ k) 1 == 1) = hasT d k := by decide +kernel
theorem hDay_any (n : ByteArray) (d k : Nat) (f t : Int) (w : World) (hd : d < 128) (hk : k < 7) :
    Calls Tryd.prog 31 #[.agg #[.string n, .int .i64 (d : Int), .int .i64 f, .int .i64 t], .int .i64 (k : Int)] w (BoolW (hasT d k) w) := by
  have h := bit_hasT d hd k hk
  go_enter Tryd.func31, Tryd.ntmps31
  go_wp2
  go_ret
  exact ⟨rfl, (Below.refl _ _).alloc (Nat.le_refl _) _⟩

set_option maxHeartbeats 1600000 in
theorem hIn_any (n : ByteArray) (d f t x : Int) (w : World) (hn : n.size ≤ maxLen) :
    Calls Tryd.prog 19 #[.agg #[.string n, .int .i64 d, .int .i64 f, .int .i64 t], .int .i64 x] w (BoolW (inT n.data.toList d f t x) w) := by
  have hR := fun W => hRight_any n d f t W hn
  have hT := fun W => hTick_any x W
  have hb0 := (Below.refl w.heap.size w).alloc (Nat.le_refl _) (.cells #[.string n, .int .i64 d, .int .i64 f, .int .i64 t] 33)
  unfold inT
  cases hr : bwC n.data.toList && spanC d f t with
  | false =>
    rw [hr] at hR
    clear hr
    go_enter Tryd.func19, Tryd.ntmps19
    go_wp2_with (go_at_call 17; refine (hR _).mono ?_; rintro e w2 ⟨rfl, hb2⟩)
    go_ret
    exact ⟨rfl, bthen hb0 hb2⟩
  | true =>
    rw [hr] at hR
    cases ht : tickC x with
    | false =>
      rw [ht] at hT
      clear hr ht
      go_enter Tryd.func19, Tryd.ntmps19
      go_wp2_with (first | (go_at_call 17; refine (hR _).mono ?_; rintro e w2 ⟨rfl, hb2⟩) | (go_at_call 40; refine (hT _).mono ?_; rintro e w3 ⟨rfl, rfl⟩))
      go_ret
      exact ⟨rfl, bthen hb0 hb2⟩
    | true =>
      rw [ht] at hT
      rw [Bool.and_eq_true] at hr
      have hs := hr.2
      unfold spanC at hs
      unfold tickC at ht
      rw [decide_eq_true_eq] at hs ht
      obtain ⟨d, rfl⟩ := Int.eq_ofNat_of_zero_le (show 0 ≤ d by omega)
      obtain ⟨f, rfl⟩ := Int.eq_ofNat_of_zero_le (show 0 ≤ f by omega)
      obtain ⟨t, rfl⟩ := Int.eq_ofNat_of_zero_le (show 0 ≤ t by omega)
      obtain ⟨x, rfl⟩ := Int.eq_ofNat_of_zero_le (show 0 ≤ x by omega)
      simp only [Int.toNat_natCast, Bool.true_and]
      unfold inR
      have hd : d < 128 := by omega
      have hk : x / 60000 % 10080 / 1440 < 7 := by omega
      have hD := fun W => hDay_any n d (x / 60000 % 10080 / 1440) f t W hd hk
      generalize hm : x / 60000 % 10080 = m at *
      generalize hasT d (m / 1440) = D at *
      have hx : x ≤ 1099511627776 := by omega
      generalize hA : x / 60000 = A at *
      have q1 := tick_q1 x A hx hA
      have q2 := tick_q2 A m hm
      have q3 := tick_q3 A m hm
      have q4 := tick_q4 m hk
      clear hr hs ht hm hA hx
      cases D <;> by_cases h1 : f ≤ m % 1440 <;> by_cases h2 : m % 1440 < t
      all_goals
        go_enter Tryd.func19, Tryd.ntmps19
        go_wp2_with (first | (go_at_call 17; refine (hR _).mono ?_; rintro e w2 ⟨rfl, hb2⟩; obtain ⟨c0, c1, c2, c3⟩ := box4 hb2) | (go_at_call 40; refine (hT _).mono ?_; rintro e w3 ⟨rfl, rfl⟩) | (go_at_call 31; refine (hD _).mono ?_; rintro e w4 ⟨rfl, hb4⟩; obtain ⟨k0, k1, k2, k3⟩ := box4 (bthen hb2 hb4)))
        go_ret
        exact ⟨by first | (simp [h1, h2]; done) | (simp [h1, h2]; omega), bthen hb0 (bthen hb2 hb4)⟩
end Go.Proofs.YtekcmgajjbdmgabDoor
