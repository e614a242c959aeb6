/- The contract of hours.daysIn. -/
import Derived.Test.YtekcmgajjbdmgabDoorHrsD
namespace Go.Proofs.YtekcmgajjbdmgabDoor
open Go.RowKit

def nameB (k : Nat) : ByteArray := bytA (nameT k)
theorem names7 {w : World} (hw : HW w) : w.cell? ⟨0, 0, none⟩ = some (.string (nameB 0)) ∧ w.cell? ⟨0, 1, none⟩ = some (.string (nameB 1)) ∧ w.cell? ⟨0, 2, none⟩ = some (.string (nameB 2)) ∧ w.cell? ⟨0, 3, none⟩ = some (.string (nameB 3)) ∧ w.cell? ⟨0, 4, none⟩ = some (.string (nameB 4)) ∧ w.cell? ⟨0, 5, none⟩ = some (.string (nameB 5)) ∧ w.cell? ⟨0, 6, none⟩ = some (.string (nameB 6)) :=
  ⟨hw.2.1 0 (by omega), hw.2.1 1 (by omega), hw.2.1 2 (by omega), hw.2.1 3 (by omega), hw.2.1 4 (by omega), hw.2.1 5 (by omega), hw.2.1 6 (by omega)⟩
theorem index7 (k : Nat) (hk : k < 7) (W : World) : (Instr.index 63 (.agg #[.string (nameB 0), .string (nameB 1), .string (nameB 2), .string (nameB 3), .string (nameB 4), .string (nameB 5), .string (nameB 6)]) (.int .i64 (k : Int))).run Tryd.prog W = .ok (.string (nameB k)) W := by
  refine run_indexV (P := Tryd.prog) W 63 9 7 _ k k _ Tryd.underlying63 rfl hk ?_ sizeStr aggStr
  have h : k = 0 ∨ k = 1 ∨ k = 2 ∨ k = 3 ∨ k = 4 ∨ k = 5 ∨ k = 6 := by omega
  rcases h with rfl | rfl | rfl | rfl | rfl | rfl | rfl <;> rfl
theorem daysN_lt (s : Bs) : ∀ k, k ≤ 7 → daysN s k < 128 := by
  intro k
  induction k with
  | zero => intro _; simp [daysN]
  | succ k ih =>
    intro hk
    have h := ih (by omega)
    unfold daysN
    split
    · refine Nat.or_lt_two_pow (n := 7) h ?_
      exact Nat.pow_lt_pow_right (by omega) (by omega)
    · exact h

theorem or_bits : ∀ a : Nat, a < 128 → ∀ k : Nat, k < 7 → bits BinOp.or IntKind.i64 (a : Int) (wrap64 (2 ^ k)) = ((a ||| 2 ^ k : Nat) : Int) := by decide +kernel
set_option maxHeartbeats 1600000 in
set_option maxRecDepth 100000 in
theorem daysIn_any (s : ByteArray) (w : World) (hw : HW w) (hs : s.size ≤ 100000) : Calls Tryd.prog 35 #[.string s] w fun e w' => e = .returned (.int .i64 ((daysN s.data.toList 7 : Nat) : Int)) ∧ w = w' := by
  obtain ⟨c0, c1, c2, c3, c4, c5, c6⟩ := names7 hw
  obtain ⟨m, hm⟩ := hw.1
  have hC := fun k => Tryd.strings_Contains s (nameB k) m w (by omega) hm
  have HC := Lib.hid hC
  clear hC hm hw
  go_enter Tryd.func35, Tryd.ntmps35
  go_upto_region 3 with fail
  clear c0 c1 c2 c3 c4 c5 c6
  go_loopg [7, 3, 4, 5] 7 (fun gg iv u _ _ wr => ∃ k : Nat, k + gg = 7 ∧ iv = .int .i64 (k : Int) ∧ u = .int .i64 ((daysN s.data.toList k : Nat) : Int) ∧ w = wr)
  case atStart => exact ⟨0, rfl, rfl, rfl, rfl⟩
  case round =>
    obtain ⟨k, hkg, rfl, rfl, rfl⟩ := hrel
    cases gk with
    | zero =>
      obtain rfl : k = 7 := by omega
      go_wp2_with fail
      go_ret
      exact ⟨rfl, rfl⟩
    | succ g =>
      have hk : k < 7 := by omega
      have hx := index7 k hk
      have hcon := HC.out k
      have hd : daysN s.data.toList (k + 1) = if Lib.contains s.data.toList (nameT k) then daysN s.data.toList k ||| 2 ^ k else daysN s.data.toList k := rfl
      have hl := daysN_lt s.data.toList k (by omega)
      rw [show (nameB k).data.toList = nameT k from bytA_list _] at hcon
      generalize nameB k = X at *
      cases hc : Lib.contains s.data.toList (nameT k) with
      | false =>
        rw [hc] at hcon hd
        rw [if_neg (by simp)] at hd
        have HD := Lib.hid hd
        clear hd hc hl
        generalize daysN s.data.toList k = A at *
        go_wp2_with (go_at_call 59; (with_reducible refine hcon.mono ?_); rintro e w2 ⟨rfl, rfl⟩)
        go_roundg g
        case measure => omega
        case rel => exact ⟨k + 1, by omega, by go_num, by rw [HD.out], rfl⟩
      | true =>
        rw [hc] at hcon hd
        rw [if_pos rfl] at hd
        have HD := Lib.hid hd
        clear hd hc
        generalize daysN s.data.toList k = A at *
        go_wp2_with (go_at_call 59; (with_reducible refine hcon.mono ?_); rintro e w2 ⟨rfl, rfl⟩)
        go_roundg g
        case measure => omega
        case rel => exact ⟨k + 1, by omega, by go_num, by rw [HD.out, ← or_bits A hl k hk], rfl⟩
end Go.Proofs.YtekcmgajjbdmgabDoor
