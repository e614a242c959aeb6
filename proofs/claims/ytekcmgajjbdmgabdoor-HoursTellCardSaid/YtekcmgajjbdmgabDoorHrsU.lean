/- The contract of the document's own number of layer 7. -/
import Derived.Test.YtekcmgajjbdmgabDoorHrsR
import Derived.Test.YtekcmgajjbdmgabDoorHrsG
import Derived.Deep.RegionWith
namespace Go.Proofs.YtekcmgajjbdmgabDoor
open Go.RowKit

def digN (x : Nat) : Bool := decide (48 ≤ x ∧ x ≤ 57)
def numV (x y z u : Nat) : Int := if digN x && digN y && digN z && digN u then 600 * ((x : Int) - 48) + 60 * ((y : Int) - 48) + 10 * ((z : Int) - 48) + ((u : Int) - 48) else -1
/-- byte a + j of a text -/
def byN (s : Bs) (a j : Nat) : Nat := (s.getD (a + j) 0).toNat
def numT (s : Bs) (a : Nat) : Int := numV (byN s a 0) (byN s a 1) (byN s a 3) (byN s a 4)
theorem num_clock : ∀ m, m < 1441 → numT (clockT m) 0 = (m : Int) := by decide +kernel
def posN (k : Nat) : Nat := [0, 1, 3, 4].getD k 0

theorem idxS {P : Program} {t : TypeId} (W : World) (s : ByteArray) (i : Int) (k : Nat) (hi : i = (k : Int)) (hk : k < s.size) (ht : P.underlying t = some .string) :
    (Instr.index t (.string s) (.int .i64 i)).run P W = .ok (.int .u8 ((s[k]'hk).toNat : Int)) W := by
  subst hi
  simp [Instr.index, run_underlying ht, asIntOf, hk, go_sem]
set_option maxHeartbeats 3200000 in
set_option maxRecDepth 100000 in
theorem rNumber_any (s : ByteArray) (a : Nat) (w : World) (ha : a + 4 < s.size) (hs : s.size ≤ 100000) :
    Calls Tryd.prog 37 #[.string s, .int .i64 (a : Int)] w (IntW (numT s.data.toList a) w) := by
  have hb : ∀ j (h : a + j < s.size), byN s.data.toList a j = (s[a + j]'h).toNat := fun j h => by
    unfold byN
    rw [List.getD_eq_getElem?_getD, List.getElem?_eq_getElem (by rw [lenB]; exact h)]
    rfl
  have hbl := fun j (h : a + j < s.size) => hb j h
  obtain ⟨n0, h0⟩ : ∃ n, byN s.data.toList a 0 = n := ⟨_, rfl⟩
  obtain ⟨n1, h1⟩ : ∃ n, byN s.data.toList a 1 = n := ⟨_, rfl⟩
  obtain ⟨n3, h3⟩ : ∃ n, byN s.data.toList a 3 = n := ⟨_, rfl⟩
  obtain ⟨n4, h4⟩ : ∃ n, byN s.data.toList a 4 = n := ⟨_, rfl⟩
  have b0 : (s[a]'(by omega)).toNat = n0 := by rw [← h0, hb 0 (by omega)]; rfl
  have b1 : (s[a + 1]'(by omega)).toNat = n1 := by rw [← h1, hb 1 (by omega)]
  have b3 : (s[a + 3]'(by omega)).toNat = n3 := by rw [← h3, hb 3 (by omega)]
  have b4 : (s[a + 4]'(by omega)).toNat = n4 := by rw [← h4, hb 4 (by omega)]
  have i0 : ∀ W, (Instr.index 9 (.string s) (.int .i64 (a : Int))).run Tryd.prog W = .ok (.int .u8 (n0 : Int)) W := fun W => by rw [← b0]; exact idxS W s a a (by omega) (by omega) Tryd.underlying9
  have i1 : ∀ W, (Instr.index 9 (.string s) (.int .i64 ((a : Int) + 1))).run Tryd.prog W = .ok (.int .u8 (n1 : Int)) W := fun W => by rw [← b1]; exact idxS W s _ (a + 1) (by omega) (by omega) Tryd.underlying9
  have i3 : ∀ W, (Instr.index 9 (.string s) (.int .i64 ((a : Int) + 3))).run Tryd.prog W = .ok (.int .u8 (n3 : Int)) W := fun W => by rw [← b3]; exact idxS W s _ (a + 3) (by omega) (by omega) Tryd.underlying9
  have i4 : ∀ W, (Instr.index 9 (.string s) (.int .i64 ((a : Int) + 4))).run Tryd.prog W = .ok (.int .u8 (n4 : Int)) W := fun W => by rw [← b4]; exact idxS W s _ (a + 4) (by omega) (by omega) Tryd.underlying9
  have hv : numT s.data.toList a = numV n0 n1 n3 n4 := by unfold numT; rw [h0, h1, h3, h4]
  rw [hv]
  have hl0 : n0 < 256 := by rw [← b0]; exact UInt8.toNat_lt _
  have hl1 : n1 < 256 := by rw [← b1]; exact UInt8.toNat_lt _
  have hl3 : n3 < 256 := by rw [← b3]; exact UInt8.toNat_lt _
  have hl4 : n4 < 256 := by rw [← b4]; exact UInt8.toNat_lt _
  clear b0 b1 b3 b4 h0 h1 h3 h4 hb hbl hv
  have hal : a ≤ 100000 := by omega
  have hk1 := Blk.new w 3 #[.int .i64 0, .int .i64 1, .int .i64 3, .int .i64 4]
  have hb0 := (Below.refl w.heap.size w).alloc (Nat.le_refl _) (.cells #[.int .i64 0, .int .i64 1, .int .i64 3, .int .i64 4] 3)
  have HB0 := Lib.hid hb0
  obtain ⟨R, hR⟩ : ∃ R, numV n0 n1 n3 n4 = R := ⟨_, rfl⟩
  rw [hR]
  have HR := Lib.hid hR
  clear hR hb0
  go_enter Tryd.func37, Tryd.ntmps37
  go_upto_region 2 with fail
  generalize w.alloc (.cells #[.int .i64 0, .int .i64 1, .int .i64 3, .int .i64 4] 3) = wx at *
  obtain ⟨c0, c1, c2, c3⟩ := hk1.cells4
  clear hk1
  go_loopg [9, 6] 4 (fun gg iv _ wr => ∃ k : Nat, k + gg = 4 ∧ iv = .int .i64 (k : Int) ∧ (Hid (1 ≤ k → digN n0 = true) ∧ Hid (2 ≤ k → digN n1 = true) ∧ Hid (3 ≤ k → digN n3 = true) ∧ Hid (4 ≤ k → digN n4 = true)) ∧ wx = wr)
  case atStart => exact ⟨0, rfl, rfl, ⟨Lib.hid (fun h => absurd h (by omega)), Lib.hid (fun h => absurd h (by omega)), Lib.hid (fun h => absurd h (by omega)), Lib.hid (fun h => absurd h (by omega))⟩, rfl⟩
  case round =>
    obtain ⟨k, hkg, rfl, ⟨D0, D1, D3, D4⟩, rfl⟩ := hrel
    cases gk with
    | zero =>
      obtain rfl : k = 4 := by omega
      have e0 := D0.out (by omega)
      have e1 := D1.out (by omega)
      have e3 := D3.out (by omega)
      have e4 := D4.out (by omega)
      have hr := HR.out
      unfold numV at hr
      rw [e0, e1, e3, e4, if_pos (show (true && true && true && true) = true from rfl)] at hr
      unfold digN at e0 e1 e3 e4
      rw [decide_eq_true_eq] at e0 e1 e3 e4
      clear HR D0 D1 D3 D4 c0 c1 c2 c3
      go_upto_region 7 with fail
      go_region
      all_goals
        go_wp2_with fail
        go_ret
        exact ⟨by rw [← hr]; first | rfl | (congr 2; omega), HB0.out.drew⟩
    | succ g =>
      have hk4 : k = 0 ∧ g = 3 ∨ k = 1 ∧ g = 2 ∨ k = 2 ∧ g = 1 ∨ k = 3 ∧ g = 0 := by omega
      rcases hk4 with ⟨rfl, rfl⟩ | ⟨rfl, rfl⟩ | ⟨rfl, rfl⟩ | ⟨rfl, rfl⟩
      · by_cases lo : 48 ≤ n0
        · by_cases hi : n0 ≤ 57
          · have hd : digN n0 = true := by unfold digN; rw [decide_eq_true_eq]; exact ⟨lo, hi⟩
            go_wp2_with fail
            go_roundg 3
            case measure => omega
            case rel => exact ⟨1, by omega, by go_num, ⟨Lib.hid (fun _ => hd), Lib.hid (fun h => absurd h (by omega)), Lib.hid (fun h => absurd h (by omega)), Lib.hid (fun h => absurd h (by omega))⟩, rfl⟩
          · have hd : digN n0 = false := by unfold digN; rw [decide_eq_false_iff_not]; omega
            have hr := HR.out
            unfold numV at hr
            rw [hd] at hr
            have hr2 : R = -1 := by rw [← hr]; simp
            subst hr2
            clear HR hr hd
            go_wp2_with fail
            go_ret
            exact ⟨rfl, HB0.out⟩
        · have hd : digN n0 = false := by unfold digN; rw [decide_eq_false_iff_not]; omega
          have hr := HR.out
          unfold numV at hr
          rw [hd] at hr
          have hr2 : R = -1 := by rw [← hr]; simp
          subst hr2
          clear HR hr hd
          go_wp2_with fail
          go_ret
          exact ⟨rfl, HB0.out⟩
      · by_cases lo : 48 ≤ n1
        · by_cases hi : n1 ≤ 57
          · have hd : digN n1 = true := by unfold digN; rw [decide_eq_true_eq]; exact ⟨lo, hi⟩
            go_wp2_with fail
            go_roundg 2
            case measure => omega
            case rel => exact ⟨2, by omega, by go_num, ⟨Lib.hid (fun h => D0.out (by omega)), Lib.hid (fun _ => hd), Lib.hid (fun h => absurd h (by omega)), Lib.hid (fun h => absurd h (by omega))⟩, rfl⟩
          · have hd : digN n1 = false := by unfold digN; rw [decide_eq_false_iff_not]; omega
            have hr := HR.out
            unfold numV at hr
            rw [hd] at hr
            have hr2 : R = -1 := by rw [← hr]; simp
            subst hr2
            clear HR hr hd
            go_wp2_with fail
            go_ret
            exact ⟨rfl, HB0.out⟩
        · have hd : digN n1 = false := by unfold digN; rw [decide_eq_false_iff_not]; omega
          have hr := HR.out
          unfold numV at hr
          rw [hd] at hr
          have hr2 : R = -1 := by rw [← hr]; simp
          subst hr2
          clear HR hr hd
          go_wp2_with fail
          go_ret
          exact ⟨rfl, HB0.out⟩
      · by_cases lo : 48 ≤ n3
        · by_cases hi : n3 ≤ 57
          · have hd : digN n3 = true := by unfold digN; rw [decide_eq_true_eq]; exact ⟨lo, hi⟩
            go_wp2_with fail
            go_roundg 1
            case measure => omega
            case rel => exact ⟨3, by omega, by go_num, ⟨Lib.hid (fun h => D0.out (by omega)), Lib.hid (fun h => D1.out (by omega)), Lib.hid (fun _ => hd), Lib.hid (fun h => absurd h (by omega))⟩, rfl⟩
          · have hd : digN n3 = false := by unfold digN; rw [decide_eq_false_iff_not]; omega
            have hr := HR.out
            unfold numV at hr
            rw [hd] at hr
            have hr2 : R = -1 := by rw [← hr]; simp
            subst hr2
            clear HR hr hd
            go_wp2_with fail
            go_ret
            exact ⟨rfl, HB0.out⟩
        · have hd : digN n3 = false := by unfold digN; rw [decide_eq_false_iff_not]; omega
          have hr := HR.out
          unfold numV at hr
          rw [hd] at hr
          have hr2 : R = -1 := by rw [← hr]; simp
          subst hr2
          clear HR hr hd
          go_wp2_with fail
          go_ret
          exact ⟨rfl, HB0.out⟩
      · by_cases lo : 48 ≤ n4
        · by_cases hi : n4 ≤ 57
          · have hd : digN n4 = true := by unfold digN; rw [decide_eq_true_eq]; exact ⟨lo, hi⟩
            go_wp2_with fail
            go_roundg 0
            case measure => omega
            case rel => exact ⟨4, by omega, by go_num, ⟨Lib.hid (fun h => D0.out (by omega)), Lib.hid (fun h => D1.out (by omega)), Lib.hid (fun h => D3.out (by omega)), Lib.hid (fun _ => hd)⟩, rfl⟩
          · have hd : digN n4 = false := by unfold digN; rw [decide_eq_false_iff_not]; omega
            have hr := HR.out
            unfold numV at hr
            rw [hd] at hr
            have hr2 : R = -1 := by rw [← hr]; simp
            subst hr2
            clear HR hr hd
            go_wp2_with fail
            go_ret
            exact ⟨rfl, HB0.out⟩
        · have hd : digN n4 = false := by unfold digN; rw [decide_eq_false_iff_not]; omega
          have hr := HR.out
          unfold numV at hr
          rw [hd] at hr
          have hr2 : R = -1 := by rw [← hr]; simp
          subst hr2
          clear HR hr hd
          go_wp2_with fail
          go_ret
          exact ⟨rfl, HB0.out⟩
end Go.Proofs.YtekcmgajjbdmgabDoor
