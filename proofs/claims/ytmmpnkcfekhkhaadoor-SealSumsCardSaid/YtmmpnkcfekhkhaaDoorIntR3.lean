/- The contract of the document's own root, of the cube root. -/
import Derived.Test.YtmmpnkcfekhkhaaDoorIntRt
namespace Go.Proofs.YtmmpnkcfekhkhaaDoor
open Go.RowKit

set_option maxHeartbeats 6400000 in
set_option maxRecDepth 100000 in
theorem root3_any (p : Nat) (w : World) (_hp : p ≤ 1000) :
    Calls Tryd.prog 35 #[.int .i64 (p : Int), .int .i64 3] w fun e w' => e = .returned (.int .u32 (rootF p 3 : Nat)) ∧ Below w.heap.size w w' := by
  have hrl := rootAt_len p 3
  have hru := rootAt_upto p 3
  have hrs : ∀ k, rootAt p 3 (k + 1) = rootStep p 3 (rootAt p 3 k) (36 - k) := fun k => rfl
  have hrf : rootF p 3 = (65536 * (rootAt p 3 37).getD 1 0 + (rootAt p 3 37).getD 0 0) % 4294967296 := rfl
  have h00 : rootAt p 3 0 = [0, 0, 0] := rfl
  have HRL := Lib.hid hrl
  have HRU := Lib.hid hru
  have HRS := Lib.hid hrs
  have HRF := Lib.hid hrf
  have H00 := Lib.hid h00
  clear hrl hru hrs hrf h00
  generalize rootF p 3 = RF at *
  generalize rootAt p 3 = R at *
  go_enter Tryd.func35, Tryd.ntmps35
  go_upto_region 2 with fail
  have hx0 : HasIs (w.alloc (.cells #[.int .i64 0, .int .i64 0, .int .i64 0] 3)) w.heap.size (R 0) := by rw [H00.out]; exact HasIs.new w [0, 0, 0] 3
  have hb0 := (Below.refl w.heap.size w).alloc (Nat.le_refl _) (.cells #[.int .i64 0, .int .i64 0, .int .i64 0] 3)
  generalize w.alloc (.cells #[.int .i64 0, .int .i64 0, .int .i64 0] 3) = wx at *
  go_wp2_with fail
  go_loopg [6] 37 (fun gg iv wr => ∃ k : Nat, k + gg = 37 ∧ iv = .int .i64 ((gg : Int) - 1) ∧ HasIs wr w.heap.size (R k) ∧ Below w.heap.size w wr)
  case atStart => exact ⟨0, by omega, rfl, hx0, hb0⟩
  case round =>
    obtain ⟨k, hkg, rfl, hx, hb⟩ := hrel
    clear hx0 hb0
    cases gk with
    | zero =>
      obtain rfl : k = 37 := by omega
      have hneg : ¬ (0 : Int) ≤ ((0 : Nat) : Int) - 1 := by omega
      have hl := HRL.out 37
      have c0 := hx.cell 0 (by omega)
      have c1 := hx.cell 1 (by omega)
      have hu := HRU.out 37 (Nat.le_refl _)
      have u0 := hu 0
      have u1 := hu 1
      have hrf := HRF.out
      generalize (R 37).getD 0 0 = x0 at *
      generalize (R 37).getD 1 0 = x1 at *
      have HF := Lib.hid hrf
      clear hu hrf hx hl hkg
      go_upto_region 16 with fail
      have q1 : IntKind.i64.wrap (65536 * (x1 : Int)) = 65536 * (x1 : Int) := IntWalk.i64_in _ (by omega)
      have q2 : IntKind.i64.wrap (65536 * (x1 : Int) + (x0 : Int)) = 65536 * (x1 : Int) + (x0 : Int) := IntWalk.i64_in _ (by omega)
      go_region
      all_goals
        go_wp2
        go_ret
        exact ⟨by rw [HF.out]; rfl, hb.drew⟩
    | succ bit =>
      have hbe : (((bit + 1 : Nat) : Int) - 1) = (bit : Int) := by omega
      rw [hbe]
      have hk36 : 36 - k = bit := by omega
      have hrs := HRS.out k
      rw [hk36] at hrs
      unfold rootStep at hrs
      dsimp only at hrs
      have hl := HRL.out k
      have hu := HRU.out k (by omega)
      obtain ⟨a, ha⟩ : ∃ a, R k = a := ⟨_, rfl⟩
      rw [ha] at hrs hl hu hx
      have hp16 := two_pow_small bit
      obtain ⟨M, hM⟩ : ∃ M, bit % 16 = M := ⟨_, rfl⟩
      obtain ⟨D, hD⟩ : ∃ D, bit / 16 = D := ⟨_, rfl⟩
      rw [hM] at hrs hp16
      rw [hD] at hrs
      have hD2 : D ≤ 2 := by omega
      have hM15 : M ≤ 15 := by omega
      have hMi : (bit : Int) % 16 = (M : Int) := by omega
      have hDi : (bit : Int) / 16 = (D : Int) := by omega
      have hbi0 : (0 : Int) ≤ (bit : Int) := by omega
      have hbi36 : (bit : Int) ≤ 36 := by omega
      have HRS2 := Lib.hid hrs
      have HHK := Lib.hid ha
      have HL := Lib.hid hl
      have HU := Lib.hid hu
      have HX := Lib.hid hx
      have HB := Lib.hid hb
      have HPW := Lib.hid hp16
      clear hbe hk36 hrs ha hM hD hl hu hx hb hp16
      go_upto_block 2 with fail
      go_cut [7] (fun v wy => v = .int .i64 ((2 ^ M : Nat) : Int) ∧ wr = wy)
      case first =>
        go_wp2_with fail
        go_loopg [7, 8] M (fun gg v iv wj => ∃ i : Nat, i + gg = M ∧ iv = .int .i64 (i : Int) ∧ v = .int .i64 ((2 ^ i : Nat) : Int) ∧ wr = wj)
        case atStart => exact ⟨0, by omega, rfl, rfl, rfl⟩
        case round =>
          obtain ⟨i, hig, rfl, rfl, rfl⟩ := hrel
          cases gk with
          | zero =>
            obtain rfl : i = M := by omega
            have hge : ¬ (i : Int) < (i : Int) := by omega
            clear hig
            generalize 2 ^ i = T at *
            go_wp2_with fail
            go_meet
            exact ⟨rfl, rfl⟩
          | succ gg =>
            have hil : (i : Int) < (M : Int) := by omega
            have hpw : 2 ^ (i + 1) = 2 * 2 ^ i := by rw [Nat.pow_succ, Nat.mul_comm]
            have hps : 2 ^ i ≤ 32768 := Nat.le_trans (Nat.pow_le_pow_right (by omega) (show i ≤ 15 by omega)) (by decide)
            have HPP := Lib.hid hpw
            clear hpw
            generalize 2 ^ i = T at *
            go_wp2_with fail
            go_roundg gg
            case measure => omega
            case rel => exact ⟨i + 1, by omega, by go_num, by rw [HPP.out]; congr 1, rfl⟩
      case rest =>
        obtain ⟨rfl, rfl⟩ := hcut
        have hx := HX.out
        have hl := HL.out
        have c0 := hx.cell D (by omega)
        have f0 := hx.free D
        have hst := hx.set D (a.getD D 0 + 2 ^ M) (by omega)
        have hua := (upto_add (v := 2 ^ M) HU.out (show D < a.length by omega)).mono (show k * 32768 + 2 ^ M ≤ 2097152 by have := HPW.out; omega)
        have hbk := addAt_back a D (2 ^ M) (by omega)
        have hAl := addAt_len a D (2 ^ M)
        have hag := addAt_get a D (2 ^ M) D (by omega)
        rw [if_pos rfl] at hag
        have hst1 : HasIs (wr.setCell ⟨w.heap.size, D, none⟩ (.int .i64 ((a.getD D 0 + 2 ^ M : Nat) : Int))) w.heap.size (addAt a D (2 ^ M)) := hst
        have hux := HU.out D
        have hpm := HPW.out
        obtain ⟨A, hA⟩ : ∃ A, addAt a D (2 ^ M) = A := ⟨_, rfl⟩
        rw [hA] at hst1 hua hbk hAl hag HRS2
        rw [hl] at hAl
        generalize 2 ^ M = T at *
        generalize a.getD D 0 = x at *
        obtain ⟨y, hy⟩ : ∃ y, x + T = y := ⟨_, rfl⟩
        rw [hy] at hst1 hag
        have hyi : (x : Int) + (T : Int) = (y : Int) := by omega
        have HST := Lib.hid hst1
        have HUA := Lib.hid hua
        have HBK := Lib.hid hbk
        have HAL := Lib.hid hAl
        have HAG := Lib.hid hag
        have HY := Lib.hid hy
        have hyb : (y : Int) ≤ 2097152 := by have := hua D; rw [hag] at this; omega
        have hy0 : (0 : Int) ≤ (y : Int) := by omega
        clear hx hl hst hst1 hua hbk hAl hag hA hux hpm hy
        have hD3 : (D : Int) < 3 := by omega
        go_upto_region 11 with fail
        have hb1 := HB.out.setCell (p := ⟨w.heap.size, D, none⟩) (Nat.le_refl _) (.int .i64 (y : Int))
        generalize wr.setCell ⟨w.heap.size, D, none⟩ (.int .i64 (y : Int)) = w1 at *
        clear c0 f0 HX HB
        have hX1 := byL_len A A
        rw [HAL.out] at hX1
        have hby1 : Calls Tryd.prog 49 #[.slice (some ⟨w.heap.size, 0, none⟩) 3 3, .slice (some ⟨w.heap.size, 0, none⟩) 3 3] w1 fun e w' => ∃ g, e = .returned (.slice (some ⟨g, 0, none⟩) 7 7) ∧ w1.heap.size ≤ g ∧ HasIs w' g (byL A A) ∧ Below w1.heap.size w1 w' := by
          have h := by_any A A w.heap.size 3 w.heap.size 3 w1 HST.out HST.out (by rw [HAL.out]; omega) (by rw [HAL.out]; omega) (by rw [HAL.out]; omega) (by rw [HAL.out]; omega) HUA.out HUA.out
          unfold IsPost at h
          rw [HAL.out, hX1] at h
          exact h
        have HBY1 := Lib.hid hby1
        have HX1 := Lib.hid hX1
        have hu1 := byL_upto A A
        have HU1 := Lib.hid hu1
        have HB1 := Lib.hid hb1
        clear hby1 hX1 hu1 hb1
        have hX2 := byL_len (byL A A) A
        rw [HAL.out, HX1.out] at hX2
        have hby2 : ∀ g W, HasIs W g (byL A A) → HasIs W w.heap.size A → Calls Tryd.prog 49 #[.slice (some ⟨g, 0, none⟩) 7 7, .slice (some ⟨w.heap.size, 0, none⟩) 3 3] W fun e w' => ∃ g, e = .returned (.slice (some ⟨g, 0, none⟩) 11 11) ∧ W.heap.size ≤ g ∧ HasIs w' g (byL (byL A A) A) ∧ Below W.heap.size W w' := fun g W h1 h2 => by
          have h := by_any (byL A A) A g 7 w.heap.size 3 W h1 h2 (by rw [HX1.out]; omega) (by rw [HAL.out]; omega) (by rw [HX1.out]; omega) (by rw [HAL.out]; omega) HU1.out HUA.out
          unfold IsPost at h
          rw [HAL.out, HX1.out, hX2] at h
          exact h
        have hov : ∀ g W, HasIs W g (byL (byL A A) A) → Calls Tryd.prog 50 #[.slice (some ⟨g, 0, none⟩) 11 11, .int .i64 (p : Int), .int .i64 6] W fun e w' => e = .returned (.bool (overF (byL (byL A A) A) p 6 11)) ∧ W = w' := fun g W h => by
          have h2 := over_any (byL (byL A A) A) g 11 p 6 W h (by rw [hX2]; omega) (by rw [hX2]; omega)
          rw [hX2] at h2
          exact h2
        have hrs2 : R (k + 1) = if overF (byL (byL A A) A) p 6 11 then a else A := by
          have h := HRS2.out
          rw [if_pos (show (3 : Nat) = 3 by decide), hX2] at h
          exact h
        have HBY2 := Lib.hid hby2
        have HOV := Lib.hid hov
        have HRS3 := Lib.hid hrs2
        clear hov hrs2 HRS2 hby2 hX2
        obtain ⟨O, hO⟩ : ∃ O, overF (byL (byL A A) A) p 6 11 = O := ⟨_, rfl⟩
        rw [hO] at HOV HRS3
        clear hO
        go_upto_region 14 with (go_at_call 49; first
          | ((with_reducible refine (HBY2.out _ _ hX hsame).mono ?_); rintro e w3 ⟨gy, rfl, hgy, hY, hb3⟩; have hs3 := hsame.call hb3; have hbx3 := bthen hbx hb3)
          | ((with_reducible refine HBY1.out.mono ?_); rintro e w2 ⟨gx, rfl, hgx, hX, hb2⟩; have hsame := HST.out.call hb2; have hbx := bthen HB1.out hb2))
        have HS2 := Lib.hid hs3
        have HBX := Lib.hid hbx3
        have c0 := hs3.cell D (by rw [HAL.out]; omega)
        have f0 := hs3.free D
        rw [HAG.out] at c0
        have hst2 := hs3.set D x (by rw [HAL.out]; omega)
        rw [HBK.out] at hst2
        have hyx : (y : Int) - (T : Int) = (x : Int) := by omega
        have HST2 := Lib.hid hst2
        have HXX := Lib.hid hY
        clear hsame hbx hst2 hX hY hb2 hb3 hs3 hbx3
        cases O with
        | false =>
          go_wp2_with (go_at_call 50; (with_reducible refine (HOV.out _ _ HXX.out).mono ?_); rintro e w4 ⟨rfl, rfl⟩)
          go_roundg bit
          case measure => omega
          case rel => exact ⟨k + 1, by omega, by first | rfl | go_num, by rw [HRS3.out]; exact HS2.out, HBX.out⟩
        | true =>
          go_wp2_with (go_at_call 50; (with_reducible refine (HOV.out _ _ HXX.out).mono ?_); rintro e w4 ⟨rfl, rfl⟩)
          go_roundg bit
          case measure => omega
          case rel => exact ⟨k + 1, by omega, by first | rfl | go_num, by rw [HRS3.out]; exact HST2.out, HBX.out.setCell (Nat.le_refl _) _⟩
end Go.Proofs.YtmmpnkcfekhkhaaDoor
