/- The walk of ConfigMarks. -/
import Derived.Test.YtkgnapojkijbgaaGreatDoorMg5
namespace Go.Proofs.YtkgnapojkijbgaaGreatDoor
open Go.RowKit

set_option maxHeartbeats 12800000 in
set_option maxRecDepth 100000 in
theorem configMarks_walk {w : World} (k : CfA) (hk : k.ok w) (hw : CfgW w) : Calls Tryz.prog 6 #[.agg (kCells k)] w (fun e w' => e = .returned (.bool true) ∧ Below w.heap.size w w') := by
  have hb1 := (Below.refl w.heap.size w).alloc (Nat.le_refl _) (.cells (kCells k) 31)
  have hA := Blk.new w 31 (kCells k)
  have HBIG := Lib.hid (fun W (hW : Below w.heap.size w W) => big_any k W (hk.call hW))
  have HTX := Lib.hid (fun W (hW : Below w.heap.size w W) => cfgTextR_any k W (hk.call hW) (hw.call hW))
  have HMA := Lib.hid (fun W (hW : Below w.heap.size w W) => cfgMark_any k W (hk.call hW) (hw.call hW))
  have HMK := Lib.hid (fun (S : ByteArray) (hS : S.size ≤ 400000000) W (hW : Below w.heap.size w W) => (show Calls Tryz.prog 25 #[.string S] W (fun e w' => e = .returned (.string (mkS S)) ∧ Below W.heap.size W w') from mark_any S W hS (hw.call hW).2.2))
  have HAL := Lib.hid (fun W => alive10_any W)
  have HB := Lib.hid hb1
  simp only [kCells] at *
  clear hb1 hk hw
  go_enter Tryz.func6, Tryz.ntmps6
  go_upto_region 1 with fail
  obtain ⟨wx, hwx⟩ : ∃ wx, w.alloc (.cells #[.slice k.ua k.ru.length k.uc, .string k.rt.n.recv, .slice k.rt.ma k.rt.n.ms.length k.rt.mc, .slice k.rt.ba k.rt.n.bys.length k.rt.bc, .int .i64 k.rt.n.wait, .int .i64 k.rt.n.every, .int .i64 k.rt.n.rep, .slice k.rt.ua k.rt.n.mute.length k.rt.uc, .bool k.rt.n.on, .slice k.rt.ka k.rt.n.kids.length k.rt.kc, .slice k.ra k.re.length k.rc, .slice k.ia k.ih.length k.ic, .slice k.ha k.hr.length k.hc] 31) = wx := ⟨_, rfl⟩
  simp only [hwx] at *
  clear hwx
  have HA := Lib.hid hA
  obtain ⟨c0, c1, c2, c3, c4, c5, c6, c7, c8, c9, c10, c11, c12⟩ := hA.cells13
  clear hA
  go_upto_region 3 with (first
    | (go_at_call 7; refine (HBIG.out _ HB.out).mono ?_; rintro e w2 ⟨b, rfl, hb2, hbig⟩; have hbe := bthen HB.out hb2; obtain ⟨d0, d1, d2, d3, d4, d5, d6, d7, d8, d9, d10, d11, d12⟩ := (HA.out.call hb2).cells13)
    | (go_at_call 8; refine (HAL.out _).mono ?_; rintro e w4 ⟨rfl, hb4⟩))
  · go_ret
    exact ⟨rfl, bthen hbe hb4⟩
  clear c0 c1 c2 c3 c4 c5 c6 c7 c8 c9 c10 c11 c12 hbig HBIG
  go_upto_region 4 with (go_at_call 9; refine (HTX.out _ hbe).mono ?_; rintro e w3 ⟨S, E, rfl, hb3, hq⟩; have hb23 := bthen hb2 hb3; have hbe3 := bthen hbe hb3)
  clear d0 d1 d2 d3 d4 d5 d6 d7 d8 d9 d10 d11 d12
  obtain ⟨c0, c1, c2, c3, c4, c5, c6, c7, c8, c9, c10, c11, c12⟩ := (HA.out.call hb23).cells13
  have HQ := Lib.hid hq
  clear hq
  go_upto_region 5 with (go_at_call 10; refine (HMA.out _ hbe3).mono ?_; rintro e w4 ⟨M, F, rfl, hb4, hq⟩; have hbe4 := bthen hbe3 hb4)
  clear c0 c1 c2 c3 c4 c5 c6 c7 c8 c9 c10 c11 c12
  have hfacts : (E = 0 ∧ F = 0 ∧ M = mkS S ∧ 5 < S.size ∧ S.size ≤ 400000000) ∨ (E = 2 ∧ F = 2 ∧ M = ⟨#[]⟩) ∨ (E = 1 ∧ F = 1 ∧ M = ⟨#[]⟩) := by
    rcases HQ.out with ⟨e1, hc, x, hx, kx, sx⟩ | ⟨e1, hc, ⟨x, hx, kx⟩, sx⟩ | ⟨e1, hc, sx⟩
    · rcases hq with ⟨e2, hc2, y, hy, ky, sy⟩ | ⟨e2, hc2, ⟨y, hy, ky⟩, sy⟩ | ⟨e2, hc2, sy⟩
      · refine .inl ⟨e1, e2, ?_, ?_⟩
        · rw [sy, sx, (txS_uniq hc hy hx).1]; rfl
        · rw [sx]; exact txS_size kx
      · have := (txS_uniq hc hx hy).2
        rw [kx, ky] at this
        cases this
      · rw [hc] at hc2; cases hc2
    · rcases hq with ⟨e2, hc2, y, hy, ky, sy⟩ | ⟨e2, hc2, ⟨y, hy, ky⟩, sy⟩ | ⟨e2, hc2, sy⟩
      · have := (txS_uniq hc hx hy).2
        rw [kx, ky] at this
        cases this
      · exact .inr (.inl ⟨e1, e2, sy⟩)
      · rw [hc] at hc2; cases hc2
    · rcases hq with ⟨e2, hc2, _⟩ | ⟨e2, hc2, _⟩ | ⟨e2, hc2, sy⟩
      · rw [hc] at hc2; cases hc2
      · rw [hc] at hc2; cases hc2
      · exact .inr (.inr ⟨e1, e2, sy⟩)
  clear hq HQ
  rcases hfacts with ⟨rfl, rfl, rfl, h5, h4⟩ | ⟨rfl, rfl, rfl⟩ | ⟨rfl, rfl, rfl⟩
  · have q1 : ((mkS S).toList == (mkS S).toList) = true := by simp
    have q2 : decide ((5 : Int) < (S.size : Int)) = true := decide_eq_true (by omega)
    have HM1 := Lib.hid (HMK.out S h4)
    clear HMK
    generalize mkS S = M at *
    go_wp2_with (first
      | (go_at_call 8; refine (HAL.out _).mono ?_; rintro e w5 ⟨rfl, hb5⟩; have hbe5 := bthen hbe4 hb5)
      | (go_at_call 25; refine (HM1.out _ hbe5).mono ?_; rintro e w6 ⟨rfl, hb6⟩))
    go_ret
    exact ⟨rfl, bthen hbe5 hb6⟩
  all_goals
    have q1 : ((⟨#[]⟩ : ByteArray).toList == ([] : List UInt8)) = true := by rw [ByteArray.toList_eq]; rfl
    go_wp2_with (go_at_call 8; refine (HAL.out _).mono ?_; rintro e w5 ⟨rfl, hb5⟩; have hbe5 := bthen hbe4 hb5)
    go_ret
    exact ⟨by first | rfl | simp [q1], hbe5⟩
end Go.Proofs.YtkgnapojkijbgaaGreatDoor
