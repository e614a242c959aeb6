/- The contract of the statements' own count of routes. -/
import Derived.Test.YtdlhmjdjoadioacDoorRteA
import Derived.Outline
namespace Go.Proofs.YtdlhmjdjoadioacDoor
open Go.RowKit

def ManyP (q : RtAt) (m : Nat) (w : World) (e : Ending) (w' : World) : Prop :=
  ∃ z : Nat, e = .returned (.int .i64 (z : Int)) ∧ 1 ≤ z ∧ z ≤ m + 1 ∧ (z ≤ m → z = q.n.count) ∧ Below w.heap.size w w'

set_option maxHeartbeats 6400000 in
set_option maxRecDepth 100000 in
theorem many_any {w0 : World} {q : RtAt} (h : q.ok w0) : ∀ (w : World) (m : Nat), Below w0.heap.size w0 w → m ≤ 1000 → Calls Tryd.prog 6 #[.agg (tCells q), .int .i64 (m : Int)] w (ManyP q m w) := by
  induction h with
  | flat q h0 h1 =>
    intro w m _ hm
    have hb := (Below.refl w.heap.size w).alloc (Nat.le_refl _) (.cells (tCells q) 26)
    have hB := Blk.new w 26 (tCells q)
    have hc : q.n.count = 1 := by rw [Rt.count_eq, h1]; rfl
    have hz : q.n.kids.length = 0 := by rw [h1]; rfl
    have HB := Lib.hid hb
    have HC := Lib.hid hc
    have HZ := Lib.hid hz
    clear hb hc h0 h1 hz
    obtain ⟨n, ma, mc, ba, bc, ua, uc, ka, kc⟩ := q
    simp only [tCells] at *
    go_enter Tryd.func6, Tryd.ntmps6
    go_upto_region 1 with fail
    generalize w.alloc (.cells #[.string n.recv, .slice ma n.ms.length mc, .slice ba n.bys.length bc, .int .i64 n.wait, .int .i64 n.every, .int .i64 n.rep, .slice ua n.mute.length uc, .bool n.on, .slice ka n.kids.length kc] 26) = wx at *
    obtain ⟨c0, c1, c2, c3, c4, c5, c6, c7, c8⟩ := hB.cells9
    have hz := HZ.out
    go_wp2_with fail
    refine wp_loop_rounds 1 ?_
    rw [rounds_succ]
    go_wp2_with fail
    go_ret
    exact ⟨1, rfl, by omega, by omega, fun _ => HC.out.symm, HB.out⟩
  | row q b off R h0 h1 h2 h3 h4 h5 ih =>
    intro w m hw hm
    have hb := (Below.refl w.heap.size w).alloc (Nat.le_refl _) (.cells (tCells q) 26)
    have hB := Blk.new w 26 (tCells q)
    have hl := h0.2
    have H3 := Lib.hid h3
    have H4 := Lib.hid h4
    have IH := Lib.hid ih
    have HB := Lib.hid hb
    have HW := Lib.hid hw
    have hcnt := Rt.count_eq q.n
    have HCN := Lib.hid hcnt
    clear h0 h2 h3 h4 h5 ih hw hcnt
    obtain ⟨n, ma, mc, ba, bc, ua, uc, ka, kc⟩ := q
    simp only [tCells] at *
    subst h1
    unfold maxLen at hl
    have lic := hl.1
    have lic2 := hl.2
    go_enter Tryd.func6, Tryd.ntmps6
    go_upto_region 1 with fail
    have HW1 := Lib.hid (HW.out.trans (hb.mono HW.out.size))
    generalize w.alloc (.cells #[.string n.recv, .slice ma n.ms.length mc, .slice ba n.bys.length bc, .int .i64 n.wait, .int .i64 n.every, .int .i64 n.rep, .slice ua n.mute.length uc, .bool n.on, .slice (some ⟨b, off, none⟩) n.kids.length kc] 26) = wx at *
    obtain ⟨c0, c1, c2, c3, c4, c5, c6, c7, c8⟩ := hB.cells9
    clear hb
    go_wp2_with fail
    go_loopg [11, 5, 7] n.kids.length (fun gg iv kv _ wr => ∃ k z : Nat, k + gg = n.kids.length ∧ iv = .int .i64 k ∧ kv = .int .i64 z ∧ 1 ≤ z ∧ z ≤ m + 1 ∧ (z ≤ m → z = 1 + countRs (n.kids.take k)) ∧ Below wx.heap.size wx wr)
    case atStart => exact ⟨0, 1, by omega, rfl, rfl, by omega, by omega, fun _ => by simp [countRs], Below.refl _ _⟩
    case round =>
      obtain ⟨k, z, hkg, rfl, rfl, hz1, hzm, hzc, hbr⟩ := hrel
      have HZ := Lib.hid hzc
      have HBR := Lib.hid hbr
      clear hzc hbr
      cases gk with
      | zero =>
        obtain rfl : k = n.kids.length := by omega
        go_wp2_with fail
        go_ret
        exact ⟨z, rfl, by omega, by omega, fun h => by rw [HCN.out, HZ.out h, List.take_length], bthen HB.out HBR.out⟩
      | succ gg =>
        have hkl : k < n.kids.length := by omega
        have hrn := H3.out k hkl
        have hrl := (H4.out k hkl).call (HW1.out)
        obtain ⟨e0, e1, e2, e3, e4, e5, e6, e7, e8⟩ := hrl.call HBR.out
        have hct := countRs_take n.kids k hkl
        rw [← hrn] at hct
        have hih := IH.out k hkl (wr.alloc (.cells (tCells (R k)) 26)) (m - z) (HW1.out.trans ((HBR.out.mono HW1.out.size).trans (((Below.refl wr.heap.size wr).alloc (Nat.le_refl _) _).mono (Nat.le_trans HW1.out.size HBR.out.size)))) (by omega)
        have hbn := (Below.refl wr.heap.size wr).alloc (Nat.le_refl _) (.cells (tCells (R k)) 26)
        obtain ⟨f0, f1, f2, f3, f4, f5, f6, f7, f8⟩ := (Blk.new wr 26 (tCells (R k))).cells9
        have HIH := Lib.hid hih
        have HBN := Lib.hid hbn
        have HCT := Lib.hid hct
        clear hrn hrl hct hih hbn H3 H4 IH
        generalize R k = r at *
        obtain ⟨r, ma', mc', ba', bc', ua', uc', ka', kc'⟩ := r
        simp only [tCells] at *
        by_cases hzm2 : z ≤ m
        case neg =>
          go_wp2_with fail
          go_ret
          exact ⟨z, rfl, by omega, by omega, fun h => by omega, bthen HB.out (bthen HBR.out HBN.out)⟩
        case pos =>
          have hsub : ((m - z : Nat) : Int) = (m : Int) - (z : Int) := by omega
          rw [hsub] at HIH
          clear hsub
          go_wp2_with (go_at_call 6; refine HIH.out.mono ?_; rintro e w3 ⟨y, rfl, hy1, hy2, hy3, hb3⟩)
          go_roundg gg
          case measure => omega
          case rel => exact ⟨k + 1, z + y, by omega, by go_num, by go_num, by omega, by omega, fun h => by rw [HCT.out, ← hy3 (by omega)]; have := HZ.out hzm2; omega, bthen HBR.out (bthen HBN.out hb3)⟩
end Go.Proofs.YtdlhmjdjoadioacDoor
