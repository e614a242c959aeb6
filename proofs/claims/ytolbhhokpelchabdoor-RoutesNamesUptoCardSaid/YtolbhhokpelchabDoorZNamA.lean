/- The contract of routes.Names. -/
import Derived.Test.YtolbhhokpelchabDoorMg3
import Derived.Test.YtolbhhokpelchabDoorZGatA
import Derived.Test.YtolbhhokpelchabDoorZGatB
import Derived.Deep.RegionWith
namespace Go.Proofs.YtolbhhokpelchabDoor
open Go.RowKit

def NamesP (X Y : List ByteArray) (w : World) (e : Ending) (w' : World) : Prop :=
  ∃ a c b d, e = .returned (.tuple #[.slice a X.length c, .slice b Y.length d]) ∧ HasStrs w' a c X ∧ HasStrs w' b d Y ∧ Below w.heap.size w w'
theorem gatAll1 (w0 : World) (tB cB aB mB : Nat) : GatAll w0 37 tB cB aB mB recvT := fun q W v L h hL hW => gat_step1 q h W v L hL hW
theorem gatAll2 (w0 : World) (tB cB aB mB : Nat) : GatAll w0 38 tB cB aB mB muteT := fun q W v L h hL hW => gat_step2 q h W v L hL hW
set_option maxHeartbeats 6400000 in
set_option maxRecDepth 100000 in
theorem routesNames_any (w : World) (q : RtAt) (h : q.ok w) (hc : q.n.count ≤ 60) :
    Calls Tryd.prog 17 #[.agg (tCells q)] w (NamesP (onceL (tellL recvT q.n.all)) (onceL (tellL muteT q.n.all)) w) := by
  have hb := (Below.refl w.heap.size w).alloc (Nat.le_refl _) (.cells (tCells q) 26)
  have hB := Blk.new w 26 (tCells q)
  have hG1 : ∀ W, Below w.heap.size w W → Calls Tryd.prog 39 #[.agg (tCells q), .func (.func 37) #[] #[]] W (RowP (onceL (tellL recvT q.n.all)) W) := fun W hW => gather_any 37 recvT W (gatAll1 W) (recv_ok W) q (h.call hW) hc
  have hG2 : ∀ W, Below w.heap.size w W → Calls Tryd.prog 39 #[.agg (tCells q), .func (.func 38) #[] #[]] W (RowP (onceL (tellL muteT q.n.all)) W) := fun W hW => gather_any 38 muteT W (gatAll2 W) (mute_ok W) q (h.call hW) hc
  have HG1 := Lib.hid hG1
  have HG2 := Lib.hid hG2
  have HB := Lib.hid hb
  clear hG1 hG2 hb hc h
  generalize onceL (tellL recvT q.n.all) = X at *
  generalize onceL (tellL muteT q.n.all) = Y at *
  obtain ⟨n, ma, mc, ba, bc, ua, uc, ka, kc⟩ := q
  simp only [tCells] at *
  go_enter Tryd.func17, Tryd.ntmps17
  go_upto_region 3 with fail
  generalize w.alloc (.cells #[.string n.recv, .slice ma n.ms.length mc, .slice ba n.bys.length bc, .int .i64 n.wait, .int .i64 n.every, .int .i64 n.rep, .slice ua n.mute.length uc, .bool n.on, .slice ka n.kids.length kc] 26) = w1 at *
  obtain ⟨c0, c1, c2, c3, c4, c5, c6, c7, c8⟩ := hB.cells9
  have BD : Below w1.heap.size w1 w1.drew := below_drewN (Below.refl _ _) 1
  go_region_with (first
    | (go_at_call 39; (with_reducible refine (HG1.out w1.drew (bthen HB.out BD)).mono ?_); rintro e w3 ⟨a1, x1, rfl, hs1, hb1⟩; have hBx := hB.call (bthen BD hb1); obtain ⟨d0, d1, d2, d3, d4, d5, d6, d7, d8⟩ := hBx.cells9)
    | (go_at_call 39; (with_reducible refine (HG2.out w1.drew (bthen HB.out BD)).mono ?_); rintro e w4 ⟨a2, x2, rfl, hs2, hb2⟩; have hBy := hB.call (bthen BD hb2); obtain ⟨e0, e1, e2, e3, e4, e5, e6, e7, e8⟩ := hBy.cells9)
    | (go_at_call 39; (with_reducible refine (HG1.out w4 (bthen HB.out (bthen BD hb2))).mono ?_); rintro e w3 ⟨a1, x1, rfl, hs1, hb1⟩; have hBx := hB.call (bthen BD (bthen hb2 hb1)); obtain ⟨d0, d1, d2, d3, d4, d5, d6, d7, d8⟩ := hBx.cells9)
    | (go_at_call 39; (with_reducible refine (HG2.out w3 (bthen HB.out (bthen BD hb1))).mono ?_); rintro e w4 ⟨a2, x2, rfl, hs2, hb2⟩; have hBy := hB.call (bthen BD (bthen hb1 hb2)); obtain ⟨e0, e1, e2, e3, e4, e5, e6, e7, e8⟩ := hBy.cells9))
  all_goals
    go_wp2_with fail
    go_ret2
    refine ⟨_, _, _, _, rfl, ?_, ?_, ?_⟩
    · first | exact hs1 | exact hs1.call hb2
    · first | exact hs2 | exact hs2.call hb1
    · first | exact bthen HB.out (bthen BD (bthen hb1 hb2)) | exact bthen HB.out (bthen BD (bthen hb2 hb1))
end Go.Proofs.YtolbhhokpelchabDoor
