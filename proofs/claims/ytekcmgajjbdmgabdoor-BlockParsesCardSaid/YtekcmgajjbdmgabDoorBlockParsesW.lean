/- The walk of the statement BlockParses: any text is read as just these blocks, or refused at just that line, as the document says. -/
import Derived.Test.YtekcmgajjbdmgabDoorRpsI
import Derived.Test.YtekcmgajjbdmgabDoorPrsJ
import Derived.Test.YtekcmgajjbdmgabDoorBlkS
import Derived.Test.YtekcmgajjbdmgabDoorBlkV
import Derived.Outline
namespace Go.Proofs.YtekcmgajjbdmgabDoor
open Go.RowKit

set_option maxHeartbeats 6400000 in
set_option maxRecDepth 100000 in
theorem blockParses_walk {w : World} (s0 : ByteArray) (_ws : s0.size ≤ maxLen) (hm : MaxC w) :
    Calls Tryd.prog 3 #[.string s0] w (BoolW true w) := by
  have hm1 : ∀ W (t : TypeId) (ts : Array TypeId), (Builtin.min_ ts t #[.int .i64 (s0.size : Int), .int .i64 8200]).run Tryd.prog W = .ok (.int .i64 ((min s0.size 8200 : Nat) : Int)) W := fun W t ts => run_minN W ts t s0.size 8200
  have hs1 := fun W => run_cutN (P := Tryd.prog) W 9 8200 s0 Tryd.underlying9
  have l1 := cutN_size 8200 s0
  generalize cutN 8200 s0 = S at *
  generalize min s0.size 8200 = m1 at *
  have hP := parse_any S w hm (by unfold maxLen; omega)
  have hQ := fun W => rParse_any S W (by omega)
  generalize parseB S.data.toList = r at *
  obtain ⟨L, E, A⟩ := r
  have HP : Hid (Calls Tryd.prog 9 #[.string S] w fun e w' => ∃ a c, e = .returned (.tuple #[.slice a L.length c, .int .i64 E, .int .i64 A]) ∧ HasDefs w' a c L ∧ Below w.heap.size w w') := Lib.hid hP
  have HQ : Hid (∀ W, Calls Tryd.prog 10 #[.string S] W fun e w' => ∃ a c, e = .returned (.agg #[.slice a L.length c, .int .i64 E, .int .i64 A]) ∧ HasDefs w' a c L ∧ Below W.heap.size W w') := Lib.hid hQ
  clear hP hQ hm l1
  go_enter Tryd.func3, Tryd.ntmps3
  go_upto_region 4 with (first
    | (go_at_call 9; (with_reducible refine HP.out.mono ?_); rintro e w2 ⟨a1, c1, rfl, hd1, hb2⟩)
    | (go_at_call 10; (with_reducible refine (HQ.out _).mono ?_); rintro e w3 ⟨a2, c2, rfl, hd2, hb3⟩))
  have hk := Blk.new w3 27 #[.slice a2 L.length c2, .int .i64 E, .int .i64 A]
  have hb4 := (Below.refl w3.heap.size w3).alloc (Nat.le_refl _) (.cells #[.slice a2 L.length c2, .int .i64 E, .int .i64 A] 27)
  have hd1' := hd1.call (bthen hb3 hb4)
  have hd2' := hd2.call hb4
  have hbz := bthen hb2 (bthen hb3 hb4)
  generalize w3.alloc (.cells #[.slice a2 L.length c2, .int .i64 E, .int .i64 A] 27) = w4 at *
  have HD1 := Lib.hid hd1'
  have HD2 := Lib.hid hd2'
  have HK := Lib.hid hk
  clear hd1 hd2 hd1' hd2' hb2 hb3 hb4 hk
  have hlk : likeDs L L = true := (likeDs_iff _ _).2 rfl
  have HLK := Lib.hid (fun W (h : Below w4.heap.size w4 W) => rLike_any a1 a2 c1 c2 L L W (HD1.out.call h) (HD2.out.call h))
  rw [hlk] at HLK
  clear hlk
  go_wp2_with (first
    | (go_at_call 11; (with_reducible refine (alive_any _).mono ?_); rintro e w5 ⟨rfl, hb5⟩; obtain ⟨k0, k1, k2⟩ := (HK.out.call hb5).cells3)
    | (go_at_call 12; (with_reducible refine (HLK.out _ hb5).mono ?_); rintro e w6 ⟨rfl, hb6⟩))
  go_ret
  exact ⟨rfl, bthen hbz (bthen hb5 hb6)⟩
end Go.Proofs.YtekcmgajjbdmgabDoor
