/- The contracts of matcher.test and of the tests that it makes. -/
import Derived.Test.YtmhehojjlacfoaaDoorLabUC
import Derived.Test.YtmhehojjlacfoaaDoorLabCG
import Derived.Test.YtmhehojjlacfoaaDoorMatB
import Derived.Test.YtmhehojjlacfoaaDoorLabU0
import Derived.Test.YtmhehojjlacfoaaDoorLater
namespace Go.Proofs.YtmhehojjlacfoaaDoor
open Go.RowKit Go.Maps

def matCells (a : Option Addr) (c : Nat) (m : Mat) : Array Value := #[.string m.name, .int .i64 m.how, .slice a m.words.length c]
/-- v is the test of the matcher m, whose words lie at a -/
def TestAt (w : World) (v : Value) (a : Option Addr) (c : Nat) (m : Mat) : Prop :=
  ∃ g1 g2, v = .func (.func 56) #[] #[.pointer (some ⟨g1, 0, none⟩), .pointer (some ⟨g2, 0, none⟩)] ∧ Blk w g1 54 (matCells a c m) ∧ Blk w g2 4 #[.bool (onesC m.how)]
theorem TestAt.call {w w' : World} {v : Value} {a : Option Addr} {c : Nat} {m : Mat} (h : TestAt w v a c m) (hb : Below w.heap.size w w') : TestAt w' v a c m := by
  obtain ⟨g1, g2, h1, h2, h3⟩ := h
  exact ⟨g1, g2, h1, h2.call hb, h3.call hb⟩
def TestPost (a : Option Addr) (c : Nat) (m : Mat) (w : World) (e : Ending) (w' : World) : Prop := ∃ v, e = .returned v ∧ TestAt w' v a c m ∧ Below w.heap.size w w'

theorem Blk.cells1 {w : World} {g : Nat} {t : TypeId} {x : Value} (h : Blk w g t #[x]) : w.cell? ⟨g, 0, none⟩ = some x := h.cell 0
theorem matCells3 {w : World} {g : Nat} {t : TypeId} {a : Option Addr} {c : Nat} {m : Mat} (h : Blk w g t (matCells a c m)) : w.cell? ⟨g, 0, none⟩ = some (.string m.name) ∧ w.cell? ⟨g, 1, none⟩ = some (.int .i64 m.how) ∧ w.cell? ⟨g, 2, none⟩ = some (.slice a m.words.length c) := Blk.cells3 h

set_option maxHeartbeats 3200000 in
set_option maxRecDepth 100000 in
theorem test1_any (g1 g2 : Nat) (a a' : Option Addr) (c c' : Nat) (m : Mat) (X : Bool) (ls : List Lab) (w : World) (h1 : Blk w g1 54 (matCells a c m)) (h2 : Blk w g2 4 #[.bool X]) (h3 : HasStrs w a c m.words) (hL : HasLabs w a' c' ls) :
    Calls Tryd.prog 56 #[.slice a' ls.length c', .pointer (some ⟨g1, 0, none⟩), .pointer (some ⟨g2, 0, none⟩)] w (BoolB (inB (getL ls m.name) m.words == X) w) := by
  obtain ⟨c0, c1, c2⟩ := matCells3 h1
  have d0 := h2.cells1
  have HG := Lib.hid (fun W hb => get_any a' c' ls m.name W (hL.call hb))
  have HC := Lib.hid (fun W hb => containsL_any a c m.words (getL ls m.name) W (h3.call hb))
  clear h1 h2 h3 hL
  generalize getL ls m.name = V at *
  generalize inB V m.words = B at *
  have c0l := fun x => later_cell c0 x
  have c2l := fun x => later_cell c2 x
  have d0l := fun x => later_cell d0 x
  clear c0 c1 c2 d0
  go_enter Tryd.func56, Tryd.ntmps56
  go_wp2_with fail
  refine wp_region_later (by kernel_rfl) (by kernel_rfl) ?_
  repeat (go_big_quiet_step (first
    | (go_at_call 58; exact calls_later (HG.out _ (later_below _ _)))
    | (go_at_call 57; exact calls_later_same (HC.out _ (later_below _ _)))))
  refine wpQuiet_nil ?_
  rintro _ ⟨x, rfl⟩
  have hb2 := later_below w x
  generalize later w x = w2 at *
  clear c0l c2l d0l
  go_wp2_with fail
  go_ret
  exact ⟨rfl, hb2⟩

theorem run_sign0 (t : ByteArray) (n : Int) (b : Bool) (W : World) : (Instr.field 74 (.agg #[.string t, .int .i64 n, .bool b]) 0).run Tryd.prog W = .ok (.string t) W := by kernel_rfl
theorem run_sign2 (t : ByteArray) (n : Int) (b : Bool) (W : World) : (Instr.field 74 (.agg #[.string t, .int .i64 n, .bool b]) 2).run Tryd.prog W = .ok (.bool b) W := by kernel_rfl

set_option maxHeartbeats 3200000 in
set_option maxRecDepth 100000 in
theorem test_any (a : Option Addr) (c : Nat) (m : Mat) (w : World) (hwf : (Lit.int .i64 m.how).wf = true) : Calls Tryd.prog 37 #[.agg #[.string m.name, .int .i64 m.how, .slice a m.words.length c]] w (TestPost a c m w) := by
  have hsv := signVal_is m.how
  have HL := Lib.hid (fun (W : World) (b : Nat) (hm : W.ownsMap Tryd.prog 3 signElem b 4 D4) => look_sign1 hm m.how hwf)
  obtain ⟨X, hX⟩ : ∃ X, onesC m.how = X := ⟨_, rfl⟩
  have HX := Lib.hid hX
  rw [hX] at hsv
  clear hwf hX
  generalize (signT m.how) = T at *
  generalize mostC m.how = M at *
  rw [hsv] at HL
  clear hsv
  go_enter Tryd.func37, Tryd.ntmps37
  go_upto_region 1 with fail
  have hblk := Blk.new w 54 (matCells a c m)
  have hb0 : Below w.heap.size w (w.alloc (.cells (matCells a c m) 54)) := (Below.refl _ _).alloc (Nat.le_refl _) _
  unfold matCells at hblk hb0
  generalize w.alloc (.cells #[.string m.name, .int .i64 m.how, .slice a m.words.length c] 54) = wx at *
  have HB := Lib.hid hblk
  have HB0 := Lib.hid hb0
  clear hblk hb0
  go_cut [3] (fun p wy => ∃ g, p = .pointer (some ⟨g, 0, none⟩) ∧ Blk wy g 4 #[.bool X] ∧ Blk wy w.heap.size 54 #[.string m.name, .int .i64 m.how, .slice a m.words.length c] ∧ Below w.heap.size w wy)
  case first =>
    have hfd := fun W => run_sign2 ⟨T.toArray⟩ M X W
    have c1 := HB.out.cells3.2.1
    have c1a := fun o => (HB.out.alloc o).drew.cells3.2.1
    have hbn := fun x => (Blk.new wx 4 #[x]).drew
    go_region_with (go_at_call 53; (with_reducible refine (signs_any _).mono ?_); rintro e w2 ⟨rfl, hm, hb2⟩; first
      | (have c1' := cellLater hb2 c1; have c1'' := fun o => cellLater ((Below.refl _ _).alloc (Nat.le_refl _) o) c1'; have hlk := HL.out w2 wx.heap.size hm; have hlk2 := fun o => HL.out (w2.alloc o) wx.heap.size (hm.alloc o))
      | (have c1' := cellLater hb2 (c1a _); have hk3 := (hbn _).call hb2; have d0 := hk3.cells1; have f0 := hk3.frozen 0; have hlk := HL.out w2 (wx.heap.size + 1) (by simpa using hm)))
    all_goals
      go_wp2_with fail
      go_meet
      first
      | exact ⟨_, rfl, Blk.new _ _ _, (HB.out.drew.call hb2).alloc _, (bthen HB0.out.drew hb2).alloc (bthen HB0.out.drew hb2).size _⟩
      | exact ⟨_, rfl, hk3.set 0 _, ((HB.out.alloc _).drew.call hb2).setO _ _ (Nat.ne_of_lt HB.out.lt), (bthen (HB0.out.alloc HB0.out.size _).drew hb2).setCell HB0.out.size _⟩
  case rest =>
    obtain ⟨g, rfl, hsg, hbx, hbw⟩ := hcut
    have HX1 := Lib.hid hbx
    have HG := Lib.hid hsg
    clear HB HB0 HL hbx hsg
    go_wp2_with fail
    go_ret
    exact ⟨_, rfl, ⟨_, _, rfl, HX1.out, by rw [HX.out]; exact HG.out⟩, hbw⟩
end Go.Proofs.YtmhehojjlacfoaaDoor
