/- The contracts of 'cut' and 'alive' of the statements of layer 7. -/
import Derived.Test.YtekcmgajjbdmgabDoorHrsG
import Derived.IntWalk
namespace Go.Proofs.YtekcmgajjbdmgabDoor
open Go.RowKit

theorem results_cell_H {P : Program} {fn : Func} {p : Tmp} {ty : TypeId} (h : fn.results = #[.cell p ty]) (tmps : Array Value) (w : World) (g : Nat) (t : TypeId) (cs : Array Value) (fr : Nat × Nat) (d : TypeDesc)
    (hp : tmps.getD p undef = .pointer (some ⟨g, 0, none⟩)) (hg : w.heap[g]? = some (.cells cs t fr))
    (hu : P.underlying ty = some d) (hd : (match d with | .struct _ | .array _ _ => true | _ => false) = true) (hi : (P.info? ty).map (·.size) = some cs.size) :
    (results fn tmps).run P w = .ok (.agg cs) w := by
  have hp' : tmps[p]?.getD undef = .pointer (some ⟨g, 0, none⟩) := by simpa using hp
  simp [results, h, hp', asAddr, run_loadVar_row w g t ty cs fr d hg hu hd hi]

/-- what 'cut' leaves of a name -/
def cut7 (n : ByteArray) : ByteArray := cutN 70 n
theorem cut7_size (n : ByteArray) : (cut7 n).size ≤ maxLen := Nat.le_trans (cutN_size 70 n) (by unfold maxLen; omega)

set_option maxHeartbeats 1600000 in
set_option maxRecDepth 100000 in
theorem cut7_any (n : ByteArray) (d f t : Int) (w : World) (_hn : n.size ≤ maxLen) :
    Calls Tryd.prog 13 #[.agg #[.string n, .int .i64 d, .int .i64 f, .int .i64 t]] w fun e w' => e = .returned (.agg #[.string (cut7 n), .int .i64 d, .int .i64 f, .int .i64 t]) ∧ Below w.heap.size w w' := by
  have hm1 : ∀ W (t : TypeId) (ts : Array TypeId), (Builtin.min_ ts t #[.int .i64 (n.size : Int), .int .i64 70]).run Tryd.prog W = .ok (.int .i64 ((min n.size 70 : Nat) : Int)) W := fun W t ts => run_minN W ts t n.size 70
  have hs1 := fun W => run_cutN (P := Tryd.prog) W 9 70 n Tryd.underlying9
  unfold cut7
  generalize cutN 70 n = X at *
  generalize min n.size 70 = m1 at *
  have hk0 := Blk.new w 33 #[.string n, .int .i64 d, .int .i64 f, .int .i64 t]
  have hk1 := hk0.alloc (.cells #[.string ⟨#[]⟩, .int .i64 0, .int .i64 0, .int .i64 0] 33)
  have hk2 := Blk.new (w.alloc (.cells #[.string n, .int .i64 d, .int .i64 f, .int .i64 t] 33)) 33 #[.string ⟨#[]⟩, .int .i64 0, .int .i64 0, .int .i64 0]
  have hb0 := ((Below.refl w.heap.size w).alloc (Nat.le_refl _) (.cells #[.string n, .int .i64 d, .int .i64 f, .int .i64 t] 33)).alloc (by simp) (.cells #[.string ⟨#[]⟩, .int .i64 0, .int .i64 0, .int .i64 0] 33)
  rw [show (w.alloc (.cells #[.string n, .int .i64 d, .int .i64 f, .int .i64 t] 33)).heap.size = w.heap.size + 1 by simp] at hk2
  go_enter Tryd.func13, Tryd.ntmps13
  go_upto_region 1 with fail
  generalize (w.alloc (.cells #[.string n, .int .i64 d, .int .i64 f, .int .i64 t] 33)).alloc (.cells #[.string ⟨#[]⟩, .int .i64 0, .int .i64 0, .int .i64 0] 33) = w2 at *
  obtain ⟨c0, c1, c2, c3⟩ := hk1.cells4
  have f0 := hk1.frozen 0
  go_upto_region 2 with fail
  have hk3 := hk1.set 0 (.string X)
  have hk4 := hk2.setO ⟨w.heap.size, 0, none⟩ (.string X) (by simp)
  have hb3 := hb0.setCell (p := ⟨w.heap.size, 0, none⟩) (Nat.le_refl _) (.string X)
  generalize w2.setCell ⟨w.heap.size, 0, none⟩ (.string X) = w3 at *
  clear c0 c1 c2 c3 f0 hk0 hk1 hk2 hb0
  have hk3' : Blk w3 w.heap.size 33 #[.string X, .int .i64 d, .int .i64 f, .int .i64 t] := hk3
  obtain ⟨d0, d1, d2, d3⟩ := hk3'.cells4
  obtain ⟨e0, e1, e2, e3⟩ := hk4.cells4
  have f0 := hk4.frozen 0
  have f1 := hk4.frozen 1
  have f2 := hk4.frozen 2
  have f3 := hk4.frozen 3
  go_wp2_with fail
  refine bodyPost_ret (v := .agg #[.string X, .int .i64 d, .int .i64 f, .int .i64 t]) ?_ rfl ⟨rfl, below_set4 hb3 (Nat.le_succ _) _ _ _ _⟩
  exact results_cell_H rfl _ _ (w.heap.size + 1) _ #[.string X, .int .i64 d, .int .i64 f, .int .i64 t] _ _ rfl (hk4.set4 _ _ _ _) Tryd.underlying33 rfl (by kernel_rfl)

def knownT : Bs := [109, 111, 110, 44, 102, 114, 105, 32, 48, 57, 58, 48, 48, 45, 49, 55, 58, 51, 48]
theorem known_parse : parseH knownT = some (17, 540, 1050) := by decide +kernel
theorem known_in : inT [120] 17 540 1050 32400000 = true := by decide +kernel
set_option maxRecDepth 100000 in
theorem alive_any (w : World) (hw : HW w) : Calls Tryd.prog 21 #[] w (BoolW true w) := by
  have hP := hParse_any ⟨#[109, 111, 110, 44, 102, 114, 105, 32, 48, 57, 58, 48, 48, 45, 49, 55, 58, 51, 48]⟩ w hw (by decide)
  rw [show parseH (⟨#[109, 111, 110, 44, 102, 114, 105, 32, 48, 57, 58, 48, 48, 45, 49, 55, 58, 51, 48]⟩ : ByteArray).data.toList = some (17, 540, 1050) from known_parse] at hP
  have hI := fun W => hIn_any ⟨#[120]⟩ 17 540 1050 32400000 W (by decide)
  rw [show inT (⟨#[120]⟩ : ByteArray).data.toList 17 540 1050 32400000 = true from known_in] at hI
  have hP' : Calls Tryd.prog 15 #[.string ⟨#[109, 111, 110, 44, 102, 114, 105, 32, 48, 57, 58, 48, 48, 45, 49, 55, 58, 51, 48]⟩] w fun e w' => e = .returned (.tuple #[.agg #[.string ⟨#[120]⟩, .int .i64 17, .int .i64 540, .int .i64 1050], .int .i64 0]) ∧ Below w.heap.size w w' := hP
  clear hP
  go_enter Tryd.func21, Tryd.ntmps21
  go_wp2_with (first
    | (go_at_call 15; (with_reducible refine hP'.mono ?_); rintro e w2 ⟨rfl, hb2⟩)
    | (go_at_call 19; (with_reducible refine (hI _).mono ?_); rintro e w3 ⟨rfl, hb3⟩))
  go_ret
  exact ⟨rfl, bthen (hb2.alloc hb2.size _) hb3⟩
end Go.Proofs.YtekcmgajjbdmgabDoor
