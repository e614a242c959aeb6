/- The contract of the cut of layer 8. -/
import Derived.Test.YtdlhmjdjoadioabGreatDoorMg6
import Derived.Test.YtdlhmjdjoadioabGreatDoorZRulF
import Derived.Test.YtdlhmjdjoadioabGreatDoorRegM
namespace Go.Proofs.YtdlhmjdjoadioabGreatDoor
open Go.RowKit

def cutR (r : Rul) : Rul := { r with name := cut70 r.name, metric := cut70 r.metric, labels := fewL r.labels }
def CutP (r : Rul) (w : World) (e : Ending) (w' : World) : Prop := ∃ a c, e = .returned (.agg (rCells (cutR r) a c)) ∧ RulAt w' (cutR r) a c ∧ (∀ b o s, a = some ⟨b, o, s⟩ → w.heap.size ≤ b) ∧ Below w.heap.size w w'
theorem HasLabs.setO {w : World} {a : Option Addr} {c : Nat} {ls : List Lab} {p : Addr} (h : HasLabs w a c ls) (hne : ∀ b o s, a = some ⟨b, o, s⟩ → b ≠ p.block) (v : Value) : HasLabs (w.setCell p v) a c ls := by
  obtain ⟨h1, h2, h3, h4⟩ := h
  refine ⟨h1, h2, h3, h4.imp id ?_⟩
  rintro ⟨b, off, rfl, hb, hc⟩
  refine ⟨b, off, rfl, by simpa [World.setCell] using hb, fun i hi => ?_⟩
  have hn := hne _ _ _ rfl
  rw [cell_setO _ _ _ _ _ hn, cell_setO _ _ _ _ _ hn]
  exact hc i hi
theorem setO8 {w : World} {a : Option Addr} {c : Nat} {ls : List Lab} {g : Nat} (h : HasLabs w a c ls) (hne : ∀ b o s, a = some ⟨b, o, s⟩ → b ≠ g) (v0 v1 v2 v3 v4 v5 v6 v7 : Value) :
    HasLabs ((((((((w.setCell ⟨g, 0, none⟩ v0).setCell ⟨g, 1, none⟩ v1).setCell ⟨g, 2, none⟩ v2).setCell ⟨g, 3, none⟩ v3).setCell ⟨g, 4, none⟩ v4).setCell ⟨g, 5, none⟩ v5).setCell ⟨g, 6, none⟩ v6).setCell ⟨g, 7, none⟩ v7) a c ls :=
  (((((((h.setO hne v0).setO hne v1).setO hne v2).setO hne v3).setO hne v4).setO hne v5).setO hne v6).setO hne v7
theorem Blk.set8 {w : World} {g : Nat} {t : TypeId} {x0 x1 x2 x3 x4 x5 x6 x7 : Value} (h : Blk w g t #[x0, x1, x2, x3, x4, x5, x6, x7]) (v0 v1 v2 v3 v4 v5 v6 v7 : Value) :
    Blk ((((((((w.setCell ⟨g, 0, none⟩ v0).setCell ⟨g, 1, none⟩ v1).setCell ⟨g, 2, none⟩ v2).setCell ⟨g, 3, none⟩ v3).setCell ⟨g, 4, none⟩ v4).setCell ⟨g, 5, none⟩ v5).setCell ⟨g, 6, none⟩ v6).setCell ⟨g, 7, none⟩ v7) g t #[v0, v1, v2, v3, v4, v5, v6, v7] := by
  have q := (((((((h.set 0 v0).set 1 v1).set 2 v2).set 3 v3).set 4 v4).set 5 v5).set 6 v6).set 7 v7
  simp only [List.setIfInBounds_toArray, List.set_cons_zero, List.set_cons_succ] at q
  exact q
theorem below_set8 {B g : Nat} {w w1 : World} (h : Below B w w1) (hg : B ≤ g) (v0 v1 v2 v3 v4 v5 v6 v7 : Value) :
    Below B w ((((((((w1.setCell ⟨g, 0, none⟩ v0).setCell ⟨g, 1, none⟩ v1).setCell ⟨g, 2, none⟩ v2).setCell ⟨g, 3, none⟩ v3).setCell ⟨g, 4, none⟩ v4).setCell ⟨g, 5, none⟩ v5).setCell ⟨g, 6, none⟩ v6).setCell ⟨g, 7, none⟩ v7) :=
  (((((((h.setCell hg v0).setCell hg v1).setCell hg v2).setCell hg v3).setCell hg v4).setCell hg v5).setCell hg v6).setCell hg v7
set_option maxHeartbeats 12800000 in
set_option maxRecDepth 100000 in
theorem cutR_any (r : Rul) (a : Option Addr) (c : Nat) (w : World) (h : RulAt w r a c) : Calls Tryz.prog 5 #[.agg (rCells r a c)] w (CutP r w) := by
  obtain ⟨n, m, k, l, f, p, t, ls⟩ := r
  have HF := Lib.hid (fun W (h : HasLabs W a c ls) => few_any a c ls W h)
  have hk0 := Blk.new w 24 (rCells ⟨n, m, k, l, f, p, t, ls⟩ a c)
  have hk1 := hk0.alloc (.cells #[.string ⟨#[]⟩, .string ⟨#[]⟩, .int .i64 0, .int .i64 0, .int .i64 0, .int .i64 0, .int .i64 0, .slice none 0 0] 24)
  have hk2 := Blk.new (w.alloc (.cells (rCells ⟨n, m, k, l, f, p, t, ls⟩ a c) 24)) 24 #[.string ⟨#[]⟩, .string ⟨#[]⟩, .int .i64 0, .int .i64 0, .int .i64 0, .int .i64 0, .int .i64 0, .slice none 0 0]
  have hb0 := ((Below.refl w.heap.size w).alloc (Nat.le_refl _) (.cells (rCells ⟨n, m, k, l, f, p, t, ls⟩ a c) 24)).alloc (by simp) (.cells #[.string ⟨#[]⟩, .string ⟨#[]⟩, .int .i64 0, .int .i64 0, .int .i64 0, .int .i64 0, .int .i64 0, .slice none 0 0] 24)
  rw [show (w.alloc (.cells (rCells ⟨n, m, k, l, f, p, t, ls⟩ a c) 24)).heap.size = w.heap.size + 1 by simp] at hk2
  have hm1 : ∀ W (t : TypeId) (ts : Array TypeId), (Builtin.min_ ts t #[.int .i64 (n.size : Int), .int .i64 70]).run Tryz.prog W = .ok (.int .i64 ((min n.size 70 : Nat) : Int)) W := fun W t ts => run_min70 W ts t n.size
  have hm2 : ∀ W (t : TypeId) (ts : Array TypeId), (Builtin.min_ ts t #[.int .i64 (m.size : Int), .int .i64 70]).run Tryz.prog W = .ok (.int .i64 ((min m.size 70 : Nat) : Int)) W := fun W t ts => run_min70 W ts t m.size
  have hs1 := fun W => run_cut70 (P := Tryz.prog) W 9 n Tryz.underlying9
  have hs2 := fun W => run_cut70 (P := Tryz.prog) W 9 m Tryz.underlying9
  have hA := h.1.call hb0
  have hsz : (cut70 n).size ≤ maxLen ∧ (cut70 m).size ≤ maxLen := by
    have := cut70_size n; have := cut70_size m; unfold maxLen; omega
  have HSZ := Lib.hid hsz
  unfold CutP cutR
  clear h hk0 hsz
  simp only [rCells] at *
  generalize cut70 n = X at *
  generalize cut70 m = Y at *
  generalize min n.size 70 = m1 at *
  generalize min m.size 70 = m2 at *
  go_enter Tryz.func5, Tryz.ntmps5
  go_upto_region 1 with fail
  generalize (w.alloc (.cells #[.string n, .string m, .int .i64 k, .int .i64 l, .int .i64 f, .int .i64 p, .int .i64 t, .slice a ls.length c] 24)).alloc (.cells #[.string ⟨#[]⟩, .string ⟨#[]⟩, .int .i64 0, .int .i64 0, .int .i64 0, .int .i64 0, .int .i64 0, .slice none 0 0] 24) = wx at *
  have HK1 := Lib.hid hk1.drew
  have HK2 := Lib.hid hk2.drew
  have HB0 := Lib.hid hb0.drew
  have HAA := Lib.hid hA.drew
  obtain ⟨c0, c1, c2, c3, c4, c5, c6, c7⟩ := hk1.drew.cells8
  clear hk1 hk2 hb0 hA c2 c3 c4 c5 c6
  refine wp_region_marked (fun w' => w'.cell? ⟨w.heap.size, 0, none⟩ = some (.string n) ∧ w'.cell? ⟨w.heap.size, 1, none⟩ = some (.string m) ∧ w'.cell? ⟨w.heap.size, 7, none⟩ = some (.slice a ls.length c)) 18 (by kernel_rfl) ?_
  have hS : (fun w' : World => w'.cell? ⟨w.heap.size, 0, none⟩ = some (.string n) ∧ w'.cell? ⟨w.heap.size, 1, none⟩ = some (.string m) ∧ w'.cell? ⟨w.heap.size, 7, none⟩ = some (.slice a ls.length c)) wx.drew := ⟨c0, c1, c7⟩
  clear c0 c1 c7
  generalize wx.drew = w1 at *
  refine wpAnyM_pure (v := ?v0) 0 rfl (by kernel_rfl) (by kernel_rfl) (by kernel_rfl) (by kernel_rfl) (by decide) (fun _ _ _ h => h) (Or.inl ⟨by rfl, ?hy0⟩) hS ?rest0
  case hy0 => intro wq hSw; (try dsimp only at hSw); go_simp; (try with_reducible rfl)
  case rest0 =>
  simp only [Act.put, List.setIfInBounds_toArray]
  refine wpAnyM_load (v := ?v1) 1 rfl (by kernel_rfl) (by kernel_rfl) (by kernel_rfl) (by kernel_rfl) (by decide) (by kernel_rfl) (fun _ _ _ h => h) (Or.inl ⟨by rfl, ?hy1⟩) hS ?rest1
  case hy1 => intro wq hSw; (try dsimp only at hSw); go_simp; (try with_reducible rfl)
  case rest1 =>
  simp only [Act.put]
  refine wpAnyM_pure (v := ?v2) 2 rfl (by kernel_rfl) (by kernel_rfl) (by kernel_rfl) (by kernel_rfl) (by decide) (fun _ _ _ h => h) (Or.inl ⟨by rfl, ?hy2⟩) hS ?rest2
  case hy2 => intro wq hSw; (try dsimp only at hSw); go_simp; (try with_reducible rfl)
  case rest2 =>
  simp only [Act.put]
  refine wpAnyM_load (v := ?v3) 3 rfl (by kernel_rfl) (by kernel_rfl) (by kernel_rfl) (by kernel_rfl) (by decide) (by kernel_rfl) (fun _ _ _ h => h) (Or.inl ⟨by rfl, ?hy3⟩) hS ?rest3
  case hy3 => intro wq hSw; (try dsimp only at hSw); go_simp; (try with_reducible rfl)
  case rest3 =>
  simp only [Act.put]
  refine wpAnyM_pure (v := ?v4) 4 rfl (by kernel_rfl) (by kernel_rfl) (by kernel_rfl) (by kernel_rfl) (by decide) (fun _ _ _ h => h) (Or.inl ⟨by rfl, ?hy4⟩) hS ?rest4
  case hy4 => intro wq hSw; (try dsimp only at hSw); go_simp; (try with_reducible rfl)
  case rest4 =>
  simp only [Act.put]
  refine wpAnyM_pure (v := ?v5) 5 rfl (by kernel_rfl) (by kernel_rfl) (by kernel_rfl) (by kernel_rfl) (by decide) (fun _ _ _ h => h) (Or.inl ⟨by rfl, ?hy5⟩) hS ?rest5
  case hy5 => intro wq hSw; (try dsimp only at hSw); go_simp; (try with_reducible rfl)
  case rest5 =>
  simp only [Act.put]
  refine wpAnyM_pure (v := ?v6) 6 rfl (by kernel_rfl) (by kernel_rfl) (by kernel_rfl) (by kernel_rfl) (by decide) (fun _ _ _ h => h) (Or.inl ⟨by rfl, ?hy6⟩) hS ?rest6
  case hy6 => intro wq hSw; (try dsimp only at hSw); go_simp; (try with_reducible rfl)
  case rest6 =>
  simp only [Act.put]
  refine wpAnyM_pure (v := ?v7) 7 rfl (by kernel_rfl) (by kernel_rfl) (by kernel_rfl) (by kernel_rfl) (by decide) (fun _ _ _ h => h) (Or.inl ⟨by rfl, ?hy7⟩) hS ?rest7
  case hy7 => intro wq hSw; (try dsimp only at hSw); go_simp; (try with_reducible rfl)
  case rest7 =>
  simp only [Act.put]
  refine wpAnyM_load (v := ?v8) 8 rfl (by kernel_rfl) (by kernel_rfl) (by kernel_rfl) (by kernel_rfl) (by decide) (by kernel_rfl) (fun _ _ _ h => h) (Or.inl ⟨by rfl, ?hy8⟩) hS ?rest8
  case hy8 => intro wq hSw; (try dsimp only at hSw); go_simp; (try with_reducible rfl)
  case rest8 =>
  simp only [Act.put]
  refine wpAnyM_pure (v := ?v9) 9 rfl (by kernel_rfl) (by kernel_rfl) (by kernel_rfl) (by kernel_rfl) (by decide) (fun _ _ _ h => h) (Or.inl ⟨by rfl, ?hy9⟩) hS ?rest9
  case hy9 => intro wq hSw; (try dsimp only at hSw); go_simp; (try with_reducible rfl)
  case rest9 =>
  simp only [Act.put]
  refine wpAnyM_load (v := ?v10) 10 rfl (by kernel_rfl) (by kernel_rfl) (by kernel_rfl) (by kernel_rfl) (by decide) (by kernel_rfl) (fun _ _ _ h => h) (Or.inl ⟨by rfl, ?hy10⟩) hS ?rest10
  case hy10 => intro wq hSw; (try dsimp only at hSw); go_simp; (try with_reducible rfl)
  case rest10 =>
  simp only [Act.put]
  refine wpAnyM_pure (v := ?v11) 11 rfl (by kernel_rfl) (by kernel_rfl) (by kernel_rfl) (by kernel_rfl) (by decide) (fun _ _ _ h => h) (Or.inl ⟨by rfl, ?hy11⟩) hS ?rest11
  case hy11 => intro wq hSw; (try dsimp only at hSw); go_simp; (try with_reducible rfl)
  case rest11 =>
  simp only [Act.put]
  refine wpAnyM_pure (v := ?v12) 12 rfl (by kernel_rfl) (by kernel_rfl) (by kernel_rfl) (by kernel_rfl) (by decide) (fun _ _ _ h => h) (Or.inl ⟨by rfl, ?hy12⟩) hS ?rest12
  case hy12 => intro wq hSw; (try dsimp only at hSw); go_simp; (try with_reducible rfl)
  case rest12 =>
  simp only [Act.put]
  refine wpAnyM_pure (v := ?v13) 13 rfl (by kernel_rfl) (by kernel_rfl) (by kernel_rfl) (by kernel_rfl) (by decide) (fun _ _ _ h => h) (Or.inl ⟨by rfl, ?hy13⟩) hS ?rest13
  case hy13 => intro wq hSw; (try dsimp only at hSw); go_simp; (try with_reducible rfl)
  case rest13 =>
  simp only [Act.put]
  refine wpAnyM_pure (v := ?v14) 14 rfl (by kernel_rfl) (by kernel_rfl) (by kernel_rfl) (by kernel_rfl) (by decide) (fun _ _ _ h => h) (Or.inl ⟨by rfl, ?hy14⟩) hS ?rest14
  case hy14 => intro wq hSw; (try dsimp only at hSw); go_simp; (try with_reducible rfl)
  case rest14 =>
  simp only [Act.put]
  refine wpAnyM_load (v := ?v15) 15 rfl (by kernel_rfl) (by kernel_rfl) (by kernel_rfl) (by kernel_rfl) (by decide) (by kernel_rfl) (fun _ _ _ h => h) (Or.inl ⟨by rfl, ?hy15⟩) hS ?rest15
  case hy15 => intro wq hSw; (try dsimp only at hSw); go_simp; (try with_reducible rfl)
  case rest15 =>
  simp only [Act.put]
  refine wpAnyM_pure (v := ?v17) 17 rfl (by kernel_rfl) (by kernel_rfl) (by kernel_rfl) (by kernel_rfl) (by decide) (fun _ _ _ h => h) (Or.inl ⟨by rfl, ?hy17⟩) hS ?rest17
  case hy17 => intro wq hSw; (try dsimp only at hSw); go_simp; (try with_reducible rfl)
  case rest17 =>
  simp only [Act.put]
  refine wpAnyM_one 16 rfl (by kernel_rfl) (fun K hK => ?_)
  go_simp
  go_at_call 17
  refine (HF.out _ HAA.out).mono ?_
  rintro e w2 ⟨x, y, rfl, hx, hfr, hb2⟩
  have hB2 := HK1.out.call hb2
  obtain ⟨d0, d1, d2, d3, d4, d5, d6, d7⟩ := hB2.cells8
  refine hK.out _ _ ⟨d0, d1, d7⟩ ?_
  try simp only [Act.put, List.setIfInBounds_toArray, List.set_cons_zero, List.set_cons_succ]
  refine wpAnyM_tail rfl (by decide) (by decide) (by kernel_rfl) ?_
  simp only [List.drop_succ_cons, List.drop_zero]
  have f0 := hB2.frozen 0
  have f1 := hB2.frozen 1
  have f7 := hB2.frozen 7
  have HHX := Lib.hid hx
  have HFR := Lib.hid hfr
  have HB2 := Lib.hid hB2
  have HC2 := Lib.hid (HK2.out.call hb2)
  have HBB := Lib.hid hb2
  clear hx hfr hB2 hb2 hS hm1 hm2 hs1 hs2 hK
  go_upto_region 2 with fail
  have hk3 := ((HB2.out.set 0 (.string X)).set 1 (.string Y)).set 7 (.slice x (fewL ls).length y)
  simp only [List.setIfInBounds_toArray, List.set_cons_zero, List.set_cons_succ] at hk3
  have hk4 := ((HC2.out.setO ⟨w.heap.size, 0, none⟩ (.string X) (by simp)).setO ⟨w.heap.size, 1, none⟩ (.string Y) (by simp)).setO ⟨w.heap.size, 7, none⟩ (.slice x (fewL ls).length y) (by simp)
  have hb3 := (((HB0.out.trans (HBB.out.mono HB0.out.size)).setCell (p := ⟨w.heap.size, 0, none⟩) (Nat.le_refl _) (.string X)).setCell (p := ⟨w.heap.size, 1, none⟩) (Nat.le_refl _) (.string Y)).setCell (p := ⟨w.heap.size, 7, none⟩) (Nat.le_refl _) (.slice x (fewL ls).length y)
  have hx3 := ((HHX.out.setO (p := ⟨w.heap.size, 0, none⟩) (fun b o s e => by have := HFR.out b o s e; have := HK2.out.lt; show b ≠ w.heap.size; omega) (.string X)).setO (p := ⟨w.heap.size, 1, none⟩) (fun b o s e => by have := HFR.out b o s e; have := HK2.out.lt; show b ≠ w.heap.size; omega) (.string Y)).setO (p := ⟨w.heap.size, 7, none⟩) (fun b o s e => by have := HFR.out b o s e; have := HK2.out.lt; show b ≠ w.heap.size; omega) (.slice x (fewL ls).length y)
  have HX3 := Lib.hid hx3
  have HFR2 : Hid (∀ b o s, x = some ⟨b, o, s⟩ → w.heap.size + 1 < b) := Lib.hid (fun b o s e => by have := HFR.out b o s e; have := HK2.out.lt; omega)
  clear hx3 d0 d1 d2 d3 d4 d5 d6 d7 f0 f1 f7 HB2 HC2 HBB HHX HK1 HK2 HB0 HFR
  generalize ((w2.setCell ⟨w.heap.size, 0, none⟩ (.string X)).setCell ⟨w.heap.size, 1, none⟩ (.string Y)).setCell ⟨w.heap.size, 7, none⟩ (.slice x (fewL ls).length y) = w3 at *
  have HB3 := Lib.hid hb3
  have HK4 := Lib.hid hk4
  obtain ⟨d0, d1, d2, d3, d4, d5, d6, d7⟩ := hk3.cells8
  obtain ⟨e0, e1, e2, e3, e4, e5, e6, e7⟩ := hk4.cells8
  have f0 := hk4.frozen 0
  have f1 := hk4.frozen 1
  have f2 := hk4.frozen 2
  have f3 := hk4.frozen 3
  have f4 := hk4.frozen 4
  have f5 := hk4.frozen 5
  have f6 := hk4.frozen 6
  have f7 := hk4.frozen 7
  clear hk3 hk4 hb3
  go_wp2_with fail
  have HX4 := fun (v0 v1 v2 v3 v4 v5 v6 v7 : Value) => setO8 HX3.out (g := w.heap.size + 1) (fun b o s e => by have := HFR2.out b o s e; omega) v0 v1 v2 v3 v4 v5 v6 v7
  refine bodyPost_ret (v := .agg (rCells ⟨X, Y, k, l, f, p, t, fewL ls⟩ x y)) ?_ rfl ⟨x, y, rfl, ⟨HX4 _ _ _ _ _ _ _ _, HSZ.out⟩, fun b o s e => by have := HFR2.out b o s e; omega, below_set8 HB3.out (Nat.le_succ _) _ _ _ _ _ _ _ _⟩
  exact results_cell_R rfl _ _ (w.heap.size + 1) _ _ _ _ rfl (HK4.out.set8 _ _ _ _ _ _ _ _) Tryz.underlying24 rfl (by kernel_rfl)
end Go.Proofs.YtdlhmjdjoadioabGreatDoor
