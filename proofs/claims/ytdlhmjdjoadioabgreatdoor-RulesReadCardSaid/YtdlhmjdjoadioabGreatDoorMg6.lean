/- An element of an array by value. It speaks of no one program. -/
import Derived.WalkKit
import Derived.Test.YtdlhmjdjoadioabGreatDoorMg3
import Derived.Test.YtdlhmjdjoadioabGreatDoorZRulB
import Derived.Laws.EntriesVeiled
namespace Go.Proofs.YtdlhmjdjoadioabGreatDoor
open Go.RowKit
theorem run_indexV {P : Program} (w : World) (t e n : Nat) (cs : Array Value) (i : Int) (k : Nat) (v : Value) (ht : P.underlying t = some (.array n e)) (hi : i = (k : Int)) (hk : k < n) (hv : cs[k]? = some v) (hs : ∀ w, (sizeOf e).run P w = .ok 1 w) (ha : ∀ w, (isAgg e).run P w = .ok false w) :
    (Instr.index t (.agg cs) (.int .i64 i)).run P w = .ok v w := by
  subst hi
  have h1 : (0 : Int) ≤ (k : Int) ∧ (k : Int) < (n : Int) := by omega
  simp [Instr.index, run_underlying ht, asIntOf, hk, hv, hs, ha, go_sem]
theorem sizeInt (w : World) : (sizeOf 3).run Tryz.prog w = .ok 1 w := by kernel_rfl
theorem sizeStr (w : World) : (sizeOf 9).run Tryz.prog w = .ok 1 w := by kernel_rfl
theorem aggInt (w : World) : (isAgg 3).run Tryz.prog w = .ok false w := by kernel_rfl
theorem aggStr (w : World) : (isAgg 9).run Tryz.prog w = .ok false w := by kernel_rfl
end Go.Proofs.YtdlhmjdjoadioabGreatDoor
/- The contracts of rules.hows and of the comparisons it holds. -/
namespace Go.Proofs.YtdlhmjdjoadioabGreatDoor
open Go.RowKit

theorem hows1_any (v l : Int) (w : World) : Calls Tryz.prog 41 #[.int .i64 v, .int .i64 l] w (BoolS (decide (l < v)) w) := by
  go_enter Tryz.func41, Tryz.ntmps41
  go_wp2
  go_ret
  exact ⟨rfl, rfl⟩
theorem hows2_any (v l : Int) (w : World) : Calls Tryz.prog 42 #[.int .i64 v, .int .i64 l] w (BoolS (decide (v < l)) w) := by
  go_enter Tryz.func42, Tryz.ntmps42
  go_wp2
  go_ret
  exact ⟨rfl, rfl⟩
theorem hows3_any (v l : Int) (w : World) : Calls Tryz.prog 43 #[.int .i64 v, .int .i64 l] w (BoolS (decide (v = l)) w) := by
  go_enter Tryz.func43, Tryz.ntmps43
  go_wp2
  go_ret
  exact ⟨by rw [show decide (v = l) = (v == l) by rw [Bool.eq_iff_iff]; simp]; rfl, rfl⟩
theorem not2_any (v l : Int) (q : Nat) (w : World) (hx : w.cell? ⟨q, 0, none⟩ = some (.func (.func 42) #[] #[])) :
    Calls Tryz.prog 60 #[.int .i64 v, .int .i64 l, .pointer (some ⟨q, 0, none⟩)] w (BoolS (!decide (v < l)) w) := by
  go_enter Tryz.func60, Tryz.ntmps60
  go_wp2_with (go_at_call 42; refine (hows2_any v l _).mono ?_; rintro e w2 ⟨rfl, rfl⟩)
  go_ret
  exact ⟨rfl, rfl⟩
theorem not1_any (v l : Int) (q : Nat) (w : World) (hx : w.cell? ⟨q, 0, none⟩ = some (.func (.func 41) #[] #[])) :
    Calls Tryz.prog 60 #[.int .i64 v, .int .i64 l, .pointer (some ⟨q, 0, none⟩)] w (BoolS (!decide (l < v)) w) := by
  go_enter Tryz.func60, Tryz.ntmps60
  go_wp2_with (go_at_call 41; refine (hows1_any v l _).mono ?_; rintro e w2 ⟨rfl, rfl⟩)
  go_ret
  exact ⟨rfl, rfl⟩


def NotP (f : Value) (w : World) (e : Ending) (w' : World) : Prop := ∃ b, e = .returned (.func (.func 60) #[] #[.pointer (some ⟨b, 0, none⟩)]) ∧ w.heap.size ≤ b ∧ b < w'.heap.size ∧ w'.cell? ⟨b, 0, none⟩ = some f ∧ Below w.heap.size w w'
theorem not_any (f : FuncId) (w : World) : Calls Tryz.prog 44 #[.func (.func f) #[] #[]] w (NotP (.func (.func f) #[] #[]) w) := by
  go_enter Tryz.func44, Tryz.ntmps44
  go_wp2
  go_ret
  have hB := Blk.new w 45 #[.func (.func f) #[] #[]]
  exact ⟨_, rfl, Nat.le_refl _, hB.lt, hB.cell 0, (Below.refl _ _).alloc (Nat.le_refl _) _⟩

abbrev howsV (x y : Nat) : Array Value :=
  #[.string ⟨#[]⟩, .nilFunc, .string ⟨#[62]⟩, .func (.func 41) #[] #[], .string ⟨#[62, 61]⟩, .func (.func 60) #[] #[.pointer (some ⟨x, 0, none⟩)],
    .string ⟨#[60]⟩, .func (.func 42) #[] #[], .string ⟨#[60, 61]⟩, .func (.func 60) #[] #[.pointer (some ⟨y, 0, none⟩)], .string ⟨#[61, 61]⟩, .func (.func 43) #[] #[]]
def HowsP (w : World) (e : Ending) (w' : World) : Prop :=
  ∃ x y, e = .returned (.agg (howsV x y)) ∧ w'.cell? ⟨x, 0, none⟩ = some (.func (.func 42) #[] #[]) ∧ w'.cell? ⟨y, 0, none⟩ = some (.func (.func 41) #[] #[]) ∧ Below w.heap.size w w'
theorem Blk.cells12 {w : World} {g : Nat} {t : TypeId} {x0 x1 x2 x3 x4 x5 x6 x7 x8 x9 x10 x11 : Value} (h : Blk w g t #[x0, x1, x2, x3, x4, x5, x6, x7, x8, x9, x10, x11]) :
    w.cell? ⟨g, 0, none⟩ = some x0 ∧ w.cell? ⟨g, 1, none⟩ = some x1 ∧ w.cell? ⟨g, 2, none⟩ = some x2 ∧ w.cell? ⟨g, 3, none⟩ = some x3 ∧ w.cell? ⟨g, 4, none⟩ = some x4 ∧ w.cell? ⟨g, 5, none⟩ = some x5 ∧ w.cell? ⟨g, 6, none⟩ = some x6 ∧ w.cell? ⟨g, 7, none⟩ = some x7 ∧ w.cell? ⟨g, 8, none⟩ = some x8 ∧ w.cell? ⟨g, 9, none⟩ = some x9 ∧ w.cell? ⟨g, 10, none⟩ = some x10 ∧ w.cell? ⟨g, 11, none⟩ = some x11 :=
  ⟨h.cell 0, h.cell 1, h.cell 2, h.cell 3, h.cell 4, h.cell 5, h.cell 6, h.cell 7, h.cell 8, h.cell 9, h.cell 10, h.cell 11⟩
theorem results_cell_R {P : Program} {fn : Func} {p : Tmp} {ty : TypeId} (h : fn.results = #[.cell p ty]) (tmps : Array Value) (w : World) (g : Nat) (t : TypeId) (cs : Array Value) (fr : Nat × Nat) (d : TypeDesc)
    (hp : tmps.getD p undef = .pointer (some ⟨g, 0, none⟩)) (hg : w.heap[g]? = some (.cells cs t fr))
    (hu : P.underlying ty = some d) (hd : (match d with | .struct _ | .array _ _ => true | _ => false) = true) (hi : (P.info? ty).map (·.size) = some cs.size) :
    (results fn tmps).run P w = .ok (.agg cs) w := by
  have hp' : tmps[p]?.getD undef = .pointer (some ⟨g, 0, none⟩) := by simpa using hp
  simp [results, h, hp', asAddr, run_loadVar_row w g t ty cs fr d hg hu hd hi]
def set12 (w : World) (g : Nat) (va vb vc vd ve vf vg vh vi vj vk vl : Value) : World := (((((((((((w.setCell ⟨g, 0, none⟩ va).setCell ⟨g, 1, none⟩ vb).setCell ⟨g, 2, none⟩ vc).setCell ⟨g, 3, none⟩ vd).setCell ⟨g, 4, none⟩ ve).setCell ⟨g, 5, none⟩ vf).setCell ⟨g, 6, none⟩ vg).setCell ⟨g, 7, none⟩ vh).setCell ⟨g, 8, none⟩ vi).setCell ⟨g, 9, none⟩ vj).setCell ⟨g, 10, none⟩ vk).setCell ⟨g, 11, none⟩ vl
theorem Blk.set12 {w : World} {g : Nat} {t : TypeId} {x0 x1 x2 x3 x4 x5 x6 x7 x8 x9 x10 x11 : Value} (h : Blk w g t #[x0, x1, x2, x3, x4, x5, x6, x7, x8, x9, x10, x11]) (va vb vc vd ve vf vg vh vi vj vk vl : Value) : Blk (set12 w g va vb vc vd ve vf vg vh vi vj vk vl) g t #[va, vb, vc, vd, ve, vf, vg, vh, vi, vj, vk, vl] := by
  have q := (((((((((((h.set 0 va).set 1 vb).set 2 vc).set 3 vd).set 4 ve).set 5 vf).set 6 vg).set 7 vh).set 8 vi).set 9 vj).set 10 vk).set 11 vl
  simp only [List.setIfInBounds_toArray, List.set_cons_zero, List.set_cons_succ] at q
  exact q
theorem below_set12 {B g : Nat} {w w1 : World} (h : Below B w w1) (hg : B ≤ g) (va vb vc vd ve vf vg vh vi vj vk vl : Value) : Below B w (set12 w1 g va vb vc vd ve vf vg vh vi vj vk vl) :=
  (((((((((((h.setCell hg va).setCell hg vb).setCell hg vc).setCell hg vd).setCell hg ve).setCell hg vf).setCell hg vg).setCell hg vh).setCell hg vi).setCell hg vj).setCell hg vk).setCell hg vl
theorem cell_setO (w : World) (p : Addr) (v : Value) (x o : Nat) (hne : x ≠ p.block) : (w.setCell p v).cell? ⟨x, o, none⟩ = w.cell? ⟨x, o, none⟩ := by
  unfold World.cell?; rw [Below.heap_setCell _ _ _ _ hne]
theorem cell_set12 (w : World) (g x : Nat) (hne : x ≠ g) (va vb vc vd ve vf vg vh vi vj vk vl : Value) : (set12 w g va vb vc vd ve vf vg vh vi vj vk vl).cell? ⟨x, 0, none⟩ = w.cell? ⟨x, 0, none⟩ := by
  unfold Go.Proofs.YtdlhmjdjoadioabGreatDoor.set12
  simp only [cell_setO _ ⟨g, _, none⟩ _ x 0 hne]
set_option maxHeartbeats 1600000 in
set_option maxRecDepth 100000 in
theorem hows_any (w : World) : Calls Tryz.prog 19 #[] w (HowsP w) := by
  have hK := Blk.new w 48 #[.string ⟨#[]⟩, .nilFunc, .string ⟨#[]⟩, .nilFunc, .string ⟨#[]⟩, .nilFunc, .string ⟨#[]⟩, .nilFunc, .string ⟨#[]⟩, .nilFunc, .string ⟨#[]⟩, .nilFunc]
  have hb := (Below.refl w.heap.size w).alloc (Nat.le_refl _) (.cells #[.string ⟨#[]⟩, .nilFunc, .string ⟨#[]⟩, .nilFunc, .string ⟨#[]⟩, .nilFunc, .string ⟨#[]⟩, .nilFunc, .string ⟨#[]⟩, .nilFunc, .string ⟨#[]⟩, .nilFunc] 48)
  go_enter Tryz.func19, Tryz.ntmps19
  go_upto_region 1 with fail
  generalize w.alloc (.cells #[.string ⟨#[]⟩, .nilFunc, .string ⟨#[]⟩, .nilFunc, .string ⟨#[]⟩, .nilFunc, .string ⟨#[]⟩, .nilFunc, .string ⟨#[]⟩, .nilFunc, .string ⟨#[]⟩, .nilFunc] 48) = wx at *
  have hlt := hK.lt
  obtain ⟨g, hge⟩ : ∃ g, w.heap.size = g := ⟨_, rfl⟩
  have HGE : Hid (w.heap.size = g) := Lib.hid hge
  rw [hge] at hK hlt ⊢
  clear hge
  go_wp2_with (first
    | (go_at_call 44; refine (not_any 42 _).mono ?_; rintro e w2 ⟨x, rfl, hx0, hx1, hx2, hb2⟩)
    | (go_at_call 44; refine (not_any 41 _).mono ?_; rintro e w3 ⟨y, rfl, hy0, hy1, hy2, hb3⟩
       have hK3 := (hK.call hb2).call hb3; have f0 := hK3.frozen 0; have f1 := hK3.frozen 1; have f2 := hK3.frozen 2; have f3 := hK3.frozen 3; have f4 := hK3.frozen 4; have f5 := hK3.frozen 5; have f6 := hK3.frozen 6; have f7 := hK3.frozen 7; have f8 := hK3.frozen 8; have f9 := hK3.frozen 9; have fa := hK3.frozen 10; have fb := hK3.frozen 11
       obtain ⟨q0, q1, q2, q3, q4, q5, q6, q7, q8, q9, q10, q11⟩ := hK3.cells12))
  have h1 : wx.heap.size ≤ w2.heap.size := hb2.size
  have HK4 := hK3.set12 (.string ⟨#[]⟩) .nilFunc (.string ⟨#[62]⟩) (.func (.func 41) #[] #[]) (.string ⟨#[62, 61]⟩) (.func (.func 60) #[] #[.pointer (some ⟨x, 0, none⟩)])
    (.string ⟨#[60]⟩) (.func (.func 42) #[] #[]) (.string ⟨#[60, 61]⟩) (.func (.func 60) #[] #[.pointer (some ⟨y, 0, none⟩)]) (.string ⟨#[61, 61]⟩) (.func (.func 43) #[] #[])
  refine bodyPost_ret (v := .agg (howsV x y)) ?_ rfl ⟨x, y, rfl, (cell_set12 w3 g x (by omega) _ _ _ _ _ _ _ _ _ _ _ _).trans ((hb3.cell (p := ⟨x, 0, none⟩) hx1).trans hx2), (cell_set12 w3 g y (by omega) _ _ _ _ _ _ _ _ _ _ _ _).trans hy2, below_set12 ((hb.trans (hb2.mono (by have := HGE.out; omega))).trans (hb3.mono (by have := HGE.out; omega))) (Nat.le_of_eq HGE.out) _ _ _ _ _ _ _ _ _ _ _ _⟩
  exact results_cell_R rfl _ _ g _ _ _ _ rfl HK4 Tryz.underlying48 rfl (by kernel_rfl)
end Go.Proofs.YtdlhmjdjoadioabGreatDoor
