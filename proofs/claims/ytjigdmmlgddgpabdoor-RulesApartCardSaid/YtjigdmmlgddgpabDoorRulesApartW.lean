/- RulesApart: for every two rules: two rules that may be have the same words just if they are the same: the law's walk. -/
import Derived.Test.YtjigdmmlgddgpabDoorRulG
import Derived.Test.YtjigdmmlgddgpabDoorRulH
import Derived.Test.YtjigdmmlgddgpabDoorRulI
import Derived.Test.YtjigdmmlgddgpabDoorRulX
import Derived.Test.YtjigdmmlgddgpabDoorSameR
import Derived.Test.YtjigdmmlgddgpabDoorLater
namespace Go.Proofs.YtjigdmmlgddgpabDoor
open Go.RowKit

theorem Blk.set8O {w : World} {g k : Nat} {t : TypeId} {cs : Array Value} (h : Blk w k t cs) (hne : k ≠ g) (v0 v1 v2 v3 v4 v5 v6 v7 : Value) :
    Blk ((((((((w.setCell ⟨g, 0, none⟩ v0).setCell ⟨g, 1, none⟩ v1).setCell ⟨g, 2, none⟩ v2).setCell ⟨g, 3, none⟩ v3).setCell ⟨g, 4, none⟩ v4).setCell ⟨g, 5, none⟩ v5).setCell ⟨g, 6, none⟩ v6).setCell ⟨g, 7, none⟩ v7) k t cs :=
  (((((((h.setO _ v0 hne).setO _ v1 hne).setO _ v2 hne).setO _ v3 hne).setO _ v4 hne).setO _ v5 hne).setO _ v6 hne).setO _ v7 hne


theorem words_like {r s : Rul} (h1 : rulC r = true) (h2 : rulC s = true) : decide (wordsL r = wordsL s) = likeR r s := by
  rw [Bool.eq_iff_iff, likeR_iff, decide_eq_true_iff]
  exact ⟨words_inj h1 h2, fun e => by rw [e]⟩

set_option maxHeartbeats 12800000 in
set_option maxRecDepth 100000 in
theorem rulesApart_walk {w : World} (r : Rul) (a : Option Addr) (c : Nat) (h : RulAt w r a c) (r' : Rul) (a' : Option Addr) (c' : Nat) (h' : RulAt w r' a' c') (hT : TabW w) :
    Calls Tryd.prog 3 #[.agg (rCells r a c), .agg (rCells r' a' c')] w (BoolB true w) := by
  have hk1 := (Blk.new w 24 (rCells r a c)).alloc (.cells (rCells r' a' c') 24)
  have hk2 := Blk.new (w.alloc (.cells (rCells r a c) 24)) 24 (rCells r' a' c')
  have hb := ((Below.refl w.heap.size w).alloc (Nat.le_refl _) (.cells (rCells r a c) 24)).alloc (by simp) (.cells (rCells r' a' c') 24)
  have e1 : (w.alloc (.cells (rCells r a c) 24)).heap.size = w.heap.size + 1 := by simp
  rw [e1] at hk2
  have hCA := fun W (hW : Below ((w.alloc (.cells (rCells r a c) 24)).alloc (.cells (rCells r' a' c') 24)).heap.size ((w.alloc (.cells (rCells r a c) 24)).alloc (.cells (rCells r' a' c') 24)) W) => cutR_any r a c W ((h.call hb).call hW)
  have hCB := fun W (hW : Below ((w.alloc (.cells (rCells r a c) 24)).alloc (.cells (rCells r' a' c') 24)).heap.size ((w.alloc (.cells (rCells r a c) 24)).alloc (.cells (rCells r' a' c') 24)) W) => cutR_any r' a' c' W ((h'.call hb).call hW)
  obtain ⟨X, hX⟩ : ∃ X, cutR r = X := ⟨_, rfl⟩
  obtain ⟨Y, hY⟩ : ∃ X, cutR r' = X := ⟨_, rfl⟩
  unfold CutP at hCA hCB
  rw [hX] at hCA
  rw [hY] at hCB
  have HTW := Lib.hid (fun W (hW : Below w.heap.size w W) => hT.call hW)
  clear h h' e1 hX hY hT
  simp only [rCells] at *
  go_enter Tryd.func3, Tryd.ntmps3
  go_upto_region 1 with fail
  generalize (w.alloc (.cells #[.string r.name, .string r.metric, .int .i64 r.how, .int .i64 r.limit, .int .i64 r.fr, .int .i64 r.keep, .int .i64 r.tries, .slice a r.labels.length c] 24)).alloc (.cells #[.string r'.name, .string r'.metric, .int .i64 r'.how, .int .i64 r'.limit, .int .i64 r'.fr, .int .i64 r'.keep, .int .i64 r'.tries, .slice a' r'.labels.length c'] 24) = wx at *
  obtain ⟨g, hg⟩ : ∃ g, w.heap.size = g := ⟨_, rfl⟩
  have HG : Hid (w.heap.size = g) := Lib.hid hg
  rw [hg] at hk1 hk2 hb ⊢
  have HCA := Lib.hid hCA
  have HCB := Lib.hid hCB
  have HK1 := Lib.hid hk1.drew
  have HK2 := Lib.hid hk2.drew
  have HB := Lib.hid hb
  clear hCA hCB hb hg
  have hS : (fun w' : World => (w'.cell? ⟨g, 0, none⟩ = some (.string r.name) ∧ w'.cell? ⟨g, 1, none⟩ = some (.string r.metric) ∧ w'.cell? ⟨g, 2, none⟩ = some (.int .i64 r.how) ∧ w'.cell? ⟨g, 3, none⟩ = some (.int .i64 r.limit) ∧ w'.cell? ⟨g, 4, none⟩ = some (.int .i64 r.fr) ∧ w'.cell? ⟨g, 5, none⟩ = some (.int .i64 r.keep) ∧ w'.cell? ⟨g, 6, none⟩ = some (.int .i64 r.tries) ∧ w'.cell? ⟨g, 7, none⟩ = some (.slice a r.labels.length c)) ∧
      (w'.cell? ⟨g + 1, 0, none⟩ = some (.string r'.name) ∧ w'.cell? ⟨g + 1, 1, none⟩ = some (.string r'.metric) ∧ w'.cell? ⟨g + 1, 2, none⟩ = some (.int .i64 r'.how) ∧ w'.cell? ⟨g + 1, 3, none⟩ = some (.int .i64 r'.limit) ∧ w'.cell? ⟨g + 1, 4, none⟩ = some (.int .i64 r'.fr) ∧ w'.cell? ⟨g + 1, 5, none⟩ = some (.int .i64 r'.keep) ∧ w'.cell? ⟨g + 1, 6, none⟩ = some (.int .i64 r'.tries) ∧ w'.cell? ⟨g + 1, 7, none⟩ = some (.slice a' r'.labels.length c'))) wx.drew := ⟨hk1.drew.cells8, hk2.drew.cells8⟩
  clear hk1 hk2
  refine wp_region_marked (fun w' : World => (w'.cell? ⟨g, 0, none⟩ = some (.string r.name) ∧ w'.cell? ⟨g, 1, none⟩ = some (.string r.metric) ∧ w'.cell? ⟨g, 2, none⟩ = some (.int .i64 r.how) ∧ w'.cell? ⟨g, 3, none⟩ = some (.int .i64 r.limit) ∧ w'.cell? ⟨g, 4, none⟩ = some (.int .i64 r.fr) ∧ w'.cell? ⟨g, 5, none⟩ = some (.int .i64 r.keep) ∧ w'.cell? ⟨g, 6, none⟩ = some (.int .i64 r.tries) ∧ w'.cell? ⟨g, 7, none⟩ = some (.slice a r.labels.length c)) ∧
      (w'.cell? ⟨g + 1, 0, none⟩ = some (.string r'.name) ∧ w'.cell? ⟨g + 1, 1, none⟩ = some (.string r'.metric) ∧ w'.cell? ⟨g + 1, 2, none⟩ = some (.int .i64 r'.how) ∧ w'.cell? ⟨g + 1, 3, none⟩ = some (.int .i64 r'.limit) ∧ w'.cell? ⟨g + 1, 4, none⟩ = some (.int .i64 r'.fr) ∧ w'.cell? ⟨g + 1, 5, none⟩ = some (.int .i64 r'.keep) ∧ w'.cell? ⟨g + 1, 6, none⟩ = some (.int .i64 r'.tries) ∧ w'.cell? ⟨g + 1, 7, none⟩ = some (.slice a' r'.labels.length c'))) 4 (by kernel_rfl) ?_
  refine wpAnyM_load (v := ?v0) 0 rfl (by kernel_rfl) (by kernel_rfl) (by kernel_rfl) (by kernel_rfl) (by decide) (by kernel_rfl) (fun _ _ _ h => h) (Or.inl ⟨by rfl, ?hy0⟩) hS ?rest0
  case hy0 => intro wq hSw; (try dsimp only at hSw); obtain ⟨⟨c0, c1, c2, c3, c4, c5, c6, c7⟩, _⟩ := hSw; go_simp; (try with_reducible rfl)
  case rest0 =>
  simp only [Act.put, List.setIfInBounds_toArray]
  refine wpAnyM_loadP [3] (v := ?v2) 2 rfl (by kernel_rfl) (by kernel_rfl) (by kernel_rfl) (by kernel_rfl) (by decide) (by kernel_rfl) (fun _ _ _ h => h) (Or.inl ⟨by rfl, ?hy2⟩) hS ?rest2
  case hy2 => intro wq hSw; (try dsimp only at hSw); obtain ⟨_, ⟨c0, c1, c2, c3, c4, c5, c6, c7⟩⟩ := hSw; go_simp; (try with_reducible rfl)
  case rest2 =>
  simp only [Act.put]
  refine wpAnyM_one 1 rfl (by kernel_rfl) (fun K hK => ?_)
  go_simp
  go_at_call 4
  refine (HCA.out _ (Below.refl _ _).drew).mono ?_
  rintro e w2 ⟨x1, y1, rfl, hA1, hf1, hb2⟩
  have hq2 := bthen (Below.refl _ _).drew hb2
  refine hK.out _ _ ⟨(HK1.out.call hb2).cells8, (HK2.out.call hb2).cells8⟩ ?_
  clear hK
  try simp only [Act.put, List.setIfInBounds_toArray, List.set_cons_zero, List.set_cons_succ]
  refine wpAnyM_one 3 rfl (by kernel_rfl) (fun K hK => ?_)
  go_simp
  go_at_call 4
  refine (HCB.out _ hq2).mono ?_
  rintro e w3 ⟨x2, y2, rfl, hA2, hf2, hb3⟩
  have hq3 := bthen hq2 hb3
  have hB1 := (HK1.out.call hb2).call hb3
  have hB2 := (HK2.out.call hb2).call hb3
  refine hK.out _ _ ⟨hB1.cells8, hB2.cells8⟩ ?_
  clear hK hS
  try simp only [Act.put, List.setIfInBounds_toArray, List.set_cons_zero, List.set_cons_succ]
  refine wpAnyM_tail rfl (by decide) (by decide) (by kernel_rfl) ?_
  simp only [List.drop_succ_cons, List.drop_zero]
  have hgx : g + 1 < wx.heap.size := HK2.out.lt
  have hg2 : wx.heap.size ≤ w2.heap.size := hq2.size
  have n1 : ∀ b o s, x1 = some ⟨b, o, s⟩ → g + 1 < b := fun b o s e => by have := hf1 b o s e; have : wx.heap.size ≤ b := this; omega
  have n2 : ∀ b o s, x2 = some ⟨b, o, s⟩ → g + 1 < b := fun b o s e => by have := hf2 b o s e; omega
  have hA1 := hA1.call hb3
  have hq4 := HB.out.trans (hq3.mono (by omega))
  clear hf1 hf2 hb2 hb3 hq2 hq3 hgx hg2 HCA HCB HK1 HK2 HB
  obtain ⟨c0, c1, c2, c3, c4, c5, c6, c7⟩ := hB1.cells8
  have f0 := hB1.frozen 0
  have f1 := hB1.frozen 1
  have f2 := hB1.frozen 2
  have f3 := hB1.frozen 3
  have f4 := hB1.frozen 4
  have f5 := hB1.frozen 5
  have f6 := hB1.frozen 6
  have f7 := hB1.frozen 7
  have hO := fun v0 v1 v2 v3 v4 v5 v6 v7 => hB2.set8O (g := g) (by omega) v0 v1 v2 v3 v4 v5 v6 v7
  have hOc := fun v0 v1 v2 v3 v4 v5 v6 v7 => (hO v0 v1 v2 v3 v4 v5 v6 v7).cells8
  have z0 := fun v0 v1 v2 v3 v4 v5 v6 v7 => (hO v0 v1 v2 v3 v4 v5 v6 v7).frozen 0
  have z1 := fun v0 v1 v2 v3 v4 v5 v6 v7 => (hO v0 v1 v2 v3 v4 v5 v6 v7).frozen 1
  have z2 := fun v0 v1 v2 v3 v4 v5 v6 v7 => (hO v0 v1 v2 v3 v4 v5 v6 v7).frozen 2
  have z3 := fun v0 v1 v2 v3 v4 v5 v6 v7 => (hO v0 v1 v2 v3 v4 v5 v6 v7).frozen 3
  have z4 := fun v0 v1 v2 v3 v4 v5 v6 v7 => (hO v0 v1 v2 v3 v4 v5 v6 v7).frozen 4
  have z5 := fun v0 v1 v2 v3 v4 v5 v6 v7 => (hO v0 v1 v2 v3 v4 v5 v6 v7).frozen 5
  have z6 := fun v0 v1 v2 v3 v4 v5 v6 v7 => (hO v0 v1 v2 v3 v4 v5 v6 v7).frozen 6
  have z7 := fun v0 v1 v2 v3 v4 v5 v6 v7 => (hO v0 v1 v2 v3 v4 v5 v6 v7).frozen 7
  have H1 := Lib.hid hB1
  have H2 := Lib.hid hO
  have HA1 := Lib.hid hA1
  have HA2 := Lib.hid hA2
  have HQ4 := Lib.hid hq4
  have N1 := Lib.hid n1
  have N2 := Lib.hid n2
  clear hB1 hB2 hO hA1 hA2 hq4 n1 n2
  go_upto_region 2 with fail
  have hX1 := (H1.out.set8 (.string X.name) (.string X.metric) (.int .i64 X.how) (.int .i64 X.limit) (.int .i64 X.fr) (.int .i64 X.keep) (.int .i64 X.tries) (.slice x1 X.labels.length y1)).set8O (g := g + 1) (by omega) (.string Y.name) (.string Y.metric) (.int .i64 Y.how) (.int .i64 Y.limit) (.int .i64 Y.fr) (.int .i64 Y.keep) (.int .i64 Y.tries) (.slice x2 Y.labels.length y2)
  have hX2 := (H2.out (.string X.name) (.string X.metric) (.int .i64 X.how) (.int .i64 X.limit) (.int .i64 X.fr) (.int .i64 X.keep) (.int .i64 X.tries) (.slice x1 X.labels.length y1)).set8 (.string Y.name) (.string Y.metric) (.int .i64 Y.how) (.int .i64 Y.limit) (.int .i64 Y.fr) (.int .i64 Y.keep) (.int .i64 Y.tries) (.slice x2 Y.labels.length y2)
  have hA1 : RulAt ((((((((((((((((w3.setCell ⟨g, 0, none⟩ (.string X.name)).setCell ⟨g, 1, none⟩ (.string X.metric)).setCell ⟨g, 2, none⟩ (.int .i64 X.how)).setCell ⟨g, 3, none⟩ (.int .i64 X.limit)).setCell ⟨g, 4, none⟩ (.int .i64 X.fr)).setCell ⟨g, 5, none⟩ (.int .i64 X.keep)).setCell ⟨g, 6, none⟩ (.int .i64 X.tries)).setCell ⟨g, 7, none⟩ (.slice x1 X.labels.length y1)).setCell ⟨g + 1, 0, none⟩ (.string Y.name)).setCell ⟨g + 1, 1, none⟩ (.string Y.metric)).setCell ⟨g + 1, 2, none⟩ (.int .i64 Y.how)).setCell ⟨g + 1, 3, none⟩ (.int .i64 Y.limit)).setCell ⟨g + 1, 4, none⟩ (.int .i64 Y.fr)).setCell ⟨g + 1, 5, none⟩ (.int .i64 Y.keep)).setCell ⟨g + 1, 6, none⟩ (.int .i64 Y.tries)).setCell ⟨g + 1, 7, none⟩ (.slice x2 Y.labels.length y2)) X x1 y1 := ⟨setO8 (setO8 HA1.out.1 (fun b o s e => by have := N1.out b o s e; omega) (.string X.name) (.string X.metric) (.int .i64 X.how) (.int .i64 X.limit) (.int .i64 X.fr) (.int .i64 X.keep) (.int .i64 X.tries) (.slice x1 X.labels.length y1)) (fun b o s e => by have := N1.out b o s e; omega) (.string Y.name) (.string Y.metric) (.int .i64 Y.how) (.int .i64 Y.limit) (.int .i64 Y.fr) (.int .i64 Y.keep) (.int .i64 Y.tries) (.slice x2 Y.labels.length y2), HA1.out.2⟩
  have hA2 : RulAt ((((((((((((((((w3.setCell ⟨g, 0, none⟩ (.string X.name)).setCell ⟨g, 1, none⟩ (.string X.metric)).setCell ⟨g, 2, none⟩ (.int .i64 X.how)).setCell ⟨g, 3, none⟩ (.int .i64 X.limit)).setCell ⟨g, 4, none⟩ (.int .i64 X.fr)).setCell ⟨g, 5, none⟩ (.int .i64 X.keep)).setCell ⟨g, 6, none⟩ (.int .i64 X.tries)).setCell ⟨g, 7, none⟩ (.slice x1 X.labels.length y1)).setCell ⟨g + 1, 0, none⟩ (.string Y.name)).setCell ⟨g + 1, 1, none⟩ (.string Y.metric)).setCell ⟨g + 1, 2, none⟩ (.int .i64 Y.how)).setCell ⟨g + 1, 3, none⟩ (.int .i64 Y.limit)).setCell ⟨g + 1, 4, none⟩ (.int .i64 Y.fr)).setCell ⟨g + 1, 5, none⟩ (.int .i64 Y.keep)).setCell ⟨g + 1, 6, none⟩ (.int .i64 Y.tries)).setCell ⟨g + 1, 7, none⟩ (.slice x2 Y.labels.length y2)) Y x2 y2 := ⟨setO8 (setO8 HA2.out.1 (fun b o s e => by have := N2.out b o s e; omega) (.string X.name) (.string X.metric) (.int .i64 X.how) (.int .i64 X.limit) (.int .i64 X.fr) (.int .i64 X.keep) (.int .i64 X.tries) (.slice x1 X.labels.length y1)) (fun b o s e => by have := N2.out b o s e; omega) (.string Y.name) (.string Y.metric) (.int .i64 Y.how) (.int .i64 Y.limit) (.int .i64 Y.fr) (.int .i64 Y.keep) (.int .i64 Y.tries) (.slice x2 Y.labels.length y2), HA2.out.2⟩
  have hBB : Below w.heap.size w ((((((((((((((((w3.setCell ⟨g, 0, none⟩ (.string X.name)).setCell ⟨g, 1, none⟩ (.string X.metric)).setCell ⟨g, 2, none⟩ (.int .i64 X.how)).setCell ⟨g, 3, none⟩ (.int .i64 X.limit)).setCell ⟨g, 4, none⟩ (.int .i64 X.fr)).setCell ⟨g, 5, none⟩ (.int .i64 X.keep)).setCell ⟨g, 6, none⟩ (.int .i64 X.tries)).setCell ⟨g, 7, none⟩ (.slice x1 X.labels.length y1)).setCell ⟨g + 1, 0, none⟩ (.string Y.name)).setCell ⟨g + 1, 1, none⟩ (.string Y.metric)).setCell ⟨g + 1, 2, none⟩ (.int .i64 Y.how)).setCell ⟨g + 1, 3, none⟩ (.int .i64 Y.limit)).setCell ⟨g + 1, 4, none⟩ (.int .i64 Y.fr)).setCell ⟨g + 1, 5, none⟩ (.int .i64 Y.keep)).setCell ⟨g + 1, 6, none⟩ (.int .i64 Y.tries)).setCell ⟨g + 1, 7, none⟩ (.slice x2 Y.labels.length y2)) := below_set8 (below_set8 (by rw [HG.out]; exact HQ4.out) (Nat.le_of_eq HG.out) (.string X.name) (.string X.metric) (.int .i64 X.how) (.int .i64 X.limit) (.int .i64 X.fr) (.int .i64 X.keep) (.int .i64 X.tries) (.slice x1 X.labels.length y1)) (by rw [HG.out]; exact Nat.le_succ g) (.string Y.name) (.string Y.metric) (.int .i64 Y.how) (.int .i64 Y.limit) (.int .i64 Y.fr) (.int .i64 Y.keep) (.int .i64 Y.tries) (.slice x2 Y.labels.length y2)
  clear c0 c1 c2 c3 c4 c5 c6 c7 f0 f1 f2 f3 f4 f5 f6 f7 hOc z0 z1 z2 z3 z4 z5 z6 z7 H1 H2 HA1 HA2 HQ4 N1 N2
  generalize ((((((((((((((((w3.setCell ⟨g, 0, none⟩ (.string X.name)).setCell ⟨g, 1, none⟩ (.string X.metric)).setCell ⟨g, 2, none⟩ (.int .i64 X.how)).setCell ⟨g, 3, none⟩ (.int .i64 X.limit)).setCell ⟨g, 4, none⟩ (.int .i64 X.fr)).setCell ⟨g, 5, none⟩ (.int .i64 X.keep)).setCell ⟨g, 6, none⟩ (.int .i64 X.tries)).setCell ⟨g, 7, none⟩ (.slice x1 X.labels.length y1)).setCell ⟨g + 1, 0, none⟩ (.string Y.name)).setCell ⟨g + 1, 1, none⟩ (.string Y.metric)).setCell ⟨g + 1, 2, none⟩ (.int .i64 Y.how)).setCell ⟨g + 1, 3, none⟩ (.int .i64 Y.limit)).setCell ⟨g + 1, 4, none⟩ (.int .i64 Y.fr)).setCell ⟨g + 1, 5, none⟩ (.int .i64 Y.keep)).setCell ⟨g + 1, 6, none⟩ (.int .i64 Y.tries)).setCell ⟨g + 1, 7, none⟩ (.slice x2 Y.labels.length y2)) = w5 at *
  have hT5 := HTW.out _ hBB
  have hw1 := fun W (hW : Below w5.heap.size w5 W) => words_any X x1 y1 W (hA1.call hW) (hT5.call hW)
  have hw2 := fun W (hW : Below w5.heap.size w5 W) => words_any Y x2 y2 W (hA2.call hW) (hT5.call hW)
  have hlk := fun W (hW : Below w5.heap.size w5 W) => rulLike_any X Y x1 x2 y1 y2 W (hA1.call hW) (hA2.call hW)
  have HCS1 := Lib.hid (fun W (hW : Below w5.heap.size w5 W) => (hX1.call hW).cells8)
  have HCS2 := Lib.hid (fun W (hW : Below w5.heap.size w5 W) => (hX2.call hW).cells8)
  have HQ := Lib.hid hBB
  obtain ⟨c0, c1, c2, c3, c4, c5, c6, c7⟩ := hX1.cells8
  clear hX1 hX2 hBB hT5 hA1 hA2 HTW
  cases hra : rulC X with
  | false =>
    have e1 : wordsP X = ([], 1) := by rw [wordsP, if_neg (by rw [hra]; simp)]
    rw [e1] at hw1
    obtain ⟨⟨M, n⟩, hP⟩ : ∃ R, wordsP Y = R := ⟨_, rfl⟩
    rw [hP] at hw2
    simp only [rCells] at hw1 hw2
    have HW1 := Lib.hid hw1
    have HW2 := Lib.hid hw2
    clear hw1 hw2 e1 hP hra hlk
    go_wp2_with (first
      | (go_at_call 5; (with_reducible refine (HW2.out _ hb6).mono ?_); rintro e w7 ⟨p2, q2, rfl, hp2, hb7⟩)
      | (go_at_call 5; (with_reducible refine (HW1.out _ (Below.refl _ _)).mono ?_); rintro e w6 ⟨p1, q1, rfl, hp1, hb6⟩; obtain ⟨d0, d1, d2, d3, d4, d5, d6, d7⟩ := HCS2.out _ hb6)
      | (go_at_call 6; refine (alive_any _).mono ?_; rintro e w8 ⟨rfl, hb8⟩))
    go_ret
    exact ⟨rfl, bthen HQ.out (bthen hb6 (bthen hb7 hb8))⟩
  | true =>
    have e1 : wordsP X = (wordsL X, 0) := by rw [wordsP, if_pos hra]
    rw [e1] at hw1
    cases hrb : rulC Y with
    | false =>
      have e2 : wordsP Y = ([], 1) := by rw [wordsP, if_neg (by rw [hrb]; simp)]
      rw [e2] at hw2
      simp only [rCells] at hw1 hw2
      have HW1 := Lib.hid hw1
      have HW2 := Lib.hid hw2
      clear hw1 hw2 e1 e2 hra hrb hlk
      go_wp2_with (first
        | (go_at_call 5; (with_reducible refine (HW2.out _ hb6).mono ?_); rintro e w7 ⟨p2, q2, rfl, hp2, hb7⟩)
        | (go_at_call 5; (with_reducible refine (HW1.out _ (Below.refl _ _)).mono ?_); rintro e w6 ⟨p1, q1, rfl, hp1, hb6⟩; obtain ⟨d0, d1, d2, d3, d4, d5, d6, d7⟩ := HCS2.out _ hb6)
        | (go_at_call 6; refine (alive_any _).mono ?_; rintro e w8 ⟨rfl, hb8⟩))
      go_ret
      exact ⟨rfl, bthen HQ.out (bthen hb6 (bthen hb7 hb8))⟩
    | true =>
      have e2 : wordsP Y = (wordsL Y, 0) := by rw [wordsP, if_pos hrb]
      rw [e2] at hw2
      have hwl := words_like hra hrb
      have hl8 : (wordsL X).length = 8 := rfl
      simp only [rCells] at hw1 hw2 hlk
      have HW1 := Lib.hid hw1
      have HW2 := Lib.hid hw2
      clear hw1 hw2 e1 e2 hra hrb
      go_upto_region 6 with (first
        | (go_at_call 5; (with_reducible refine (HW2.out _ hb6).mono ?_); rintro e w7 ⟨p2, q2, rfl, hp2, hb7⟩)
        | (go_at_call 5; (with_reducible refine (HW1.out _ (Below.refl _ _)).mono ?_); rintro e w6 ⟨p1, q1, rfl, hp1, hb6⟩; obtain ⟨d0, d1, d2, d3, d4, d5, d6, d7⟩ := HCS2.out _ hb6))
      have hq7 := bthen hb6 hb7
      have hsm : ∀ W, Below w7.heap.size w7 W → Calls Tryd.prog 7 #[.slice p1 (wordsL X).length q1, .slice p2 (wordsL Y).length q2] W (BoolB (decide (wordsL X = wordsL Y)) W) := fun W (hW : Below w7.heap.size w7 W) => same_any p1 p2 q1 q2 (wordsL X) (wordsL Y) W ((hp1.call hb7).call hW) (hp2.call hW)
      have hlk7 := fun W (hW : Below w7.heap.size w7 W) => hlk W (bthen hq7 hW)
      rw [hwl] at hsm
      have HCS17 := Lib.hid (fun W (hW : Below w7.heap.size w7 W) => HCS1.out W (bthen hq7 hW))
      have HCS27 := Lib.hid (fun W (hW : Below w7.heap.size w7 W) => HCS2.out W (bthen hq7 hW))
      have HQ7 := Lib.hid (bthen HQ.out hq7)
      clear hlk hwl hp1 hp2 hb6 hb7 hq7 c0 c1 c2 c3 c4 c5 c6 c7 d0 d1 d2 d3 d4 d5 d6 d7
      have dl : (((wordsL X).length : Int) == 8) = true := by rw [hl8]; rfl
      clear hl8
      generalize likeR X Y = LK at *
      cases LK
      all_goals
        have HSM := Lib.hid hsm
        have HLK := Lib.hid hlk7
        clear hsm hlk7
        have a0 := fun x => (HCS17.out _ (later_below w7 x)).1
        have a1 := fun x => (HCS17.out _ (later_below w7 x)).2.1
        have a2 := fun x => (HCS17.out _ (later_below w7 x)).2.2.1
        have a3 := fun x => (HCS17.out _ (later_below w7 x)).2.2.2.1
        have a4 := fun x => (HCS17.out _ (later_below w7 x)).2.2.2.2.1
        have a5 := fun x => (HCS17.out _ (later_below w7 x)).2.2.2.2.2.1
        have a6 := fun x => (HCS17.out _ (later_below w7 x)).2.2.2.2.2.2.1
        have a7 := fun x => (HCS17.out _ (later_below w7 x)).2.2.2.2.2.2.2
        have b0 := fun x => (HCS27.out _ (later_below w7 x)).1
        have b1 := fun x => (HCS27.out _ (later_below w7 x)).2.1
        have b2 := fun x => (HCS27.out _ (later_below w7 x)).2.2.1
        have b3 := fun x => (HCS27.out _ (later_below w7 x)).2.2.2.1
        have b4 := fun x => (HCS27.out _ (later_below w7 x)).2.2.2.2.1
        have b5 := fun x => (HCS27.out _ (later_below w7 x)).2.2.2.2.2.1
        have b6 := fun x => (HCS27.out _ (later_below w7 x)).2.2.2.2.2.2.1
        have b7 := fun x => (HCS27.out _ (later_below w7 x)).2.2.2.2.2.2.2
        refine wp_region_later (by kernel_rfl) (by kernel_rfl) ?_
        repeat (go_big_quiet_step ((first
          | (go_at_call 6; with_reducible exact calls_later (alive_any _))
          | (go_at_call 7; exact calls_later (HSM.out _ (later_below _ _)))
          | (go_at_call 8; with_reducible exact calls_later (HLK.out _ (later_below _ _))))))
        refine wpQuiet_nil ?_
        rintro _ ⟨x, rfl⟩
        have hb8 := later_below w7 x
        clear a0 a1 a2 a3 a4 a5 a6 a7 b0 b1 b2 b3 b4 b5 b6 b7
        generalize later w7 x = w8 at *
        go_wp2_with fail
        go_ret
        exact ⟨rfl, bthen HQ7.out hb8⟩
end Go.Proofs.YtjigdmmlgddgpabDoor
