/- RulesFire: for every two rules, every value and every row of labels: which rules may be, which values fire, which two are the same, and the labels of any one's alert, is as the document's own program says, or refused: the law's walk. -/
import Derived.Test.YtjigdmmlgddgpabRulG
import Derived.Test.YtjigdmmlgddgpabRulH
import Derived.Test.YtjigdmmlgddgpabRulI
import Derived.Test.YtjigdmmlgddgpabRulJ
import Derived.Test.YtjigdmmlgddgpabRulK
import Derived.Test.YtjigdmmlgddgpabRulW
import Derived.Test.YtjigdmmlgddgpabLabHW
namespace Go.Proofs.Ytjigdmmlgddgpab
open Go.RowKit

theorem Blk.set8O {w : World} {g k : Nat} {t : TypeId} {cs : Array Value} (h : Blk w k t cs) (hne : k ≠ g) (v0 v1 v2 v3 v4 v5 v6 v7 : Value) :
    Blk ((((((((w.setCell ⟨g, 0, none⟩ v0).setCell ⟨g, 1, none⟩ v1).setCell ⟨g, 2, none⟩ v2).setCell ⟨g, 3, none⟩ v3).setCell ⟨g, 4, none⟩ v4).setCell ⟨g, 5, none⟩ v5).setCell ⟨g, 6, none⟩ v6).setCell ⟨g, 7, none⟩ v7) k t cs :=
  (((((((h.setO _ v0 hne).setO _ v1 hne).setO _ v2 hne).setO _ v3 hne).setO _ v4 hne).setO _ v5 hne).setO _ v6 hne).setO _ v7 hne

set_option maxHeartbeats 12800000 in
set_option maxRecDepth 100000 in
theorem rulesFire_walk {w : World} (r : Rul) (a : Option Addr) (c : Nat) (h : RulAt w r a c) (r' : Rul) (a' : Option Addr) (c' : Nat) (h' : RulAt w r' a' c') (v : Int) (_hv : (Lit.int .i64 v).wf = true)
    (a3 : Option Addr) (len3 cap3 : Nat) (ls : List Lab) (w3 : ls.length = len3 ∧ HasLabs w a3 cap3 ls) :
    Calls Try.prog 3 #[.agg (rCells r a c), .agg (rCells r' a' c'), .int .i64 v, .slice a3 len3 cap3] w (BoolB true w) := by
  obtain ⟨rfl, h3⟩ := w3
  have hk1 := (Blk.new w 24 (rCells r a c)).alloc (.cells (rCells r' a' c') 24)
  have hk2 := Blk.new (w.alloc (.cells (rCells r a c) 24)) 24 (rCells r' a' c')
  have hb := ((Below.refl w.heap.size w).alloc (Nat.le_refl _) (.cells (rCells r a c) 24)).alloc (by simp) (.cells (rCells r' a' c') 24)
  have e1 : (w.alloc (.cells (rCells r a c) 24)).heap.size = w.heap.size + 1 := by simp
  rw [e1] at hk2
  have hCA := fun W (hW : Below ((w.alloc (.cells (rCells r a c) 24)).alloc (.cells (rCells r' a' c') 24)).heap.size ((w.alloc (.cells (rCells r a c) 24)).alloc (.cells (rCells r' a' c') 24)) W) => cutR_any r a c W ((h.call hb).call hW)
  have hCB := fun W (hW : Below ((w.alloc (.cells (rCells r a c) 24)).alloc (.cells (rCells r' a' c') 24)).heap.size ((w.alloc (.cells (rCells r a c) 24)).alloc (.cells (rCells r' a' c') 24)) W) => cutR_any r' a' c' W ((h'.call hb).call hW)
  have hFL := fun W (hW : Below ((w.alloc (.cells (rCells r a c) 24)).alloc (.cells (rCells r' a' c') 24)).heap.size ((w.alloc (.cells (rCells r a c) 24)).alloc (.cells (rCells r' a' c') 24)) W) => few_any a3 cap3 ls W ((h3.call hb).call hW)
  obtain ⟨X, hX⟩ : ∃ X, cutR r = X := ⟨_, rfl⟩
  obtain ⟨Y, hY⟩ : ∃ X, cutR r' = X := ⟨_, rfl⟩
  obtain ⟨L, hL⟩ : ∃ X, fewL ls = X := ⟨_, rfl⟩
  have hL8 : L.length ≤ 100 := by have := fewL_len ls; rw [hL] at this; omega
  unfold CutP at hCA hCB
  unfold LabsF at hFL
  rw [hX] at hCA
  rw [hY] at hCB
  rw [hL] at hFL
  clear h h' h3 e1 hX hY hL
  simp only [rCells] at *
  go_enter Try.func3, Try.ntmps3
  go_upto_region 1 with fail
  generalize (w.alloc (.cells #[.string r.name, .string r.metric, .int .i64 r.how, .int .i64 r.limit, .int .i64 r.fr, .int .i64 r.keep, .int .i64 r.tries, .slice a r.labels.length c] 24)).alloc (.cells #[.string r'.name, .string r'.metric, .int .i64 r'.how, .int .i64 r'.limit, .int .i64 r'.fr, .int .i64 r'.keep, .int .i64 r'.tries, .slice a' r'.labels.length c'] 24) = wx at *
  obtain ⟨g, hg⟩ : ∃ g, w.heap.size = g := ⟨_, rfl⟩
  have HG : Hid (w.heap.size = g) := Lib.hid hg
  rw [hg] at hk1 hk2 hb ⊢
  have HCA := Lib.hid hCA
  have HCB := Lib.hid hCB
  have HFL := Lib.hid hFL
  have HK1 := Lib.hid hk1.drew
  have HK2 := Lib.hid hk2.drew
  have HB := Lib.hid hb
  clear hCA hCB hFL hb
  have hS : (fun w' : World => (w'.cell? ⟨g, 0, none⟩ = some (.string r.name) ∧ w'.cell? ⟨g, 1, none⟩ = some (.string r.metric) ∧ w'.cell? ⟨g, 2, none⟩ = some (.int .i64 r.how) ∧ w'.cell? ⟨g, 3, none⟩ = some (.int .i64 r.limit) ∧ w'.cell? ⟨g, 4, none⟩ = some (.int .i64 r.fr) ∧ w'.cell? ⟨g, 5, none⟩ = some (.int .i64 r.keep) ∧ w'.cell? ⟨g, 6, none⟩ = some (.int .i64 r.tries) ∧ w'.cell? ⟨g, 7, none⟩ = some (.slice a r.labels.length c)) ∧
      (w'.cell? ⟨g + 1, 0, none⟩ = some (.string r'.name) ∧ w'.cell? ⟨g + 1, 1, none⟩ = some (.string r'.metric) ∧ w'.cell? ⟨g + 1, 2, none⟩ = some (.int .i64 r'.how) ∧ w'.cell? ⟨g + 1, 3, none⟩ = some (.int .i64 r'.limit) ∧ w'.cell? ⟨g + 1, 4, none⟩ = some (.int .i64 r'.fr) ∧ w'.cell? ⟨g + 1, 5, none⟩ = some (.int .i64 r'.keep) ∧ w'.cell? ⟨g + 1, 6, none⟩ = some (.int .i64 r'.tries) ∧ w'.cell? ⟨g + 1, 7, none⟩ = some (.slice a' r'.labels.length c'))) wx.drew := ⟨hk1.drew.cells8, hk2.drew.cells8⟩
  clear hk1 hk2
  refine wp_region_marked (fun w' : World => (w'.cell? ⟨g, 0, none⟩ = some (.string r.name) ∧ w'.cell? ⟨g, 1, none⟩ = some (.string r.metric) ∧ w'.cell? ⟨g, 2, none⟩ = some (.int .i64 r.how) ∧ w'.cell? ⟨g, 3, none⟩ = some (.int .i64 r.limit) ∧ w'.cell? ⟨g, 4, none⟩ = some (.int .i64 r.fr) ∧ w'.cell? ⟨g, 5, none⟩ = some (.int .i64 r.keep) ∧ w'.cell? ⟨g, 6, none⟩ = some (.int .i64 r.tries) ∧ w'.cell? ⟨g, 7, none⟩ = some (.slice a r.labels.length c)) ∧
      (w'.cell? ⟨g + 1, 0, none⟩ = some (.string r'.name) ∧ w'.cell? ⟨g + 1, 1, none⟩ = some (.string r'.metric) ∧ w'.cell? ⟨g + 1, 2, none⟩ = some (.int .i64 r'.how) ∧ w'.cell? ⟨g + 1, 3, none⟩ = some (.int .i64 r'.limit) ∧ w'.cell? ⟨g + 1, 4, none⟩ = some (.int .i64 r'.fr) ∧ w'.cell? ⟨g + 1, 5, none⟩ = some (.int .i64 r'.keep) ∧ w'.cell? ⟨g + 1, 6, none⟩ = some (.int .i64 r'.tries) ∧ w'.cell? ⟨g + 1, 7, none⟩ = some (.slice a' r'.labels.length c'))) 6 (by kernel_rfl) ?_
  refine wpAnyM_load (v := ?v0) 0 rfl (by kernel_rfl) (by kernel_rfl) (by kernel_rfl) (by kernel_rfl) (by decide) (by kernel_rfl) (fun _ _ _ h => h) (Or.inl ⟨by rfl, ?hy0⟩) hS ?rest0
  case hy0 => intro wq hSw; (try dsimp only at hSw); obtain ⟨⟨c0, c1, c2, c3, c4, c5, c6, c7⟩, _⟩ := hSw; go_simp; (try with_reducible rfl)
  case rest0 =>
  simp only [Act.put, List.setIfInBounds_toArray]
  refine wpAnyM_loadP [5, 3] (v := ?v2) 2 rfl (by kernel_rfl) (by kernel_rfl) (by kernel_rfl) (by kernel_rfl) (by decide) (by kernel_rfl) (fun _ _ _ h => h) (Or.inl ⟨by rfl, ?hy2⟩) hS ?rest2
  case hy2 => intro wq hSw; (try dsimp only at hSw); obtain ⟨_, ⟨c0, c1, c2, c3, c4, c5, c6, c7⟩⟩ := hSw; go_simp; (try with_reducible rfl)
  case rest2 =>
  simp only [Act.put]
  refine wpAnyM_pure (v := ?v4) 4 rfl (by kernel_rfl) (by kernel_rfl) (by kernel_rfl) (by kernel_rfl) (by decide) (fun _ _ _ h => h) (Or.inl ⟨by rfl, ?hy4⟩) hS ?rest4
  case hy4 => intro wq hSw; go_simp; (try with_reducible rfl)
  case rest4 =>
  simp only [Act.put]
  refine wpAnyM_one 1 rfl (by kernel_rfl) (fun K hK => ?_)
  go_simp
  go_at_call 6
  refine (HCA.out _ (Below.refl _ _).drew).mono ?_
  rintro e w2 ⟨x1, y1, rfl, hA1, hf1, hb2⟩
  have hq2 := bthen (Below.refl _ _).drew hb2
  refine hK.out _ _ ⟨(HK1.out.call hb2).cells8, (HK2.out.call hb2).cells8⟩ ?_
  clear hK
  try simp only [Act.put, List.setIfInBounds_toArray, List.set_cons_zero, List.set_cons_succ]
  refine wpAnyM_one 3 rfl (by kernel_rfl) (fun K hK => ?_)
  go_simp
  go_at_call 6
  refine (HCB.out _ hq2).mono ?_
  rintro e w3 ⟨x2, y2, rfl, hA2, hf2, hb3⟩
  have hq3 := bthen hq2 hb3
  refine hK.out _ _ ⟨((HK1.out.call hb2).call hb3).cells8, ((HK2.out.call hb2).call hb3).cells8⟩ ?_
  clear hK
  try simp only [Act.put, List.setIfInBounds_toArray, List.set_cons_zero, List.set_cons_succ]
  refine wpAnyM_one 5 rfl (by kernel_rfl) (fun K hK => ?_)
  go_simp
  go_at_call 7
  refine (HFL.out _ hq3).mono ?_
  rintro e w4 ⟨x3, y3, rfl, hL3, hf3, hb4⟩
  have hB1 := ((HK1.out.call hb2).call hb3).call hb4
  have hB2 := ((HK2.out.call hb2).call hb3).call hb4
  refine hK.out _ _ ⟨hB1.cells8, hB2.cells8⟩ ?_
  clear hK hS
  try simp only [Act.put, List.setIfInBounds_toArray, List.set_cons_zero, List.set_cons_succ]
  refine wpAnyM_tail rfl (by decide) (by decide) (by kernel_rfl) ?_
  simp only [List.drop_succ_cons, List.drop_zero]
  have hgx : g + 1 < wx.heap.size := HK2.out.lt
  have hg2 : wx.heap.size ≤ w2.heap.size := hq2.size
  have hg3 : wx.heap.size ≤ w3.heap.size := hq3.size
  have n1 : ∀ b o s, x1 = some ⟨b, o, s⟩ → g + 1 < b := fun b o s e => by have := hf1 b o s e; have : wx.heap.size ≤ b := this; omega
  have n2 : ∀ b o s, x2 = some ⟨b, o, s⟩ → g + 1 < b := fun b o s e => by have := hf2 b o s e; omega
  have n3 : ∀ b o s, x3 = some ⟨b, o, s⟩ → g + 1 < b := fun b o s e => by have := hf3 b o s e; omega
  have hA1 := (hA1.call hb3).call hb4
  have hA2 := hA2.call hb4
  have hq4 := HB.out.trans ((bthen hq3 hb4).mono (by omega))
  clear hf1 hf2 hf3 hb2 hb3 hb4 hq2 hq3 hgx hg2 hg3 HCA HCB HFL HK1 HK2 HB
  obtain ⟨c0, c1, c2, c3, c4, c5, c6, c7⟩ := hB1.cells8
  have f0 := hB1.frozen 0
  have f1 := hB1.frozen 1
  have f2 := hB1.frozen 2
  have f3 := hB1.frozen 3
  have f4 := hB1.frozen 4
  have f5 := hB1.frozen 5
  have f6 := hB1.frozen 6
  have f7 := hB1.frozen 7
  have hO := fun v0 v1 v2 v3 v4 v5 v6 v7 => hB2.set8O (g := g) (by omega) v0 v1 v2 v3 v4 v5 v6 v7
  have hOc := fun v0 v1 v2 v3 v4 v5 v6 v7 => (hO v0 v1 v2 v3 v4 v5 v6 v7).cells8
  have z0 := fun v0 v1 v2 v3 v4 v5 v6 v7 => (hO v0 v1 v2 v3 v4 v5 v6 v7).frozen 0
  have z1 := fun v0 v1 v2 v3 v4 v5 v6 v7 => (hO v0 v1 v2 v3 v4 v5 v6 v7).frozen 1
  have z2 := fun v0 v1 v2 v3 v4 v5 v6 v7 => (hO v0 v1 v2 v3 v4 v5 v6 v7).frozen 2
  have z3 := fun v0 v1 v2 v3 v4 v5 v6 v7 => (hO v0 v1 v2 v3 v4 v5 v6 v7).frozen 3
  have z4 := fun v0 v1 v2 v3 v4 v5 v6 v7 => (hO v0 v1 v2 v3 v4 v5 v6 v7).frozen 4
  have z5 := fun v0 v1 v2 v3 v4 v5 v6 v7 => (hO v0 v1 v2 v3 v4 v5 v6 v7).frozen 5
  have z6 := fun v0 v1 v2 v3 v4 v5 v6 v7 => (hO v0 v1 v2 v3 v4 v5 v6 v7).frozen 6
  have z7 := fun v0 v1 v2 v3 v4 v5 v6 v7 => (hO v0 v1 v2 v3 v4 v5 v6 v7).frozen 7
  have H1 := Lib.hid hB1
  have H2 := Lib.hid hO
  have HA1 := Lib.hid hA1
  have HA2 := Lib.hid hA2
  have HL3 := Lib.hid hL3
  have HQ4 := Lib.hid hq4
  have N1 := Lib.hid n1
  have N2 := Lib.hid n2
  have N3 := Lib.hid n3
  clear hB1 hB2 hO hA1 hA2 hL3 hq4 n1 n2 n3
  go_upto_region 2 with fail
  have hX1 := (H1.out.set8 (.string X.name) (.string X.metric) (.int .i64 X.how) (.int .i64 X.limit) (.int .i64 X.fr) (.int .i64 X.keep) (.int .i64 X.tries) (.slice x1 X.labels.length y1)).set8O (g := g + 1) (by omega) (.string Y.name) (.string Y.metric) (.int .i64 Y.how) (.int .i64 Y.limit) (.int .i64 Y.fr) (.int .i64 Y.keep) (.int .i64 Y.tries) (.slice x2 Y.labels.length y2)
  have hX2 := (H2.out (.string X.name) (.string X.metric) (.int .i64 X.how) (.int .i64 X.limit) (.int .i64 X.fr) (.int .i64 X.keep) (.int .i64 X.tries) (.slice x1 X.labels.length y1)).set8 (.string Y.name) (.string Y.metric) (.int .i64 Y.how) (.int .i64 Y.limit) (.int .i64 Y.fr) (.int .i64 Y.keep) (.int .i64 Y.tries) (.slice x2 Y.labels.length y2)
  have hA1 : RulAt ((((((((((((((((w4.setCell ⟨g, 0, none⟩ (.string X.name)).setCell ⟨g, 1, none⟩ (.string X.metric)).setCell ⟨g, 2, none⟩ (.int .i64 X.how)).setCell ⟨g, 3, none⟩ (.int .i64 X.limit)).setCell ⟨g, 4, none⟩ (.int .i64 X.fr)).setCell ⟨g, 5, none⟩ (.int .i64 X.keep)).setCell ⟨g, 6, none⟩ (.int .i64 X.tries)).setCell ⟨g, 7, none⟩ (.slice x1 X.labels.length y1)).setCell ⟨g + 1, 0, none⟩ (.string Y.name)).setCell ⟨g + 1, 1, none⟩ (.string Y.metric)).setCell ⟨g + 1, 2, none⟩ (.int .i64 Y.how)).setCell ⟨g + 1, 3, none⟩ (.int .i64 Y.limit)).setCell ⟨g + 1, 4, none⟩ (.int .i64 Y.fr)).setCell ⟨g + 1, 5, none⟩ (.int .i64 Y.keep)).setCell ⟨g + 1, 6, none⟩ (.int .i64 Y.tries)).setCell ⟨g + 1, 7, none⟩ (.slice x2 Y.labels.length y2)) X x1 y1 := ⟨setO8 (setO8 HA1.out.1 (fun b o s e => by have := N1.out b o s e; omega) (.string X.name) (.string X.metric) (.int .i64 X.how) (.int .i64 X.limit) (.int .i64 X.fr) (.int .i64 X.keep) (.int .i64 X.tries) (.slice x1 X.labels.length y1)) (fun b o s e => by have := N1.out b o s e; omega) (.string Y.name) (.string Y.metric) (.int .i64 Y.how) (.int .i64 Y.limit) (.int .i64 Y.fr) (.int .i64 Y.keep) (.int .i64 Y.tries) (.slice x2 Y.labels.length y2), HA1.out.2⟩
  have hA2 : RulAt ((((((((((((((((w4.setCell ⟨g, 0, none⟩ (.string X.name)).setCell ⟨g, 1, none⟩ (.string X.metric)).setCell ⟨g, 2, none⟩ (.int .i64 X.how)).setCell ⟨g, 3, none⟩ (.int .i64 X.limit)).setCell ⟨g, 4, none⟩ (.int .i64 X.fr)).setCell ⟨g, 5, none⟩ (.int .i64 X.keep)).setCell ⟨g, 6, none⟩ (.int .i64 X.tries)).setCell ⟨g, 7, none⟩ (.slice x1 X.labels.length y1)).setCell ⟨g + 1, 0, none⟩ (.string Y.name)).setCell ⟨g + 1, 1, none⟩ (.string Y.metric)).setCell ⟨g + 1, 2, none⟩ (.int .i64 Y.how)).setCell ⟨g + 1, 3, none⟩ (.int .i64 Y.limit)).setCell ⟨g + 1, 4, none⟩ (.int .i64 Y.fr)).setCell ⟨g + 1, 5, none⟩ (.int .i64 Y.keep)).setCell ⟨g + 1, 6, none⟩ (.int .i64 Y.tries)).setCell ⟨g + 1, 7, none⟩ (.slice x2 Y.labels.length y2)) Y x2 y2 := ⟨setO8 (setO8 HA2.out.1 (fun b o s e => by have := N2.out b o s e; omega) (.string X.name) (.string X.metric) (.int .i64 X.how) (.int .i64 X.limit) (.int .i64 X.fr) (.int .i64 X.keep) (.int .i64 X.tries) (.slice x1 X.labels.length y1)) (fun b o s e => by have := N2.out b o s e; omega) (.string Y.name) (.string Y.metric) (.int .i64 Y.how) (.int .i64 Y.limit) (.int .i64 Y.fr) (.int .i64 Y.keep) (.int .i64 Y.tries) (.slice x2 Y.labels.length y2), HA2.out.2⟩
  have hL3 : HasLabs ((((((((((((((((w4.setCell ⟨g, 0, none⟩ (.string X.name)).setCell ⟨g, 1, none⟩ (.string X.metric)).setCell ⟨g, 2, none⟩ (.int .i64 X.how)).setCell ⟨g, 3, none⟩ (.int .i64 X.limit)).setCell ⟨g, 4, none⟩ (.int .i64 X.fr)).setCell ⟨g, 5, none⟩ (.int .i64 X.keep)).setCell ⟨g, 6, none⟩ (.int .i64 X.tries)).setCell ⟨g, 7, none⟩ (.slice x1 X.labels.length y1)).setCell ⟨g + 1, 0, none⟩ (.string Y.name)).setCell ⟨g + 1, 1, none⟩ (.string Y.metric)).setCell ⟨g + 1, 2, none⟩ (.int .i64 Y.how)).setCell ⟨g + 1, 3, none⟩ (.int .i64 Y.limit)).setCell ⟨g + 1, 4, none⟩ (.int .i64 Y.fr)).setCell ⟨g + 1, 5, none⟩ (.int .i64 Y.keep)).setCell ⟨g + 1, 6, none⟩ (.int .i64 Y.tries)).setCell ⟨g + 1, 7, none⟩ (.slice x2 Y.labels.length y2)) x3 y3 L := setO8 (setO8 HL3.out (fun b o s e => by have := N3.out b o s e; omega) (.string X.name) (.string X.metric) (.int .i64 X.how) (.int .i64 X.limit) (.int .i64 X.fr) (.int .i64 X.keep) (.int .i64 X.tries) (.slice x1 X.labels.length y1)) (fun b o s e => by have := N3.out b o s e; omega) (.string Y.name) (.string Y.metric) (.int .i64 Y.how) (.int .i64 Y.limit) (.int .i64 Y.fr) (.int .i64 Y.keep) (.int .i64 Y.tries) (.slice x2 Y.labels.length y2)
  have hBB : Below w.heap.size w ((((((((((((((((w4.setCell ⟨g, 0, none⟩ (.string X.name)).setCell ⟨g, 1, none⟩ (.string X.metric)).setCell ⟨g, 2, none⟩ (.int .i64 X.how)).setCell ⟨g, 3, none⟩ (.int .i64 X.limit)).setCell ⟨g, 4, none⟩ (.int .i64 X.fr)).setCell ⟨g, 5, none⟩ (.int .i64 X.keep)).setCell ⟨g, 6, none⟩ (.int .i64 X.tries)).setCell ⟨g, 7, none⟩ (.slice x1 X.labels.length y1)).setCell ⟨g + 1, 0, none⟩ (.string Y.name)).setCell ⟨g + 1, 1, none⟩ (.string Y.metric)).setCell ⟨g + 1, 2, none⟩ (.int .i64 Y.how)).setCell ⟨g + 1, 3, none⟩ (.int .i64 Y.limit)).setCell ⟨g + 1, 4, none⟩ (.int .i64 Y.fr)).setCell ⟨g + 1, 5, none⟩ (.int .i64 Y.keep)).setCell ⟨g + 1, 6, none⟩ (.int .i64 Y.tries)).setCell ⟨g + 1, 7, none⟩ (.slice x2 Y.labels.length y2)) := below_set8 (below_set8 (by rw [HG.out]; exact HQ4.out) (Nat.le_of_eq HG.out) (.string X.name) (.string X.metric) (.int .i64 X.how) (.int .i64 X.limit) (.int .i64 X.fr) (.int .i64 X.keep) (.int .i64 X.tries) (.slice x1 X.labels.length y1)) (by rw [HG.out]; exact Nat.le_succ g) (.string Y.name) (.string Y.metric) (.int .i64 Y.how) (.int .i64 Y.limit) (.int .i64 Y.fr) (.int .i64 Y.keep) (.int .i64 Y.tries) (.slice x2 Y.labels.length y2)
  clear c0 c1 c2 c3 c4 c5 c6 c7 f0 f1 f2 f3 f4 f5 f6 f7 hOc z0 z1 z2 z3 z4 z5 z6 z7 H1 H2 HA1 HA2 HL3 HQ4 N1 N2 N3
  generalize ((((((((((((((((w4.setCell ⟨g, 0, none⟩ (.string X.name)).setCell ⟨g, 1, none⟩ (.string X.metric)).setCell ⟨g, 2, none⟩ (.int .i64 X.how)).setCell ⟨g, 3, none⟩ (.int .i64 X.limit)).setCell ⟨g, 4, none⟩ (.int .i64 X.fr)).setCell ⟨g, 5, none⟩ (.int .i64 X.keep)).setCell ⟨g, 6, none⟩ (.int .i64 X.tries)).setCell ⟨g, 7, none⟩ (.slice x1 X.labels.length y1)).setCell ⟨g + 1, 0, none⟩ (.string Y.name)).setCell ⟨g + 1, 1, none⟩ (.string Y.metric)).setCell ⟨g + 1, 2, none⟩ (.int .i64 Y.how)).setCell ⟨g + 1, 3, none⟩ (.int .i64 Y.limit)).setCell ⟨g + 1, 4, none⟩ (.int .i64 Y.fr)).setCell ⟨g + 1, 5, none⟩ (.int .i64 Y.keep)).setCell ⟨g + 1, 6, none⟩ (.int .i64 Y.tries)).setCell ⟨g + 1, 7, none⟩ (.slice x2 Y.labels.length y2)) = w5 at *
  obtain ⟨⟨M, n⟩, hP⟩ : ∃ R, alabsP X L = R := ⟨_, rfl⟩
  have hlab := labels_any X x1 x3 y1 y3 L _ hA1 hL3
  rw [hP] at hlab
  simp only [rCells] at hlab
  have HLAB := Lib.hid hlab
  clear hlab
  obtain ⟨c0, c1, c2, c3, c4, c5, c6, c7⟩ := hX1.cells8
  go_upto_region 3 with (go_at_call 8; refine HLAB.out.mono ?_; rintro e w6 ⟨p, q, rfl, hp, hb6⟩)
  clear c0 c1 c2 c3 c4 c5 c6 c7 HLAB
  have hA1 := hA1.call hb6
  have hA2 := hA2.call hb6
  have hL3 := hL3.call hb6
  have hcs1 := fun W (hW : Below w6.heap.size w6 W) => ((hX1.call hb6).call hW).cells8
  have hcs2 := fun W (hW : Below w6.heap.size w6 W) => ((hX2.call hb6).call hW).cells8
  have hr1 := fun W (hW : Below w6.heap.size w6 W) => rulRight_any X x1 y1 W (hA1.call hW)
  have hr2 := fun W (hW : Below w6.heap.size w6 W) => rrRight_any X x1 y1 W (hA1.call hW)
  have hlk1 := fun W (hW : Below w6.heap.size w6 W) => rulLike_any X Y x1 x2 y1 y2 W (hA1.call hW) (hA2.call hW)
  have hlk2 := fun W (hW : Below w6.heap.size w6 W) => rrLike_any X Y x1 x2 y1 y2 W (hA1.call hW) (hA2.call hW)
  have hlk3 := fun W (hW : Below w6.heap.size w6 W) => rulLike_any X X x1 x1 y1 y1 W (hA1.call hW) (hA1.call hW)
  rw [likeR_refl] at hlk3
  have hf1 := fun W (hW : Below w6.heap.size w6 W) => fires_any X x1 y1 v W (hA1.call hW)
  have HQ := Lib.hid (bthen hBB hb6)
  have HCS1 := Lib.hid hcs1
  have HCS2 := Lib.hid hcs2
  have HLK3 := Lib.hid hlk3
  have HPP := Lib.hid hp
  have HL3 := Lib.hid (fun W (hW : Below w6.heap.size w6 W) => hL3.call hW)
  have HA1 := Lib.hid (fun W (hW : Below w6.heap.size w6 W) => hA1.call hW)
  have HRL := Lib.hid (fun W (hW : Below w6.heap.size w6 W) => rRight_any x3 y3 L W (hL3.call hW))
  clear hX1 hX2 hBB hb6 hcs1 hcs2 hlk3 hp hA2 hL3
  simp only [rCells] at hr1 hr2 hlk1 hlk2 hf1
  generalize likeR X Y = LK at *
  cases hra : rulC X with
  | false =>
    have hf0 : firesC X v = false := by rw [firesC, hra]; rfl
    rw [alabs_bad (.inl hra)] at hP
    rw [hra] at hr1 hr2
    rw [hf0] at hf1
    have HF2 : Hid True := Lib.hid trivial
    have HR1 := Lib.hid hr1
    have HR2 := Lib.hid hr2
    have HF1 := Lib.hid hf1
    obtain ⟨rfl, rfl⟩ := Prod.mk.inj hP
    clear hr1 hr2 hf1 hf0 hra hP hA1
    cases LK
    all_goals
        have HLK1 := Lib.hid hlk1
        have HLK2 := Lib.hid hlk2
        clear hlk1 hlk2
        have a0 := fun x => (HCS1.out _ (later_below w6 x)).1
        have a1 := fun x => (HCS1.out _ (later_below w6 x)).2.1
        have a2 := fun x => (HCS1.out _ (later_below w6 x)).2.2.1
        have a3 := fun x => (HCS1.out _ (later_below w6 x)).2.2.2.1
        have a4 := fun x => (HCS1.out _ (later_below w6 x)).2.2.2.2.1
        have a5 := fun x => (HCS1.out _ (later_below w6 x)).2.2.2.2.2.1
        have a6 := fun x => (HCS1.out _ (later_below w6 x)).2.2.2.2.2.2.1
        have a7 := fun x => (HCS1.out _ (later_below w6 x)).2.2.2.2.2.2.2
        have b0 := fun x => (HCS2.out _ (later_below w6 x)).1
        have b1 := fun x => (HCS2.out _ (later_below w6 x)).2.1
        have b2 := fun x => (HCS2.out _ (later_below w6 x)).2.2.1
        have b3 := fun x => (HCS2.out _ (later_below w6 x)).2.2.2.1
        have b4 := fun x => (HCS2.out _ (later_below w6 x)).2.2.2.2.1
        have b5 := fun x => (HCS2.out _ (later_below w6 x)).2.2.2.2.2.1
        have b6 := fun x => (HCS2.out _ (later_below w6 x)).2.2.2.2.2.2.1
        have b7 := fun x => (HCS2.out _ (later_below w6 x)).2.2.2.2.2.2.2
        refine wp_region_later (by kernel_rfl) (by kernel_rfl) ?_
        repeat (go_big_quiet_step ((first
          | (go_at_call 9; with_reducible exact calls_later (HR1.out _ (later_below _ _)))
          | (go_at_call 10; with_reducible exact calls_later (HR2.out _ (later_below _ _)))
          | (go_at_call 11; with_reducible exact calls_later (HLK1.out _ (later_below _ _)))
          | (go_at_call 11; with_reducible exact calls_later (HLK3.out _ (later_below _ _)))
          | (go_at_call 12; with_reducible exact calls_later (HLK2.out _ (later_below _ _)))
          | (go_at_call 13; with_reducible exact calls_later (HF1.out _ (later_below _ _)))
          | (go_at_call 14; with_reducible exact calls_later (HF2.out _ (later_below _ _)))
          | (go_at_call 15; with_reducible exact calls_later (alive_any _)))))
        refine wpQuiet_nil ?_
        rintro _ ⟨x, rfl⟩
        have hb7 := later_below w6 x
        clear a0 a1 a2 a3 a4 a5 a6 a7 b0 b1 b2 b3 b4 b5 b6 b7
        generalize later w6 x = w7 at *
        obtain ⟨c0, c1, c2, c3, c4, c5, c6, c7⟩ := HCS1.out _ hb7

        go_wp2_with (first | (go_at_call 10; refine (HR2.out _ hb7).mono ?_; rintro e w8 ⟨rfl, hb8⟩))
        go_ret
        exact ⟨rfl, bthen HQ.out (bthen hb7 hb8)⟩
  | true =>
    have hf2 := fun W (hW : Below w6.heap.size w6 W) => rrFires_any X x1 y1 v W (hA1.call hW) hra
    rw [hra] at hr1 hr2
    simp only [rCells] at hf2
    have HR1 := Lib.hid hr1
    have HR2 := Lib.hid hr2
    have HP := Lib.hid hP
    have HRA := Lib.hid hra
    clear hr1 hr2 hP hra hA1
    generalize firesC X v = FV at *
    cases LK <;> cases FV
    all_goals
        have HLK1 := Lib.hid hlk1
        have HLK2 := Lib.hid hlk2
        have HF1 := Lib.hid hf1
        have HF2 := Lib.hid hf2
        clear hlk1 hlk2 hf1 hf2
        have a0 := fun x => (HCS1.out _ (later_below w6 x)).1
        have a1 := fun x => (HCS1.out _ (later_below w6 x)).2.1
        have a2 := fun x => (HCS1.out _ (later_below w6 x)).2.2.1
        have a3 := fun x => (HCS1.out _ (later_below w6 x)).2.2.2.1
        have a4 := fun x => (HCS1.out _ (later_below w6 x)).2.2.2.2.1
        have a5 := fun x => (HCS1.out _ (later_below w6 x)).2.2.2.2.2.1
        have a6 := fun x => (HCS1.out _ (later_below w6 x)).2.2.2.2.2.2.1
        have a7 := fun x => (HCS1.out _ (later_below w6 x)).2.2.2.2.2.2.2
        have b0 := fun x => (HCS2.out _ (later_below w6 x)).1
        have b1 := fun x => (HCS2.out _ (later_below w6 x)).2.1
        have b2 := fun x => (HCS2.out _ (later_below w6 x)).2.2.1
        have b3 := fun x => (HCS2.out _ (later_below w6 x)).2.2.2.1
        have b4 := fun x => (HCS2.out _ (later_below w6 x)).2.2.2.2.1
        have b5 := fun x => (HCS2.out _ (later_below w6 x)).2.2.2.2.2.1
        have b6 := fun x => (HCS2.out _ (later_below w6 x)).2.2.2.2.2.2.1
        have b7 := fun x => (HCS2.out _ (later_below w6 x)).2.2.2.2.2.2.2
        refine wp_region_later (by kernel_rfl) (by kernel_rfl) ?_
        repeat (go_big_quiet_step ((first
          | (go_at_call 9; with_reducible exact calls_later (HR1.out _ (later_below _ _)))
          | (go_at_call 10; with_reducible exact calls_later (HR2.out _ (later_below _ _)))
          | (go_at_call 11; with_reducible exact calls_later (HLK1.out _ (later_below _ _)))
          | (go_at_call 11; with_reducible exact calls_later (HLK3.out _ (later_below _ _)))
          | (go_at_call 12; with_reducible exact calls_later (HLK2.out _ (later_below _ _)))
          | (go_at_call 13; with_reducible exact calls_later (HF1.out _ (later_below _ _)))
          | (go_at_call 14; with_reducible exact calls_later (HF2.out _ (later_below _ _)))
          | (go_at_call 15; with_reducible exact calls_later (alive_any _)))))
        refine wpQuiet_nil ?_
        rintro _ ⟨x, rfl⟩
        have hb7 := later_below w6 x
        clear a0 a1 a2 a3 a4 a5 a6 a7 b0 b1 b2 b3 b4 b5 b6 b7
        generalize later w6 x = w7 at *
        obtain ⟨c0, c1, c2, c3, c4, c5, c6, c7⟩ := HCS1.out _ hb7

        cases hrl : rightC L with
        | false =>
          rw [hrl] at HRL
          have hP := HP.out
          rw [alabs_bad (.inr hrl)] at hP
          obtain ⟨rfl, rfl⟩ := Prod.mk.inj hP
          clear hrl hP
          go_wp2_with (first
            | (go_at_call 10; (with_reducible refine (HR2.out _ hb7).mono ?_); rintro e w8 ⟨rfl, hb8⟩)
            | (go_at_call 16; (with_reducible refine (HRL.out _ (bthen hb7 hb8)).mono ?_); rintro e w9 ⟨rfl, hb9⟩))
          go_ret
          exact ⟨rfl, bthen HQ.out (bthen hb7 (bthen hb8 hb9))⟩
        | true =>
          rw [hrl] at HRL
          obtain ⟨g1, _, g3, g4⟩ := rul_labs HRA.out
          have hl8 := (rightC_okAt hrl).1
          have hw1 := fun W (hW : Below w6.heap.size w6 W) => rWith_any x3 x1 y3 y1 L X.labels W (HL3.out W hW) (HA1.out W hW).1 hrl g1
          have hn1 : X.name.size ≤ maxLen := (HA1.out _ (Below.refl _ _)).2.1
          have HO := Lib.hid (fun W => one_lab W aName X.name (by show 5 ≤ maxLen; unfold maxLen; omega) hn1)
          have HW1 := Lib.hid hw1
          have HRL2 := Lib.hid hrl
          have HG := Lib.hid g3
          have HG4 := Lib.hid g4
          clear hw1 hrl g1 g3 g4 hn1
          go_upto_region 8 with (first
            | (go_at_call 10; (with_reducible refine (HR2.out _ hb7).mono ?_); rintro e w8 ⟨rfl, hb8⟩; have hq8 := bthen hb7 hb8; obtain ⟨d0, d1, d2, d3, d4, d5, d6, d7⟩ := HCS1.out _ hq8)
            | (go_at_call 16; (with_reducible refine (HRL.out _ hq8).mono ?_); rintro e w9 ⟨rfl, hb9⟩; have hq9 := bthen hq8 hb9; obtain ⟨e0, e1, e2, e3, e4, e5, e6, e7⟩ := HCS1.out _ hq9)
            | (go_at_call 17; (with_reducible refine (HW1.out _ hq9).mono ?_); rintro e wa ⟨F, p1, q1, rfl, hF, hperm1, hws1, hba⟩; have hqa := bthen hq9 hba; obtain ⟨i0, i1, i2, i3, i4, i5, i6, i7⟩ := HCS1.out _ hqa))
          have hfl : F.length ≤ 100 := by
            rw [hperm1.length_eq, List.length_append]
            have := restL_len L X.labels
            have := HG.out
            omega
          have hw2 := fun W (hW : Below wa.heap.size wa W) b o => fun (h2 : HasLabs W b o [(aName, X.name)]) => rWith_few p1 b q1 o F [(aName, X.name)] W (hF.call hW) h2 hfl (name_right HG4.out)
          have HW2 := Lib.hid hw2
          have HP1 := Lib.hid hperm1
          have HS1 := Lib.hid hws1
          have HQA := Lib.hid hqa
          clear hw2 hperm1 hws1 hfl hF d0 d1 d2 d3 d4 d5 d6 d7 e0 e1 e2 e3 e4 e5 e6 e7 c0 c1 c2 c3 c4 c5 c6 c7 hb7 hb8 hb9 hq8 hq9 hba hqa
          go_upto_region 9 with (go_at_call 17; refine (HW2.out _ ((Below.refl _ _).alloc (Nat.le_refl _) _) _ _ (HO.out _)).mono ?_; rintro e wb ⟨G, p2, q2, rfl, hG, hperm2, hws2, hbb⟩)
          have hqb := bthen ((Below.refl wa.heap.size wa).alloc (Nat.le_refl _) (.cells #[.string aName, .string X.name] 37)) hbb
          have hP := HP.out
          rw [alabs_want HRA.out HRL2.out HP1.out HS1.out hperm2 hws2] at hP
          have HB := Lib.hid (bthen HQ.out (bthen HQA.out hqb))
          have hp := (HPP.out.call HQA.out).call hqb
          clear i0 i1 i2 i3 i4 i5 i6 i7 hperm2 hws2 hqb hbb
          by_cases hF8 : F.length ≤ 8
          · have dF : decide (8 < (F.length : Int)) = false := decide_eq_false (by omega)
            rw [if_pos hF8] at hP
            by_cases hG8 : G.length ≤ 8
            · have dG : decide (8 < (G.length : Int)) = false := decide_eq_false (by omega)
              rw [if_pos hG8] at hP
              obtain ⟨rfl, rfl⟩ := Prod.mk.inj hP
              have hsm := rSame_any p p2 q q2 G G wb hp hG
              rw [decide_eq_true (rfl : G = G)] at hsm
              have HSM := Lib.hid hsm
              clear hP hF8 hG8 hsm
              go_wp2_with (go_at_call 18; refine HSM.out.mono ?_; rintro e wc ⟨rfl, hbc⟩)
              go_ret
              exact ⟨rfl, bthen HB.out hbc⟩
            · have dG : decide (8 < (G.length : Int)) = true := decide_eq_true (by omega)
              rw [if_neg hG8] at hP
              obtain ⟨rfl, rfl⟩ := Prod.mk.inj hP
              clear hP hF8 hG8
              go_wp2_with fail
              go_ret
              exact ⟨rfl, HB.out⟩
          · have dF : decide (8 < (F.length : Int)) = true := decide_eq_true (by omega)
            rw [if_neg hF8] at hP
            obtain ⟨rfl, rfl⟩ := Prod.mk.inj hP
            clear hP hF8
            go_wp2_with fail
            go_ret
            exact ⟨rfl, HB.out⟩
end Go.Proofs.Ytjigdmmlgddgpab
