/- Worlds that differ by stores of whole structs: what stays. -/
import Derived.Test.YtolbhhokpelchaaDoorOtlG
namespace Go.Proofs.YtolbhhokpelchaaDoor
open Go.RowKit

theorem below_al {w W : World} {o : Obj} (h : Below w.heap.size w W) : Below w.heap.size w (W.alloc o) := h.alloc h.size _
theorem nbN (w : World) (o : Obj) (cs : Array Value) (t : TypeId) : Blk ((w.alloc o).alloc (.cells cs t)) (w.heap.size + 1) t cs := by
  have := Blk.new (w.alloc o) t cs
  rwa [show (w.alloc o).heap.size = w.heap.size + 1 by simp] at this
theorem frp_un {pb : Nat} {w W : World} (h : FrP pb w.drew W) : FrP pb w W := ⟨h.os, h.tape, h.output, h.size, h.blk⟩
theorem frp_al {pb : Nat} {w W : World} {o : Obj} (h : FrP pb w W) : FrP pb w (W.alloc o) := h.alloc o
theorem frp_drew {pb : Nat} {w W : World} (h : FrP pb w W) : FrP pb w W.drew := ⟨h.os, h.tape, h.output, h.size, h.blk⟩
theorem frp_set0 {pb i : Nat} {w W : World} {u : Value} (h : FrP pb w W) : FrP pb w (W.setCell ⟨w.heap.size, i, none⟩ u) := h.setNew (Nat.le_refl _) i u
theorem frp_set1 {pb i : Nat} {w W : World} {u : Value} (h : FrP pb w W) : FrP pb w (W.setCell ⟨w.heap.size + 1, i, none⟩ u) := h.setNew (Nat.le_succ _) i u
theorem frp_setW {pb i : Nat} {w w3 W : World} {u : Value} (h3 : FrP pb w w3) (h : FrP pb w W) : FrP pb w (W.setCell ⟨w3.heap.size, i, none⟩ u) := h.setNew h3.size i u
theorem frp_setW1 {pb i : Nat} {w w3 W : World} {u : Value} (h3 : FrP pb w w3) (h : FrP pb w W) : FrP pb w (W.setCell ⟨w3.heap.size + 1, i, none⟩ u) := h.setNew (Nat.le_succ_of_le h3.size) i u
/-- what stands behind the next line's reading: the node and the item in blocks of their own, the place behind -/
def P6 (wb : World) (pb : Nat) (x b : It) (m : Nat) (l2 : List Bs) (r : Bs) (g8 g9 : Nat) (wx : World) : Prop :=
  g8 ≠ g9 ∧ wb.heap.size ≤ g8 ∧ wb.heap.size ≤ g9 ∧ Blk wx g8 25 #[.int .i64 x.node.kind, .string x.node.word, .slice none 0 0, .slice none 0 0] ∧ Blk wx g9 80 (iCells b) ∧ (∃ t3 : ByteArray, PlB wx pb t3 m ∧ t3.size ≤ 100000 ∧ linesB t3.data.toList = (l2, r)) ∧ FrP pb wb wx
theorem plb_al {w : World} {pb m : Nat} {l2 : List Bs} {r : Bs} (h : ∃ t3 : ByteArray, PlB w pb t3 m ∧ t3.size ≤ 100000 ∧ linesB t3.data.toList = (l2, r)) (o : Obj) : ∃ t3 : ByteArray, PlB (w.alloc o) pb t3 m ∧ t3.size ≤ 100000 ∧ linesB t3.data.toList = (l2, r) := by
  obtain ⟨t, h1, h2⟩ := h
  exact ⟨t, h1.alloc o, h2⟩
theorem fin_a8 {wb w3 : World} {pb : Nat} {x b : It} {m : Nat} {l2 : List Bs} {r : Bs} (hf : FrP pb wb w3) (hp : ∃ t3 : ByteArray, PlB w3 pb t3 m ∧ t3.size ≤ 100000 ∧ linesB t3.data.toList = (l2, r)) :
    P6 wb pb x b m l2 r w3.heap.size (w3.heap.size + 1) ((w3.alloc (.cells #[.int .i64 x.node.kind, .string x.node.word, .slice none 0 0, .slice none 0 0] 25)).alloc (.cells (iCells b) 80)) :=
  ⟨Ne.symm (Nat.succ_ne_self _), hf.size, Nat.le_succ_of_le hf.size, (Blk.new w3 _ _).alloc _, nbN _ _ _ _, plb_al (plb_al hp _) _, (hf.alloc _).alloc _⟩
theorem fin_a9 {wb w3 : World} {pb : Nat} {x b : It} {m : Nat} {l2 : List Bs} {r : Bs} (hf : FrP pb wb w3) (hp : ∃ t3 : ByteArray, PlB w3 pb t3 m ∧ t3.size ≤ 100000 ∧ linesB t3.data.toList = (l2, r)) :
    P6 wb pb x b m l2 r (w3.heap.size + 1) w3.heap.size ((w3.alloc (.cells (iCells b) 80)).alloc (.cells #[.int .i64 x.node.kind, .string x.node.word, .slice none 0 0, .slice none 0 0] 25)) :=
  ⟨Nat.succ_ne_self _, Nat.le_succ_of_le hf.size, hf.size, nbN _ _ _ _, (Blk.new w3 _ _).alloc _, plb_al (plb_al hp _) _, (hf.alloc _).alloc _⟩
theorem fin_s7 {wb W : World} {pb g8 g9 : Nat} {x b : It} {m : Nat} {l2 : List Bs} {r : Bs} {y0 y1 y2 y3 y4 y5 y6 : Value} (hf : FrP pb wb W) (hp : ∃ t3 : ByteArray, PlB W pb t3 m ∧ t3.size ≤ 100000 ∧ linesB t3.data.toList = (l2, r))
    (h8 : Blk W g8 25 #[.int .i64 x.node.kind, .string x.node.word, .slice none 0 0, .slice none 0 0]) (h9 : Blk W g9 80 #[y0, y1, y2, y3, y4, y5, y6]) (hne : g8 ≠ g9) (hg8 : wb.heap.size ≤ g8) (hg9 : wb.heap.size ≤ g9) (hp9 : g9 ≠ pb) :
    P6 wb pb x b m l2 r g8 g9 (((((((W.setCell ⟨g9, 0, none⟩ (.int .i64 b.deep)).setCell ⟨g9, 1, none⟩ (.int .i64 b.kind)).setCell ⟨g9, 2, none⟩ (.string b.name)).setCell ⟨g9, 3, none⟩ (.int .i64 b.node.kind)).setCell ⟨g9, 4, none⟩ (.string b.node.word)).setCell ⟨g9, 5, none⟩ (.slice none 0 0)).setCell ⟨g9, 6, none⟩ (.slice none 0 0)) := by
  obtain ⟨t, h1, h2⟩ := hp
  exact ⟨hne, hg8, hg9, setO7 h8 hne _ _ _ _ _ _ _, h9.set7 _ _ _ _ _ _ _, ⟨t, setO7 h1 (Ne.symm hp9) _ _ _ _ _ _ _, h2⟩, fr_set7 hf hg9 _ _ _ _ _ _ _⟩
theorem fin_s47 {wb W : World} {pb g8 g9 : Nat} {x b : It} {m : Nat} {l2 : List Bs} {r : Bs} {z0 z1 z2 z3 y0 y1 y2 y3 y4 y5 y6 : Value} (hf : FrP pb wb W) (hp : ∃ t3 : ByteArray, PlB W pb t3 m ∧ t3.size ≤ 100000 ∧ linesB t3.data.toList = (l2, r))
    (h8 : Blk W g8 25 #[z0, z1, z2, z3]) (h9 : Blk W g9 80 #[y0, y1, y2, y3, y4, y5, y6]) (hne : g8 ≠ g9) (hg8 : wb.heap.size ≤ g8) (hg9 : wb.heap.size ≤ g9) (hp8 : g8 ≠ pb) (hp9 : g9 ≠ pb) :
    P6 wb pb x b m l2 r g8 g9 (((((((((((W.setCell ⟨g8, 0, none⟩ (.int .i64 x.node.kind)).setCell ⟨g8, 1, none⟩ (.string x.node.word)).setCell ⟨g8, 2, none⟩ (.slice none 0 0)).setCell ⟨g8, 3, none⟩ (.slice none 0 0)).setCell ⟨g9, 0, none⟩ (.int .i64 b.deep)).setCell ⟨g9, 1, none⟩ (.int .i64 b.kind)).setCell ⟨g9, 2, none⟩ (.string b.name)).setCell ⟨g9, 3, none⟩ (.int .i64 b.node.kind)).setCell ⟨g9, 4, none⟩ (.string b.node.word)).setCell ⟨g9, 5, none⟩ (.slice none 0 0)).setCell ⟨g9, 6, none⟩ (.slice none 0 0)) := by
  obtain ⟨t, h1, h2⟩ := hp
  have a8 := h8.set4N (.int .i64 x.node.kind) (.string x.node.word) (.slice none 0 0) (.slice none 0 0)
  have a9 := (((h9.setO ⟨g8, 0, none⟩ (.int .i64 x.node.kind) (Ne.symm hne)).setO ⟨g8, 1, none⟩ (.string x.node.word) (Ne.symm hne)).setO ⟨g8, 2, none⟩ (.slice none 0 0) (Ne.symm hne)).setO ⟨g8, 3, none⟩ (.slice none 0 0) (Ne.symm hne)
  have ap := (((h1.setO ⟨g8, 0, none⟩ (.int .i64 x.node.kind) (Ne.symm hp8)).setO ⟨g8, 1, none⟩ (.string x.node.word) (Ne.symm hp8)).setO ⟨g8, 2, none⟩ (.slice none 0 0) (Ne.symm hp8)).setO ⟨g8, 3, none⟩ (.slice none 0 0) (Ne.symm hp8)
  have af := (((hf.setNew hg8 0 (.int .i64 x.node.kind)).setNew hg8 1 (.string x.node.word)).setNew hg8 2 (.slice none 0 0)).setNew hg8 3 (.slice none 0 0)
  exact fin_s7 af ⟨t, ap, h2⟩ a8 a9 hne hg8 hg9 hp9
theorem hseto (w : World) (p : Addr) (v : Value) : (w.setCell p v).os = w.os := rfl
theorem hsett (w : World) (p : Addr) (v : Value) : (w.setCell p v).tape = w.tape := rfl
theorem hsetu (w : World) (p : Addr) (v : Value) : (w.setCell p v).output = w.output := rfl
theorem hset (w : World) (g i k : Nat) (v : Value) (hk : k ≠ g) : (w.setCell ⟨g, i, none⟩ v).heap[k]? = w.heap[k]? := Below.heap_setCell w ⟨g, i, none⟩ v k hk
theorem hsetz (w : World) (p : Addr) (v : Value) : (w.setCell p v).heap.size = w.heap.size := by simp [World.setCell]
/-- two structs stored whole -/
theorem st_world {w4 : World} {g8 g9 : Nat} {z0 z1 z2 z3 y0 y1 y2 y3 y4 y5 y6 : Value} (h8 : Blk w4 g8 25 #[z0, z1, z2, z3]) (h9 : Blk w4 g9 80 #[y0, y1, y2, y3, y4, y5, y6]) (hne : g8 ≠ g9) (x0 x1 x2 x3 v0 v1 v2 v3 v4 v5 v6 : Value) (W : World)
    (hW : W = ((((((((((w4.setCell ⟨g8, 0, none⟩ x0).setCell ⟨g8, 1, none⟩ x1).setCell ⟨g8, 2, none⟩ x2).setCell ⟨g8, 3, none⟩ x3).setCell ⟨g9, 0, none⟩ v0).setCell ⟨g9, 1, none⟩ v1).setCell ⟨g9, 2, none⟩ v2).setCell ⟨g9, 3, none⟩ v3).setCell ⟨g9, 4, none⟩ v4).setCell ⟨g9, 5, none⟩ v5).setCell ⟨g9, 6, none⟩ v6) :
    Blk W g8 25 #[x0, x1, x2, x3] ∧ Blk W g9 80 #[v0, v1, v2, v3, v4, v5, v6] ∧ (∀ k, k ≠ g8 → k ≠ g9 → W.heap[k]? = w4.heap[k]?) ∧ W.heap.size = w4.heap.size ∧ W.os = w4.os ∧ W.tape = w4.tape ∧ W.output = w4.output := by
  have a8 := h8.set4N x0 x1 x2 x3
  have a9 := (((h9.setO ⟨g8, 0, none⟩ x0 (Ne.symm hne)).setO ⟨g8, 1, none⟩ x1 (Ne.symm hne)).setO ⟨g8, 2, none⟩ x2 (Ne.symm hne)).setO ⟨g8, 3, none⟩ x3 (Ne.symm hne)
  have ak : ∀ k, k ≠ g8 → ((((w4.setCell ⟨g8, 0, none⟩ x0).setCell ⟨g8, 1, none⟩ x1).setCell ⟨g8, 2, none⟩ x2).setCell ⟨g8, 3, none⟩ x3).heap[k]? = w4.heap[k]? := fun k hk => by
    rw [hset _ _ _ _ _ hk, hset _ _ _ _ _ hk, hset _ _ _ _ _ hk, hset _ _ _ _ _ hk]
  have asz : ((((w4.setCell ⟨g8, 0, none⟩ x0).setCell ⟨g8, 1, none⟩ x1).setCell ⟨g8, 2, none⟩ x2).setCell ⟨g8, 3, none⟩ x3).heap.size = w4.heap.size := by simp only [hsetz]
  have ao : ((((w4.setCell ⟨g8, 0, none⟩ x0).setCell ⟨g8, 1, none⟩ x1).setCell ⟨g8, 2, none⟩ x2).setCell ⟨g8, 3, none⟩ x3).os = w4.os ∧ ((((w4.setCell ⟨g8, 0, none⟩ x0).setCell ⟨g8, 1, none⟩ x1).setCell ⟨g8, 2, none⟩ x2).setCell ⟨g8, 3, none⟩ x3).tape = w4.tape ∧ ((((w4.setCell ⟨g8, 0, none⟩ x0).setCell ⟨g8, 1, none⟩ x1).setCell ⟨g8, 2, none⟩ x2).setCell ⟨g8, 3, none⟩ x3).output = w4.output := ⟨by simp only [hseto], by simp only [hsett], by simp only [hsetu]⟩
  generalize (((w4.setCell ⟨g8, 0, none⟩ x0).setCell ⟨g8, 1, none⟩ x1).setCell ⟨g8, 2, none⟩ x2).setCell ⟨g8, 3, none⟩ x3 = w1 at *
  refine ⟨?_, ?_, fun k h8 h9 => ?_, ?_, ?_, ?_, ?_⟩
  · rw [hW]; exact setO7 a8 hne v0 v1 v2 v3 v4 v5 v6
  · rw [hW]; exact a9.set7 v0 v1 v2 v3 v4 v5 v6
  · rw [hW, hset _ _ _ _ _ h9, hset _ _ _ _ _ h9, hset _ _ _ _ _ h9, hset _ _ _ _ _ h9, hset _ _ _ _ _ h9, hset _ _ _ _ _ h9, hset _ _ _ _ _ h9]
    exact ak k h8
  · rw [hW]; simp only [hsetz]; exact asz
  · rw [hW]; simp only [hseto]; exact ao.1
  · rw [hW]; simp only [hsett]; exact ao.2.1
  · rw [hW]; simp only [hsetu]; exact ao.2.2
theorem results_cells2 {P : Program} {fn : Func} {p p2 : Tmp} {ty ty2 : TypeId} (h : fn.results = #[.cell p ty, .cell p2 ty2]) (tmps : Array Value) (w : World) (g : Nat) (t : TypeId) (cs : Array Value) (fr : Nat × Nat) (d : TypeDesc)
    (hp : tmps.getD p undef = .pointer (some ⟨g, 0, none⟩)) (hg : w.heap[g]? = some (.cells cs t fr)) (hu : P.underlying ty = some d) (hd : (match d with | .struct _ | .array _ _ => true | _ => false) = true) (hi : (P.info? ty).map (·.size) = some cs.size)
    (g2 : Nat) (t2 : TypeId) (cs2 : Array Value) (fr2 : Nat × Nat) (d2 : TypeDesc)
    (hp2 : tmps.getD p2 undef = .pointer (some ⟨g2, 0, none⟩)) (hg2 : w.heap[g2]? = some (.cells cs2 t2 fr2)) (hu2 : P.underlying ty2 = some d2) (hd2 : (match d2 with | .struct _ | .array _ _ => true | _ => false) = true) (hi2 : (P.info? ty2).map (·.size) = some cs2.size) :
    (results fn tmps).run P w = .ok (.tuple #[.agg cs, .agg cs2]) w := by
  have hp' : tmps[p]?.getD undef = .pointer (some ⟨g, 0, none⟩) := by simpa using hp
  have hp2' : tmps[p2]?.getD undef = .pointer (some ⟨g2, 0, none⟩) := by simpa using hp2
  simp [results, h, hp', hp2', asAddr, run_loadVar_row w g t ty cs fr d hg hu hd hi, run_loadVar_row w g2 t2 ty2 cs2 fr2 d2 hg2 hu2 hd2 hi2]
theorem node_set7 {w : World} {B g g2 : Nat} {kind : Int} {names : List ByteArray} {qs : List NdAt} {na ia : Option Addr} {nc ic : Nat} (h : NodeAt w B g kind names qs na nc ia ic) (h2 : g2 < B) (hne : g ≠ g2) (v0 v1 v2 v3 v4 v5 v6 : Value) :
    NodeAt (((((((w.setCell ⟨g2, 0, none⟩ v0).setCell ⟨g2, 1, none⟩ v1).setCell ⟨g2, 2, none⟩ v2).setCell ⟨g2, 3, none⟩ v3).setCell ⟨g2, 4, none⟩ v4).setCell ⟨g2, 5, none⟩ v5).setCell ⟨g2, 6, none⟩ v6) B g kind names qs na nc ia ic := by
  have ak : ∀ k, k ≠ g2 → (((((((w.setCell ⟨g2, 0, none⟩ v0).setCell ⟨g2, 1, none⟩ v1).setCell ⟨g2, 2, none⟩ v2).setCell ⟨g2, 3, none⟩ v3).setCell ⟨g2, 4, none⟩ v4).setCell ⟨g2, 5, none⟩ v5).setCell ⟨g2, 6, none⟩ v6).heap[k]? = w.heap[k]? := fun k hk => by
    rw [hset _ _ _ _ _ hk, hset _ _ _ _ _ hk, hset _ _ _ _ _ hk, hset _ _ _ _ _ hk, hset _ _ _ _ _ hk, hset _ _ _ _ _ hk, hset _ _ _ _ _ hk]
  exact h.far (by simp only [hseto]) (by simp only [hsett]) (by simp only [hsetu]) (by simp only [hsetz]; exact Nat.le_refl _) (ak g hne) (fun k hk _ => ak k (by omega))
/-- the world that readItems leaves -/
theorem end_world {w wr : World} {pb g4 g5 B k : Nat} {s : ByteArray} {q : NdAt} {z0 z1 z2 z3 y0 y1 y2 y3 y4 y5 y6 : Value} (hb4 : Blk wr g4 25 #[z0, z1, z2, z3]) (hb5 : Blk wr g5 80 #[y0, y1, y2, y3, y4, y5, y6]) (hf : FrP pb w wr) (hp : PlB wr pb s k) (hq : q.inn (fun b => B ≤ b ∧ b < wr.heap.size) wr)
    (h4 : w.heap.size ≤ g4) (h5 : w.heap.size ≤ g5) (hp4 : pb ≠ g4) (hp5 : pb ≠ g5) (h45 : g4 ≠ g5) (hB4 : g4 < B) (hB5 : g5 < B) (x0 x1 x2 x3 v0 v1 v2 v3 v4 v5 v6 : Value) (W : World)
    (hW : W = ((((((((((wr.setCell ⟨g4, 0, none⟩ x0).setCell ⟨g4, 1, none⟩ x1).setCell ⟨g4, 2, none⟩ x2).setCell ⟨g4, 3, none⟩ x3).setCell ⟨g5, 0, none⟩ v0).setCell ⟨g5, 1, none⟩ v1).setCell ⟨g5, 2, none⟩ v2).setCell ⟨g5, 3, none⟩ v3).setCell ⟨g5, 4, none⟩ v4).setCell ⟨g5, 5, none⟩ v5).setCell ⟨g5, 6, none⟩ v6) :
    FrP pb w W.drew ∧ PlB W.drew pb s k ∧ Blk W.drew g4 25 #[x0, x1, x2, x3] ∧ Blk W.drew g5 80 #[v0, v1, v2, v3, v4, v5, v6] ∧ q.inn (fun b => B ≤ b ∧ b < W.drew.heap.size) W.drew := by
  have ha4 := hb4.set4N x0 x1 x2 x3
  have ha5 := (((hb5.setO ⟨g4, 0, none⟩ x0 (Ne.symm h45)).setO ⟨g4, 1, none⟩ x1 (Ne.symm h45)).setO ⟨g4, 2, none⟩ x2 (Ne.symm h45)).setO ⟨g4, 3, none⟩ x3 (Ne.symm h45)
  have hap := (((hp.setO ⟨g4, 0, none⟩ x0 hp4).setO ⟨g4, 1, none⟩ x1 hp4).setO ⟨g4, 2, none⟩ x2 hp4).setO ⟨g4, 3, none⟩ x3 hp4
  have haf := (((hf.setNew h4 0 x0).setNew h4 1 x1).setNew h4 2 x2).setNew h4 3 x3
  have hah : ∀ k, k ≠ g4 → ((((wr.setCell ⟨g4, 0, none⟩ x0).setCell ⟨g4, 1, none⟩ x1).setCell ⟨g4, 2, none⟩ x2).setCell ⟨g4, 3, none⟩ x3).heap[k]? = wr.heap[k]? := fun k hk => by
    rw [hset _ _ _ _ _ hk, hset _ _ _ _ _ hk, hset _ _ _ _ _ hk, hset _ _ _ _ _ hk]
  have hasz : ((((wr.setCell ⟨g4, 0, none⟩ x0).setCell ⟨g4, 1, none⟩ x1).setCell ⟨g4, 2, none⟩ x2).setCell ⟨g4, 3, none⟩ x3).heap.size = wr.heap.size := by simp only [hsetz]
  generalize (((wr.setCell ⟨g4, 0, none⟩ x0).setCell ⟨g4, 1, none⟩ x1).setCell ⟨g4, 2, none⟩ x2).setCell ⟨g4, 3, none⟩ x3 = w1 at *
  have hz : W.heap.size = w1.heap.size := by rw [hW]; simp only [hsetz]
  have hbh : ∀ k, k ≠ g5 → W.heap[k]? = w1.heap[k]? := fun k hk => by
    rw [hW, hset _ _ _ _ _ hk, hset _ _ _ _ _ hk, hset _ _ _ _ _ hk, hset _ _ _ _ _ hk, hset _ _ _ _ _ hk, hset _ _ _ _ _ hk, hset _ _ _ _ _ hk]
  have hFr : FrP pb w W := by rw [hW]; exact fr_set7 haf h5 v0 v1 v2 v3 v4 v5 v6
  have hPl : PlB W pb s k := by rw [hW]; exact setO7 hap hp5 v0 v1 v2 v3 v4 v5 v6
  have hB4' : Blk W g4 25 #[x0, x1, x2, x3] := by rw [hW]; exact setO7 ha4 h45 v0 v1 v2 v3 v4 v5 v6
  have hB5' : Blk W g5 80 #[v0, v1, v2, v3, v4, v5, v6] := by rw [hW]; exact ha5.set7 v0 v1 v2 v3 v4 v5 v6
  clear hW
  refine ⟨⟨hFr.os, hFr.tape, hFr.output, hFr.size, hFr.blk⟩, hPl, hB4', hB5', ?_⟩
  have h1 : W.drew.heap.size = wr.heap.size := by
    show W.heap.size = _
    rw [hz, hasz]
  rw [h1]
  exact hq.keep (Nat.le_of_eq h1.symm) fun b hb => (show W.heap[b]? = _ from (hbh b (by omega)).trans (hah b (by omega)))

end Go.Proofs.YtolbhhokpelchaaDoor
