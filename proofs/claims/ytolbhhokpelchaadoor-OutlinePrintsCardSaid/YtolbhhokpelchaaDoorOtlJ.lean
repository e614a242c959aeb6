/- The contract of Parse's own function. -/
import Derived.Test.YtolbhhokpelchaaDoorOtlI
namespace Go.Proofs.YtolbhhokpelchaaDoor
open Go.RowKit

/-- what Parse's own function leaves where nothing is panicked: the node in its block -/
def OneA (pb g6 : Nat) (y : Nd) (w : World) (w' : World) : Prop := FrP2 pb g6 w w' ∧ ∃ q : NdAt, q.n = y ∧ q.inn (fun b => w.heap.size ≤ b ∧ b < w'.heap.size) w' ∧ Blk w' g6 25 (nCells q)
/-- where something is: the place's line -/
def OneZ (pb g6 k : Nat) (w : World) (w' : World) : Prop := FrP2 pb g6 w w' ∧ ∃ t : ByteArray, PlB w' pb t k
theorem st4b {w2 : World} {g6 : Nat} {z0 z1 z2 z3 : Value} (hk : Blk w2 g6 25 #[z0, z1, z2, z3]) (x0 x1 x2 x3 : Value) (W : World) (hW : W = (((w2.setCell ⟨g6, 0, none⟩ x0).setCell ⟨g6, 1, none⟩ x1).setCell ⟨g6, 2, none⟩ x2).setCell ⟨g6, 3, none⟩ x3) :
    Blk W g6 25 #[x0, x1, x2, x3] ∧ (∀ k, k ≠ g6 → W.heap[k]? = w2.heap[k]?) ∧ W.heap.size = w2.heap.size ∧ W.os = w2.os ∧ W.tape = w2.tape ∧ W.output = w2.output := by
  refine ⟨by rw [hW]; exact hk.set4N x0 x1 x2 x3, fun k hk => by rw [hW, hset _ _ _ _ _ hk, hset _ _ _ _ _ hk, hset _ _ _ _ _ hk, hset _ _ _ _ _ hk], by rw [hW]; simp only [hsetz], by rw [hW]; simp only [hseto], by rw [hW]; simp only [hsett], by rw [hW]; simp only [hsetu]⟩
set_option maxHeartbeats 3200000 in
set_option maxRecDepth 100000 in
theorem parse1_any (pb g5 g6 ge : Nat) (t : ByteArray) (w : World) (hm : MaxC w) (hpb : 0 ≠ pb) (hp : PlB w pb t 0) (h5 : Blk w g5 57 #[.pointer (some ⟨pb, 0, none⟩)]) (h6 : Blk w g6 25 #[.int .i64 0, .string ⟨#[]⟩, .slice none 0 0, .slice none 0 0])
    (he : Blk w ge 28 #[.int .i64 0]) (hg6 : g6 ≠ pb) (ht : t.size ≤ 100000) :
    Calls Tryd.prog 37 #[.pointer (some ⟨g5, 0, none⟩), .pointer (some ⟨g6, 0, none⟩)] w
      (MayP ge (fun w' => ∃ y, textR 0 (linesB t.data.toList).1 (linesB t.data.toList).2 = .inr y ∧ OneA pb g6 y w w') (fun c w' => c = 250 ∧ ∃ k, textR 0 (linesB t.data.toList).1 (linesB t.data.toList).2 = .inl k ∧ OneZ pb g6 k w w')) := by
  have hmf : ∀ (fn : Fn) (first cap : Array Value) (w : World), (Instr.makeFunc fn first cap).run Tryd.prog w = .ok (.func fn first cap) w := fun _ _ _ _ => rfl
  have hlr : (linesB t.data.toList).1.length ≤ 1000000 := by
    have := linesB_count t.data.toList
    rw [lenB] at this
    omega
  have hrt := readText_any pb t 0 w hm hpb hp ht (by omega)
  unfold TextP at hrt
  obtain ⟨T, hT⟩ : ∃ T, textR 0 (linesB t.data.toList).1 (linesB t.data.toList).2 = T := ⟨_, rfl⟩
  rw [hT] at hrt ⊢
  have hep : ge ≠ pb := blk_neT he hp (by decide)
  have h56 : ge ≠ g6 := blk_neT he h6 (by decide)
  have hc5 := h5.cell 0
  have HRT := Lib.hid hrt
  have H6 := Lib.hid h6
  have HE := Lib.hid he
  have hlt6 := h6.lt
  clear hrt hm hp h5 h6 he hT hlr
  go_enter Tryd.func37, Tryd.ntmps37
  cases T with
  | inl k =>
    go_wp2_with (go_at_call 38; refine HRT.out.mono ?_; rintro e w2 ⟨hf2, t2, m2, hp2, rfl, rfl⟩)
    simp only [bodyPost]
    refine ⟨trivial, .inr ⟨250, rfl, rfl, m2, rfl, ⟨hf2.os, hf2.tape, hf2.output, hf2.size, fun k hk h1 h2 => hf2.blk k hk h1⟩, t2, hp2⟩, (HE.out.fr hf2 hep).cell 0, (HE.out.fr hf2 hep).frozen 0⟩
  | inr y =>
    go_wp2_with (go_at_call 38; refine HRT.out.mono ?_; rintro e w2 ⟨hf2, t2, m2, hp2, q, rfl, hqi, rfl⟩; have hk6 := H6.out.fr hf2 hg6; obtain ⟨k0, k1, k2, k3⟩ := hk6.cells4; have f0 := hk6.frozen 0; have f1 := hk6.frozen 1; have f2 := hk6.frozen 2; have f3 := hk6.frozen 3)
    have hge := HE.out.fr hf2 hep
    obtain ⟨s1, s2, s3, s4, s5, s6⟩ := st4b hk6 (.int .i64 q.n.kind) (.string q.n.word) (.slice q.na q.n.names.length q.nc) (.slice q.ia q.n.items.length q.ic) _ rfl
    clear k0 k1 k2 k3 f0 f1 f2 f3 hk6
    generalize (((w2.setCell ⟨g6, 0, none⟩ (.int .i64 q.n.kind)).setCell ⟨g6, 1, none⟩ (.string q.n.word)).setCell ⟨g6, 2, none⟩ (.slice q.na q.n.names.length q.nc)).setCell ⟨g6, 3, none⟩ (.slice q.ia q.n.items.length q.ic) = we at *
    have hge2 : Blk we ge 28 #[.int .i64 0] := (s2 ge h56).trans hge
    go_end0
    refine ⟨.inl ⟨rfl, q.n, rfl, ⟨s4.trans hf2.os, s5.trans hf2.tape, s6.trans hf2.output, by rw [s3]; exact hf2.size, fun k hk h1 h2 => (s2 k h2).trans (hf2.blk k hk h1)⟩, q, rfl, ?_, s1⟩, hge2.cell 0, hge2.frozen 0⟩
    exact (hqi.keep (Nat.le_of_eq s3.symm) fun b hb => s2 b (by omega)).mono fun b hb => ⟨hb.1, by rw [s3]; exact hb.2⟩

/-- a text's node, its error, and the line: as a reader of lines reads it -/
theorem parseN_text (s : Bs) (h : s.length ≤ 8192) : parseN s = match textR 0 (linesB s).1 (linesB s).2 with | .inl k => (noNd, 250, (k : Int)) | .inr y => (y, 0, 0) := by
  unfold parseN textR
  rw [if_neg (by omega)]
  cases nextT 0 (linesB s).1 (linesB s).2 with
  | mk m p =>
    obtain ⟨o, l1⟩ := p
    cases o with
    | none => rfl
    | some x =>
      simp only
      split
      · cases itemsC (.mk x.kind ⟨#[]⟩ [] []) 0 x m l1 (linesB s).2 with
        | inl k => rfl
        | inr t => rfl
      · rfl
end Go.Proofs.YtolbhhokpelchaaDoor
