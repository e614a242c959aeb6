/- The contracts of outline.readText and of Parse's own function, and of Parse. -/
import Derived.Test.YtolbhhokpelchaaDoorOtlH
import Derived.Test.YtolbhhokpelchaaDoorOutQ
namespace Go.Proofs.YtolbhhokpelchaaDoor
open Go.RowKit

/-- all blocks but two stay -/
structure FrP2 (pb g6 : Nat) (w w' : World) : Prop where
  os : w'.os = w.os
  tape : w'.tape = w.tape
  output : w'.output = w.output
  size : w.heap.size ≤ w'.heap.size
  blk : ∀ k, k < w.heap.size → k ≠ pb → k ≠ g6 → w'.heap[k]? = w.heap[k]?
theorem blk_neT {w : World} {g k : Nat} {t t' : TypeId} {cs cs' : Array Value} (h : Blk w g t cs) (h' : Blk w k t' cs') (ht : t ≠ t') : g ≠ k := fun e => by
  subst e
  have e2 : some (Obj.cells cs t (0, 0)) = some (Obj.cells cs' t' (0, 0)) := Eq.trans (Eq.symm (show w.heap[g]? = some (Obj.cells cs t (0, 0)) from h)) (show w.heap[g]? = some (Obj.cells cs' t' (0, 0)) from h')
  simp at e2
  exact ht e2.2
theorem linesB_count (s : Bs) : (linesB s).1.length ≤ s.length := by
  obtain ⟨t, rfl⟩ : ∃ t : Bs, s = t.reverse := ⟨s.reverse, by simp⟩
  induction t with
  | nil => exact Nat.le_refl _
  | cons c s ih =>
    rw [List.reverse_cons, linesB_snoc, List.length_append, List.length_singleton]
    unfold lnStep
    by_cases hc : c = 10
    · rw [if_pos hc, List.length_append, List.length_singleton]; omega
    · rw [if_neg hc]; show (linesB s.reverse).1.length ≤ _; omega
/-- what a text is read as, or the line of the fault -/
def textR (n : Nat) (ls : List Bs) (r : Bs) : Nat ⊕ Nd :=
  match nextT n ls r with
  | (m, none, _) => .inl m
  | (m, some x, l1) => if x.deep = 0 then (match itemsC (.mk x.kind ⟨#[]⟩ [] []) 0 x m l1 r with
    | .inl k => .inl k
    | .inr (y, _, _, _) => .inr y) else .inl m
/-- what readText answers, and where it leaves the place -/
def TextP (pb n : Nat) (ls : List Bs) (r : Bs) (w : World) (e : Ending) (w' : World) : Prop :=
  FrP pb w w' ∧ ∃ (t : ByteArray) (m : Nat), PlB w' pb t m ∧ match textR n ls r with
    | .inl k => m = k ∧ e = .panicked [lineP]
    | .inr y => ∃ q : NdAt, q.n = y ∧ q.inn (fun b => w.heap.size ≤ b ∧ b < w'.heap.size) w' ∧ e = .returned (.agg (nCells q))
theorem st4_world {w w6 : World} {pb g0 m B Z : Nat} {t5 : ByteArray} {q : NdAt} {z0 z1 z2 z3 : Value} (hk : Blk w6 g0 25 #[z0, z1, z2, z3]) (hf : FrP pb w w6) (hp : PlB w6 pb t5 m) (hq : q.inn (fun b => B ≤ b ∧ b < Z) w6) (hgw : w.heap.size ≤ g0) (hpb : pb ≠ g0) (hgB : g0 < B) (hZ : Z ≤ w6.heap.size) (x0 x1 x2 x3 : Value) (W : World)
    (hW : W = (((w6.setCell ⟨g0, 0, none⟩ x0).setCell ⟨g0, 1, none⟩ x1).setCell ⟨g0, 2, none⟩ x2).setCell ⟨g0, 3, none⟩ x3) :
    FrP pb w W ∧ PlB W pb t5 m ∧ Blk W g0 25 #[x0, x1, x2, x3] ∧ q.inn (fun b => B ≤ b ∧ b < W.heap.size) W := by
  have hz : W.heap.size = w6.heap.size := by rw [hW]; simp only [hsetz]
  have hk' : ∀ k, k ≠ g0 → W.heap[k]? = w6.heap[k]? := fun k hk => by rw [hW, hset _ _ _ _ _ hk, hset _ _ _ _ _ hk, hset _ _ _ _ _ hk, hset _ _ _ _ _ hk]
  have h1 : FrP pb w W := by rw [hW]; exact (((hf.setNew hgw 0 x0).setNew hgw 1 x1).setNew hgw 2 x2).setNew hgw 3 x3
  have h2 : PlB W pb t5 m := (hk' pb hpb).trans hp
  have h3 : Blk W g0 25 #[x0, x1, x2, x3] := by rw [hW]; exact hk.set4N x0 x1 x2 x3
  exact ⟨h1, h2, h3, (hq.keep (Nat.le_of_eq hz.symm) fun b hb => hk' b (by omega)).mono fun b hb => ⟨hb.1, by omega⟩⟩
theorem Blk.set4' {w : World} {g : Nat} {t : TypeId} {x y z u : Value} (h : Blk w g t #[x, y, z, u]) (a b c d : Value) : Blk ((((w.setCell ⟨g, 0, none⟩ a).setCell ⟨g, 1, none⟩ b).setCell ⟨g, 2, none⟩ c).setCell ⟨g, 3, none⟩ d) g t #[a, b, c, d] := h.set4N a b c d
set_option maxHeartbeats 6400000 in
set_option maxRecDepth 100000 in
theorem readText_any (pb : Nat) (t : ByteArray) (n : Nat) (w : World) (hm : MaxC w) (hpb : 0 ≠ pb) (hp : PlB w pb t n) (ht : t.size ≤ 100000) (hn : n + (linesB t.data.toList).1.length ≤ 1000000) :
    Calls Tryd.prog 38 #[nextF pb] w (TextP pb n (linesB t.data.toList).1 (linesB t.data.toList).2 w) := by
  obtain ⟨R, hR⟩ : ∃ R : Ending → World → Prop, R = TextP pb n (linesB t.data.toList).1 (linesB t.data.toList).2 w := ⟨_, rfl⟩
  have hRe : ∀ e w', TextP pb n (linesB t.data.toList).1 (linesB t.data.toList).2 w e w' → R e w' := fun e w' h => by rw [hR]; exact h
  rw [← hR]
  have hk0 := Blk.new w 25 #[.int .i64 0, .string ⟨#[]⟩, .slice none 0 0, .slice none 0 0]
  have hb0 := below_al (o := .cells #[.int .i64 0, .string ⟨#[]⟩, .slice none 0 0, .slice none 0 0] 25) (Below.refl w.heap.size w)
  have hnx := next_any pb t n _ (hm.call hb0) hpb (hp.call hb0) ht hn
  obtain ⟨ls, hls⟩ : ∃ ls, (linesB t.data.toList).1 = ls := ⟨_, rfl⟩
  obtain ⟨r, hr⟩ : ∃ r, (linesB t.data.toList).2 = r := ⟨_, rfl⟩
  have hlens := (linesB_lens t.data.toList).1
  rw [hls, hr] at hnx hRe
  rw [hls] at hn hlens
  rw [lenB] at hlens
  unfold NextP at hnx
  unfold TextP textR at hRe
  obtain ⟨⟨m, o, l1⟩, hnt⟩ : ∃ T, nextT n ls r = T := ⟨_, rfl⟩
  rw [hnt] at hnx hRe
  have hbok := fun b (h : o = some b) => nextT_ok ls n r m b l1 (fun l hl => by have := hlens l hl; omega) (by rw [hnt, h])
  have hlen := fun b (h : o = some b) => nextT_len ls n r m b l1 (by rw [hnt, h])
  have hlin := fun b (h : o = some b) => nextT_line ls n r m b l1 (by rw [hnt, h])
  have hpl := hp.lt
  have HRE := Lib.hid hRe
  have HNX := Lib.hid hnx
  have HM := Lib.hid hm
  have HB0 := Lib.hid hb0
  clear hR hRe hnx hm hp hls hr hnt hb0 hlens
  go_enter Tryd.func38, Tryd.ntmps38
  go_upto_region 1 with fail
  generalize hwx : w.alloc (.cells #[.int .i64 0, .string ⟨#[]⟩, .slice none 0 0, .slice none 0 0] 25) = wx at *
  have hsz : wx.heap.size = w.heap.size + 1 := by rw [← hwx]; simp
  clear hwx
  obtain ⟨g0, hg0⟩ : ∃ g, w.heap.size = g := ⟨_, rfl⟩
  have HG := Lib.hid hg0
  rw [hg0] at hk0 hpl hsz ⊢
  clear hg0
  cases o with
  | none =>
    go_wp2_with (go_at_call 39; refine HNX.out.mono ?_; rintro e w3 ⟨hf3, t3, m3, hp3, ht3, rfl, rfl⟩)
    simp only [bodyPost]
    exact ⟨trivial, HRE.out _ _ ⟨(FrP.of HB0.out).trans hf3, t3, m3, hp3, rfl, rfl⟩⟩
  | some b =>
    have hbk := hbok b rfl
    have hln := hlen b rfl
    have hli := hlin b rfl
    clear hbok hlen hlin
    go_upto_region 2 with (go_at_call 39; refine HNX.out.mono ?_; rintro e w3 ⟨hf3, t3, m3, hp3, ht3, rfl, rfl, hl3⟩)
    have hI := Blk.new w3 80 (iCells b)
    have hb4 := below_al (o := .cells (iCells b) 80) (Below.refl w3.heap.size w3)
    have hf4 := ((FrP.of HB0.out).trans hf3).alloc (.cells (iCells b) 80)
    have hk4 := (hk0.fr hf3 (by omega)).alloc (.cells (iCells b) 80)
    have hp4 := hp3.alloc (.cells (iCells b) 80)
    have hg3 : g0 < w3.heap.size := by have := hf3.size; omega
    generalize w3.alloc (.cells (iCells b) 80) = w4 at *
    generalize w3.heap.size = g3 at *
    obtain ⟨i0, i1, i2, i3, i4, i5, i6⟩ := hI.cells7
    have HI := Lib.hid hI
    clear hk0 hf3 hp3 hb4 hI
    by_cases hd : b.deep = 0
    case neg =>
      have d1 : (b.deep == 0) = false := beq_eq_false_iff_ne.2 hd
      have hfin := fun e w' t m h1 h2 h3 => HRE.out e w' ⟨h1, t, m, h2, h3⟩
      simp only [if_neg hd] at hfin
      have HF := Lib.hid hfin
      clear hfin hd
      go_wp2_with (go_at_call 59; refine (must_not _).mono ?_; rintro e w2 ⟨rfl, rfl⟩)
      simp only [bodyPost]
      exact ⟨trivial, HF.out _ _ _ _ hf4 hp4 ⟨rfl, rfl⟩⟩
    case pos =>
      have d1 : (b.deep == 0) = true := beq_iff_eq.2 hd
      have hbe : b ≠ endI := fun e => by
        rw [e] at hd
        have : endI.deep = -1 := rfl
        omega
      have hl1 : m3 + l1.length ≤ n + ls.length := by
        rcases hli with h | h
        · exact absurd h hbe
        · exact h
      have hit := items_any pb hpb l1.length b t3 m3 w4 hbk.1 (by omega) (by rw [hl3]; exact Nat.le_refl _) (HM.out.fr hf4 hpb) hp4 ht3 (by rw [hl3]; show m3 + l1.length ≤ 1000000; omega)
      rw [hl3] at hit
      unfold ItemsP at hit
      simp only at hit
      have hfin := fun e w' t m h1 h2 h3 => HRE.out e w' ⟨h1, t, m, h2, h3⟩
      simp only [if_pos hd] at hfin
      simp only [iCells] at hit
      rw [hd] at hit i0
      obtain ⟨T, hT⟩ : ∃ T, itemsC (.mk b.kind ⟨#[]⟩ [] []) 0 b m3 l1 r = T := ⟨_, rfl⟩
      rw [hT] at hit hfin
      have HF := Lib.hid hfin
      have HIT := Lib.hid hit
      clear hfin hit hT hbe hl1 hln hli hbk hl3
      have HK4 := Lib.hid hk4
      cases T with
      | inl kk =>
        go_wp2_with (first
          | (go_at_call 59; refine (must_ok _).mono ?_; rintro e w2 ⟨rfl, rfl⟩)
          | (go_at_call 60; refine HIT.out.mono ?_; rintro e w5 ⟨hf5, t5, m5, hp5, ht5, rfl, rfl⟩))
        simp only [bodyPost]
        exact ⟨trivial, HF.out _ _ _ _ (hf4.trans hf5) hp5 ⟨rfl, rfl⟩⟩
      | inr res =>
        obtain ⟨y, b2, m2, l3⟩ := res
        go_upto_region 4 with (first
          | (go_at_call 59; refine (must_ok _).mono ?_; rintro e w2 ⟨rfl, rfl⟩)
          | (go_at_call 60; refine HIT.out.mono ?_; rintro e w5 ⟨hf5, t5, m5, hp5, ht5, rfl, hl5, hb2k, q, rfl, hqi, rfl⟩))
        have hn6 := (Blk.new w5 25 (nCells q)).alloc (.cells (iCells b2) 80)
        have hk6 := ((HK4.out.fr hf5 (by omega)).alloc (.cells (nCells q) 25)).alloc (.cells (iCells b2) 80)
        have hf6 := ((hf4.trans hf5).alloc (.cells (nCells q) 25)).alloc (.cells (iCells b2) 80)
        have hp6 := (hp5.alloc (.cells (nCells q) 25)).alloc (.cells (iCells b2) 80)
        have hbl := below_al (o := .cells (iCells b2) 80) (below_al (o := .cells (nCells q) 25) (Below.refl w5.heap.size w5))
        have hq6 := hqi.keep (w' := (w5.alloc (.cells (nCells q) 25)).alloc (.cells (iCells b2) 80)) hbl.size (fun b hb => hbl.block b hb.2)
        have hz6 := hbl.size
        have hg4 := HK4.out.lt
        have hgw : w.heap.size ≤ g0 := Nat.le_of_eq HG.out
        have hz5 := hf5.size
        clear hbl hqi hp5 hf5 hf4 hp4 HK4 HIT i0 i1 i2 i3 i4 i5 i6 HI
        generalize (w5.alloc (.cells (nCells q) 25)).alloc (.cells (iCells b2) 80) = w6 at *
        generalize w5.heap.size = g5 at *
        have hpb0 : pb ≠ g0 := by omega
        have HE := Lib.hid (st4_world hk6 hf6 hp6 hq6 hgw hpb0 hg4 hz6 (.int .i64 q.n.kind) (.string q.n.word) (.slice q.na q.n.names.length q.nc) (.slice q.ia q.n.items.length q.ic) _ rfl)
        obtain ⟨j0, j1, j2, j3⟩ := hn6.cells4
        obtain ⟨k0, k1, k2, k3⟩ := hk6.cells4
        have f0 := hk6.frozen 0
        have f1 := hk6.frozen 1
        have f2 := hk6.frozen 2
        have f3 := hk6.frozen 3
        clear hn6 hk6 hf6 hp6 hq6
        go_wp2_with fail
        obtain ⟨E1, E2, E3, E4⟩ := HE.out
        generalize (((w6.setCell ⟨g0, 0, none⟩ (.int .i64 q.n.kind)).setCell ⟨g0, 1, none⟩ (.string q.n.word)).setCell ⟨g0, 2, none⟩ (.slice q.na q.n.names.length q.nc)).setCell ⟨g0, 3, none⟩ (.slice q.ia q.n.items.length q.ic) = we at *
        refine bodyPost_ret (v := .agg (nCells q)) ?_ rfl (HF.out _ _ _ _ E1 E2 ⟨q, rfl, E4.mono (fun b hb => ⟨by have := hb.1; omega, hb.2⟩), rfl⟩)
        exact results_cellN rfl _ _ g0 _ (nCells q) _ _ rfl E3 Tryd.underlying25 rfl (by kernel_rfl)
end Go.Proofs.YtolbhhokpelchaaDoor
