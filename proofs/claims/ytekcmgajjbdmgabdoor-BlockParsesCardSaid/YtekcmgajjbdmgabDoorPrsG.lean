/- The contract of block.within where a key is put behind the others. -/
import Derived.Test.YtekcmgajjbdmgabDoorPrsF
import Derived.Deep.RegionHeld3
import Derived.Outline
namespace Go.Proofs.YtekcmgajjbdmgabDoor
open Go.RowKit

set_option maxHeartbeats 12800000 in
set_option maxRecDepth 100000 in
theorem within_yes (rb B0 : Nat) (f : Value) (ds0 : List Dfn) (d : Dfn) (s : ByteArray) (k v : Bs) (w : World) (h : RdS w rb B0 f (ds0 ++ [d])) (hm : MaxC w) (hs : s.size ≤ 100000) (hne : s ≠ ⟨#[125, 10]⟩) (h64 : ds0.length < 64)
    (hk : withD s.data.toList = some (k, v)) (hno : memB (bytesA k) d.keys = false) (hl64 : d.keys.length < 64) (hv64 : d.vals.length ≤ 64) :
    Calls Tryd.prog 46 #[.pointer (some ⟨rb, 0, none⟩), .string s] w (LookP rb B0 withV (ds0 ++ [addK d k v]) w) := by
  have hq := strNe2 s hne
  obtain ⟨⟨S, B, K, V, E, G, F⟩, h1, h2, h3, h4, h5, h6⟩ := wline s hs
  rw [h6] at hk
  have hw := fun W => bWord_any K W h4
  have hv := fun W => bValue_any V W h5
  simp only at h1 h2 h3 hk hw hv
  obtain ⟨P, e⟩ : (E = true ∧ G = true ∧ bwC K.data.toList = true ∧ bvC V.data.toList = true) ∧ (K.data.toList, V.data.toList) = (k, v) := by
    split at hk
    · rename_i hh
      exact ⟨hh, Option.some.inj hk⟩
    · cases hk
  obtain ⟨rfl, rfl, p3, p4⟩ := P
  simp only [Prod.mk.injEq] at e
  obtain ⟨rfl, rfl⟩ := e
  rw [bytesA_of] at hno
  rw [p3] at hw
  rw [p4] at hv
  have HADD : Hid (addK d K.data.toList V.data.toList = ⟨d.kind, d.keys ++ [K], d.vals ++ [V]⟩) := Lib.hid (by unfold addK; rw [bytesA_of, bytesA_of])
  have H1 := Lib.hid h1
  have H2 := Lib.hid h2
  have H3 := Lib.hid (h3 w hm)
  have HW := Lib.hid hw
  have HV := Lib.hid hv
  have HR := Lib.hid h
  have hBw := h.lt.2.2
  clear h1 h2 h3 h6 hw hv hk p3 p4 hne h hm
  go_enter Tryd.func46, Tryd.ntmps46
  go_upto_region 8 with (first | (go_at_call 44; refine (H1.out _).mono ?_; rintro e w2 ⟨rfl, rfl⟩) | (go_at_call 43; refine (H2.out _).mono ?_; rintro e w3 ⟨rfl, rfl⟩) | (go_at_call 34; refine H3.out.mono ?_; rintro e w4 ⟨rfl, hb4⟩) | (go_at_call 45; refine (HW.out _).mono ?_; rintro e w5 ⟨rfl, rfl⟩) | (go_at_call 66; refine (HV.out _).mono ?_; rintro e w6 ⟨rfl, rfl⟩))
  obtain ⟨vv, qs, lo, hqd, hblk, hrb, hown, hl1, hl2, hrows⟩ := HR.out.call hb4
  obtain ⟨init, q, rfl, hqi, hqq⟩ : ∃ init q, qs = init ++ [q] ∧ init.map (·.d) = ds0 ∧ q.d = d := by
    obtain ⟨q, hql, e⟩ := getLast_map (fun x : DefAt => x.d) qs d (by rw [hqd]; simp)
    have e2 := drop_last qs q hql
    refine ⟨qs.dropLast, q, e2, ?_, e⟩
    rw [e2, List.map_append, List.map_singleton] at hqd
    exact (List.append_inj' hqd rfl).1
  have hi : init.length < (init ++ [q]).length := by simp
  have hop := hrows.2 q (by simp)
  obtain ⟨a, c, hvv, hds⟩ := hown.defs fun x hx => ((hrows.all hl2) x hx).1.1
  subst hvv
  obtain ⟨g, rfl, hgb, hgl, _, hnc, hcm, d0, d1, d2, hfr⟩ := hown.at init.length hi
  have hkeys := (hop.okT.1).1.1
  have hcon := fun n => contains_any _ _ _ K (w4.drewN n) (show HasStrs (w4.drewN n) q.ka q.kc q.d.keys from hkeys)
  have hqe : (init ++ [q])[init.length] = q := by simp
  rw [hqe] at d1 d2
  rw [List.length_append, List.length_singleton] at hnc hown
  have c0 : w4.cell? ⟨rb, 0, none⟩ = some (.slice (some ⟨g, 0, none⟩) (init.length + 1) c) := by
    have := hblk.cell 0
    rw [List.length_append, List.length_singleton] at this
    exact this
  rw [List.length_append, List.length_singleton] at hblk
  subst hqq
  rw [hno] at hcon
  have hin : init.length < 64 := by have : (init.map (fun x : DefAt => x.d)).length = init.length := by simp
                                    rw [hqi] at this; omega
  obtain ⟨i, hie⟩ : ∃ i, init.length = i := ⟨_, rfl⟩
  have HIE := Lib.hid hie
  rw [hie] at c0 hnc d1 d2 hin
  have e1 : ((i + 1 : Nat) : Int) = (i : Int) + 1 := by omega
  have e2 : IntKind.i64.wrap ((i : Int) + 1 - 1) = (i : Int) := by rw [IntWalk.i64_in _ (by omega)]; omega
  have e3 : (i : Int) + 1 - 1 = (i : Int) := by omega
  have e4 : (0 : Int) < (i : Int) + 1 := by omega
  have e5 : (0 : Int) ≤ (i : Int) := by omega
  have e6 : (i : Int) < (i : Int) + 1 := by omega
  unfold maxLen at hcm
  have HB4 := Lib.hid hb4
  have HC := Lib.hid hcon
  have D1 := Lib.hid d1
  have D2 := Lib.hid d2
  have HBLK := Lib.hid hblk
  have HOWN := Lib.hid hown
  have HROWS := Lib.hid hrows
  have HOP := Lib.hid hop
  have HQI := Lib.hid hqi
  have HFR := Lib.hid hfr
  have HGL := Lib.hid hgl
  clear hblk hown hrows hds hqi hkeys hcon d0 d2 d1 hb4 HR hqd hi hop hqe hno hie hfr hgl h64
  go_quiet (fail)
  clear c0 e1 e2 e3 e4 e5 e6
  have d1 := fun n => (show (w4.drewN n).cell? ⟨g, i * 3 + 1, none⟩ = some (.slice q.ka q.d.keys.length q.kc) from D1.out)
  have ht : ((q.d.keys.length : Int) == 64) = false := beq_eq_false_iff_ne.2 (by omega)
  go_upto_region 11 with (go_at_call 67; refine (HC.out _).mono ?_; rintro e w7 ⟨rfl, rfl⟩)
  have HBLK8 : Hid (Blk (w4.drewN nq) rb 53 #[.slice (some ⟨g, 0, none⟩) (init.length + 1) c, f]) := Lib.hid HBLK.out
  have HOWN8 : Hid (OwnD 61 (w4.drewN nq) B0 (.slice (some ⟨g, 0, none⟩) (init.length + 1) c) (init ++ [q])) := Lib.hid HOWN.out
  have HROWS8 : Hid (RowsAt (w4.drewN nq) lo (init ++ [q])) := Lib.hid HROWS.out
  have HOP8 : Hid (OpenAt (w4.drewN nq) lo q) := Lib.hid HOP.out
  have k1 : (w4.drewN nq).cell? ⟨g, i * 3 + 1, none⟩ = some (.slice q.ka q.d.keys.length q.kc) := D1.out
  have k2 : (w4.drewN nq).cell? ⟨g, i * 3 + 2, none⟩ = some (.slice q.va q.d.vals.length q.vc) := D2.out
  have HFR8 : Hid (∀ j, (w4.drewN nq).frozen? ⟨g, j, none⟩ = false) := Lib.hid HFR.out
  have hl2' : lo ≤ (w4.drewN nq).heap.size := hl2
  have hb8 := drawn_below HB4.out nq
  generalize w4.drewN nq = W8 at *
  clear HBLK HOWN HROWS HOP D1 D2 HFR HB4 HC d1 ht
  have K1 := Lib.hid k1
  have K2 := Lib.hid k2
  have HB8 := Lib.hid hb8
  clear hb8
  obtain ⟨i1, hj, hy0, hy1, hy2⟩ := info_parts Tryd.infoS
  have HKO := Lib.hid (fun W (h : Below W8.heap.size W8 W) => HOP8.out.1.call h)
  have HVO := Lib.hid (fun W (h : Below W8.heap.size W8 W) => HOP8.out.2.1.call h)
  have hkl : q.d.keys.length ≤ 1000000 := by omega
  have hvl : q.d.vals.length ≤ 1000000 := by omega
  have HAP : Hid ((Value.slice q.ka q.d.keys.length q.kc).ownBlock = none ∨ (Value.slice q.ka q.d.keys.length q.kc).ownBlock ≠ (Value.slice q.va q.d.vals.length q.vc).ownBlock) := Lib.hid HOP8.out.2.2.1
  have HPA : Hid ((Value.slice q.va q.d.vals.length q.vc).ownBlock = none ∨ (Value.slice q.va q.d.vals.length q.vc).ownBlock ≠ (Value.slice q.ka q.d.keys.length q.kc).ownBlock) := Lib.hid (by
    rcases HOP8.out.2.2.1 with h | h
    · rcases Option.eq_none_or_eq_some (Value.slice q.va q.d.vals.length q.vc).ownBlock with e | ⟨x, e⟩
      · exact .inl e
      · exact .inr (by rw [e, h]; simp)
    · exact .inr (fun e => h e.symm))
  have hlt1 : ∀ b, (Value.slice q.ka q.d.keys.length q.kc).ownBlock = some b → b < W8.heap.size := fun b e => (World.ownsRow.lt HOP8.out.1 b e).2
  have hlt2 : ∀ b, (Value.slice q.va q.d.vals.length q.vc).ownBlock = some b → b < W8.heap.size := fun b e => (World.ownsRow.lt HOP8.out.2.1 b e).2
  have hgne1 : some g ≠ (Value.slice q.ka q.d.keys.length q.kc).ownBlock := by
    rcases own_apart HOWN8.out HOP8.out.1 with e | e
    · cases e
    · exact e
  have hgne2 : some g ≠ (Value.slice q.va q.d.vals.length q.vc).ownBlock := by
    rcases own_apart HOWN8.out HOP8.out.2.1 with e | e
    · cases e
    · exact e
  have HZ8 := Lib.hid (fun W (h : Below W8.heap.size W8 W) => Nat.le_trans hl2' h.size)
  have HZG := Lib.hid (fun W w2 r (h : Below W8.heap.size W8 W) (hg : W.grownBy w2 r) => fun W2 (h2 : Below w2.heap.size w2 W2) => Nat.le_trans (Nat.le_trans (Nat.le_trans hl2' h.size) hg.size) h2.size)
  have HFK : Hid (some W8.heap.size ≠ (Value.slice q.ka q.d.keys.length q.kc).ownBlock ∧ some (W8.heap.size + 1) ≠ (Value.slice q.ka q.d.keys.length q.kc).ownBlock) := Lib.hid ⟨fun e => by have := hlt1 _ e.symm; omega, fun e => by have := hlt1 _ e.symm; omega⟩
  have HFV : Hid (some W8.heap.size ≠ (Value.slice q.va q.d.vals.length q.vc).ownBlock ∧ some (W8.heap.size + 1) ≠ (Value.slice q.va q.d.vals.length q.vc).ownBlock) := Lib.hid ⟨fun e => by have := hlt2 _ e.symm; omega, fun e => by have := hlt2 _ e.symm; omega⟩
  -- the cells of the last block stay, whatever is done to rows of texts
  have HS0 := Lib.hid (fun W (h : Below W8.heap.size W8 W) => (⟨cellL h K1.out, cellL h K2.out⟩ : (W.cell? ⟨g, i * 3 + 1, none⟩ = some (.slice q.ka q.d.keys.length q.kc) ∧ W.cell? ⟨g, i * 3 + 2, none⟩ = some (.slice q.va q.d.vals.length q.vc))))
  have HSG : Hid ((∀ W w2, Below W8.heap.size W8 W → W.grownBy w2 (Value.slice q.ka q.d.keys.length q.kc).ownBlock → ∀ X, Below w2.heap.size w2 X → (X.cell? ⟨g, i * 3 + 1, none⟩ = some (.slice q.ka q.d.keys.length q.kc) ∧ X.cell? ⟨g, i * 3 + 2, none⟩ = some (.slice q.va q.d.vals.length q.vc))) ∧ (∀ W w2, Below W8.heap.size W8 W → W.grownBy w2 (Value.slice q.va q.d.vals.length q.vc).ownBlock → ∀ X, Below w2.heap.size w2 X → (X.cell? ⟨g, i * 3 + 1, none⟩ = some (.slice q.ka q.d.keys.length q.kc) ∧ X.cell? ⟨g, i * 3 + 2, none⟩ = some (.slice q.va q.d.vals.length q.vc)))) :=
    Lib.hid ⟨fun W w2 h hg X hx => ⟨cellL hx (cell_far2 h hg hgne1 K1.out), cellL hx (cell_far2 h hg hgne1 K2.out)⟩, fun W w2 h hg X hx => ⟨cellL hx (cell_far2 h hg hgne2 K1.out), cellL hx (cell_far2 h hg hgne2 K2.out)⟩⟩
  have HSH : Hid ((∀ w2 W w3, Below w2.heap.size w2 W → W.grownBy w3 (Value.slice q.ka q.d.keys.length q.kc).ownBlock → (∀ X, Below w2.heap.size w2 X → (X.cell? ⟨g, i * 3 + 1, none⟩ = some (.slice q.ka q.d.keys.length q.kc) ∧ X.cell? ⟨g, i * 3 + 2, none⟩ = some (.slice q.va q.d.vals.length q.vc))) → ∀ X, Below w3.heap.size w3 X → (X.cell? ⟨g, i * 3 + 1, none⟩ = some (.slice q.ka q.d.keys.length q.kc) ∧ X.cell? ⟨g, i * 3 + 2, none⟩ = some (.slice q.va q.d.vals.length q.vc))) ∧ (∀ w2 W w3, Below w2.heap.size w2 W → W.grownBy w3 (Value.slice q.va q.d.vals.length q.vc).ownBlock → (∀ X, Below w2.heap.size w2 X → (X.cell? ⟨g, i * 3 + 1, none⟩ = some (.slice q.ka q.d.keys.length q.kc) ∧ X.cell? ⟨g, i * 3 + 2, none⟩ = some (.slice q.va q.d.vals.length q.vc))) → ∀ X, Below w3.heap.size w3 X → (X.cell? ⟨g, i * 3 + 1, none⟩ = some (.slice q.ka q.d.keys.length q.kc) ∧ X.cell? ⟨g, i * 3 + 2, none⟩ = some (.slice q.va q.d.vals.length q.vc)))) :=
    Lib.hid ⟨fun w2 W w3 h hg hs X hx => ⟨cellL hx (cell_far2 h hg hgne1 (hs _ (Below.refl _ _)).1), cellL hx (cell_far2 h hg hgne1 (hs _ (Below.refl _ _)).2)⟩, fun w2 W w3 h hg hs X hx => ⟨cellL hx (cell_far2 h hg hgne2 (hs _ (Below.refl _ _)).1), cellL hx (cell_far2 h hg hgne2 (hs _ (Below.refl _ _)).2)⟩⟩
  have HNEK : Hid (∀ gg, ((Value.slice q.ka q.d.keys.length q.kc).ownBlock = some gg ∨ W8.heap.size ≤ gg) → (some gg = none ∨ some gg ≠ (Value.slice q.va q.d.vals.length q.vc).ownBlock)) := Lib.hid (fun gg h => .inr (fun e => by
    rcases h with h | h
    · rcases HAP.out with h2 | h2
      · rw [h2] at h; cases h
      · exact h2 (h.trans e)
    · have := hlt2 gg e.symm; omega))
  have HNEV : Hid (∀ gg, ((Value.slice q.va q.d.vals.length q.vc).ownBlock = some gg ∨ W8.heap.size ≤ gg) → (some gg = none ∨ some gg ≠ (Value.slice q.ka q.d.keys.length q.kc).ownBlock)) := Lib.hid (fun gg h => .inr (fun e => by
    rcases h with h | h
    · rcases HPA.out with h2 | h2
      · rw [h2] at h; cases h
      · exact h2 (h.trans e)
    · have := hlt1 gg e.symm; omega))
  clear k1 k2
  obtain ⟨k1, k2⟩ := HS0.out W8 (Below.refl _ _)
  have k1a := fun o => (HS0.out _ (bal (o := o) (Below.refl _ _))).1
  have k2a := fun o => (HS0.out _ (bal (o := o) (Below.refl _ _))).2
  have k1b := fun o o' => (HS0.out _ (bal (o := o') (bal (o := o) (Below.refl _ _)))).1
  have k2b := fun o o' => (HS0.out _ (bal (o := o') (bal (o := o) (Below.refl _ _)))).2
  have HFZ : Hid (∀ w3, Kp W8 w3 (Value.slice q.ka q.d.keys.length q.kc).ownBlock (Value.slice q.va q.d.vals.length q.vc).ownBlock → ∀ j, w3.frozen? ⟨g, j, none⟩ = false) := Lib.hid (fun w3 h j => h.frozen (World.block_lt_of_cell? _ _ K1.out) hgne1 hgne2 HFR8.out j)
  go_region_law
    (first
    | (refine step_appT _ (by rfl) (.tmp 77) (.tmp 79) 54 (by rfl) lo 9 i1 (.string ⟨#[]⟩) Tryd.underlying54 hj hy0 hy1 hy2 rfl (.slice q.ka q.d.keys.length q.kc) q.d.keys K (by rfl) ?_ ?_ hkl ?_ ?_; (refine HKO.out _ ?_; focus ((repeat (first | refine Below.drew ?_ | refine bal ?_ | exact Below.refl _ _)); done)); (first | exact ⟨_, rfl, new0 _ _ _⟩ | exact ⟨_, rfl, new1 _ _ _ _⟩ | exact ⟨_, rfl, new0s _ _ _ _⟩); (refine HZ8.out _ ?_; focus ((repeat (first | refine Below.drew ?_ | refine bal ?_ | exact Below.refl _ _)); done)); intro gK cK w2 hown2 hg2 hlie; have HOK := Lib.hid hown2; have HLK := Lib.hid (lie8 (w := W8) (by repeat (first | refine Below.drew ?_ | refine bal ?_ | exact Below.refl _ _)) hlie); have HGK := Lib.hid hg2; have HSG2 := Lib.hid (HSG.out.1 _ _ (by repeat (first | refine Below.drew ?_ | refine bal ?_ | exact Below.refl _ _)) hg2); have HZ2 := Lib.hid (HZG.out _ _ _ (by repeat (first | refine Below.drew ?_ | refine bal ?_ | exact Below.refl _ _)) hg2); have HXV := Lib.hid (OwnS.kept (HVO.out _ (by repeat (first | refine Below.drew ?_ | refine bal ?_ | exact Below.refl _ _))) hg2 HPA.out); obtain ⟨x1, x2⟩ := HSG2.out _ (Below.refl _ _); have x1a := fun o => (HSG2.out _ (bal (o := o) (Below.refl _ _))).1; have x2a := fun o => (HSG2.out _ (bal (o := o) (Below.refl _ _))).2; clear hown2 hg2 hlie)
    | (refine step_appT _ (by rfl) (.tmp 84) (.tmp 86) 54 (by rfl) lo 9 i1 (.string ⟨#[]⟩) Tryd.underlying54 hj hy0 hy1 hy2 rfl (.slice q.va q.d.vals.length q.vc) q.d.vals V (by rfl) ?_ ?_ hvl ?_ ?_; (refine HVO.out _ ?_; focus ((repeat (first | refine Below.drew ?_ | refine bal ?_ | exact Below.refl _ _)); done)); (first | exact ⟨_, rfl, new0 _ _ _⟩ | exact ⟨_, rfl, new1 _ _ _ _⟩ | exact ⟨_, rfl, new0s _ _ _ _⟩); (refine HZ8.out _ ?_; focus ((repeat (first | refine Below.drew ?_ | refine bal ?_ | exact Below.refl _ _)); done)); intro gV cV w2 hown2 hg2 hlie; have HOV := Lib.hid hown2; have HLV := Lib.hid (lie8 (w := W8) (by repeat (first | refine Below.drew ?_ | refine bal ?_ | exact Below.refl _ _)) hlie); have HGV := Lib.hid hg2; have HSG2 := Lib.hid (HSG.out.2 _ _ (by repeat (first | refine Below.drew ?_ | refine bal ?_ | exact Below.refl _ _)) hg2); have HZ2 := Lib.hid (HZG.out _ _ _ (by repeat (first | refine Below.drew ?_ | refine bal ?_ | exact Below.refl _ _)) hg2); have HXK := Lib.hid (OwnS.kept (HKO.out _ (by repeat (first | refine Below.drew ?_ | refine bal ?_ | exact Below.refl _ _))) hg2 HAP.out); obtain ⟨x1, x2⟩ := HSG2.out _ (Below.refl _ _); have x1a := fun o => (HSG2.out _ (bal (o := o) (Below.refl _ _))).1; have x2a := fun o => (HSG2.out _ (bal (o := o) (Below.refl _ _))).2; clear hown2 hg2 hlie)
    | (refine step_appT _ (by rfl) (.tmp 84) (.tmp 86) 54 (by rfl) lo 9 i1 (.string ⟨#[]⟩) Tryd.underlying54 hj hy0 hy1 hy2 rfl (.slice q.va q.d.vals.length q.vc) q.d.vals V (by rfl) ?_ ?_ hvl ?_ ?_; (refine OwnS.call HXV.out ?_; focus ((repeat (first | refine Below.drew ?_ | refine bal ?_ | exact Below.refl _ _)); done)); (first | exact ⟨_, rfl, new0 _ _ _⟩ | exact ⟨_, rfl, cellL (by repeat (first | refine Below.drew ?_ | refine bal ?_ | exact Below.refl _ _)) (cell_new2 HGK.out HFK.out.1 (new1 _ _ _ _))⟩ | exact ⟨_, rfl, cellL (by repeat (first | refine Below.drew ?_ | refine bal ?_ | exact Below.refl _ _)) (cell_new2 HGK.out HFK.out.2 (new0s _ _ _ _))⟩); (refine HZ2.out _ ?_; focus ((repeat (first | refine Below.drew ?_ | refine bal ?_ | exact Below.refl _ _)); done)); intro gV cV w3 hown3 hg3 hlie; have HOV := Lib.hid hown3; have HNQ := Lib.hid (apart2 (w2 := w2) (HNEK.out _ HLK.out) hlie (World.ownsRow.lt HOK.out _ rfl).2 (by repeat (first | refine Below.drew ?_ | refine bal ?_ | exact Below.refl _ _))); have HKP := Lib.hid ((kp_of (w := W8) (by repeat (first | refine Below.drew ?_ | refine bal ?_ | exact Below.refl _ _)) HGK.out (by repeat (first | refine Below.drew ?_ | refine bal ?_ | exact Below.refl _ _)) hg3)); have HSG3 := Lib.hid (HSH.out.2 _ _ _ (by repeat (first | refine Below.drew ?_ | refine bal ?_ | exact Below.refl _ _)) hg3 HSG2.out); have HY := Lib.hid (OwnS.kept (HOK.out.call (by repeat (first | refine Below.drew ?_ | refine bal ?_ | exact Below.refl _ _))) hg3 (HNEK.out _ HLK.out)); have f1 := HFZ.out _ HKP.out (i * 3 + 1); have f2 := HFZ.out _ HKP.out (i * 3 + 2); clear hown3 hg3 hlie x1a x2a x1 x2; obtain ⟨y1, y2⟩ := HSG3.out _ (Below.refl _ _); have y2a := fun u => cell_other (j := i * 3 + 1) y2 (by omega) u; have y1a := fun u => cell_other (j := i * 3 + 2) y1 (by omega) u)
    | (refine step_appT _ (by rfl) (.tmp 77) (.tmp 79) 54 (by rfl) lo 9 i1 (.string ⟨#[]⟩) Tryd.underlying54 hj hy0 hy1 hy2 rfl (.slice q.ka q.d.keys.length q.kc) q.d.keys K (by rfl) ?_ ?_ hkl ?_ ?_; (refine OwnS.call HXK.out ?_; focus ((repeat (first | refine Below.drew ?_ | refine bal ?_ | exact Below.refl _ _)); done)); (first | exact ⟨_, rfl, new0 _ _ _⟩ | exact ⟨_, rfl, cellL (by repeat (first | refine Below.drew ?_ | refine bal ?_ | exact Below.refl _ _)) (cell_new2 HGV.out HFV.out.1 (new1 _ _ _ _))⟩ | exact ⟨_, rfl, cellL (by repeat (first | refine Below.drew ?_ | refine bal ?_ | exact Below.refl _ _)) (cell_new2 HGV.out HFV.out.2 (new0s _ _ _ _))⟩); (refine HZ2.out _ ?_; focus ((repeat (first | refine Below.drew ?_ | refine bal ?_ | exact Below.refl _ _)); done)); intro gK cK w3 hown3 hg3 hlie; have HOK := Lib.hid hown3; have HNQ := Lib.hid (apart2 (w2 := w2) (HNEV.out _ HLV.out) hlie (World.ownsRow.lt HOV.out _ rfl).2 (by repeat (first | refine Below.drew ?_ | refine bal ?_ | exact Below.refl _ _))); have HKP := Lib.hid (Kp.symm (kp_of (w := W8) (by repeat (first | refine Below.drew ?_ | refine bal ?_ | exact Below.refl _ _)) HGV.out (by repeat (first | refine Below.drew ?_ | refine bal ?_ | exact Below.refl _ _)) hg3)); have HSG3 := Lib.hid (HSH.out.1 _ _ _ (by repeat (first | refine Below.drew ?_ | refine bal ?_ | exact Below.refl _ _)) hg3 HSG2.out); have HY := Lib.hid (OwnS.kept (HOV.out.call (by repeat (first | refine Below.drew ?_ | refine bal ?_ | exact Below.refl _ _))) hg3 (HNEV.out _ HLV.out)); have f1 := HFZ.out _ HKP.out (i * 3 + 1); have f2 := HFZ.out _ HKP.out (i * 3 + 2); clear hown3 hg3 hlie x1a x2a x1 x2; obtain ⟨y1, y2⟩ := HSG3.out _ (Below.refl _ _); have y2a := fun u => cell_other (j := i * 3 + 1) y2 (by omega) u; have y1a := fun u => cell_other (j := i * 3 + 2) y1 (by omega) u))
  all_goals
    clear y1 y2 y1a y2a f1 f2 k1 k2 k1a k2a k1b k2b
    go_wp2_with fail
    go_ret
    first
    | exact grow_post HB8.out hBw HIE.out hrb HBLK8.out HOWN8.out hl1 hl2' HROWS8.out rfl rfl HKP.out (by first | exact HOK.out | exact HY.out) (by first | exact HOV.out | exact HY.out) (by first | exact HNQ.out | exact HNQ.out.symm) h4 h5 (by rw [HQI.out, HADD.out])
    | (rw [setCell_swap _ _ _ _ (by omega)]; exact grow_post HB8.out hBw HIE.out hrb HBLK8.out HOWN8.out hl1 hl2' HROWS8.out rfl rfl HKP.out (by first | exact HOK.out | exact HY.out) (by first | exact HOV.out | exact HY.out) (by first | exact HNQ.out | exact HNQ.out.symm) h4 h5 (by rw [HQI.out, HADD.out]))
end Go.Proofs.YtekcmgajjbdmgabDoor
