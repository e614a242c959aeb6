/- The walk of the statement OutlineRows: a row of words is printed as one line each; read again it has these words, in order. -/
import Derived.Test.YtolbhhokpelchaaDoorMg6
import Derived.Test.YtolbhhokpelchaaDoorOtlL
import Derived.Test.YtolbhhokpelchaaDoorMg5
import Derived.Test.YtolbhhokpelchaaDoorLater
import Derived.Deep.RegionLaw
import Derived.RegionTactic
import Derived.BigRegion
import Derived.Deep.CutBlock
import Derived.Outline
import Derived.IntWalk
namespace Go.Proofs.YtolbhhokpelchaaDoor
open Go.RowKit

def wordQ (s : ByteArray) : NdAt := ⟨.mk 1 (cutN 205 s) [] [], none, 0, none, 0⟩
def rowQ (ss : List ByteArray) (ia : Option Addr) (ic : Nat) : NdAt := ⟨.mk 2 ⟨#[]⟩ [] ((ss.map wordQ).map (·.n)), none, 0, ia, ic⟩

set_option maxHeartbeats 6400000 in
set_option maxRecDepth 100000 in
theorem outlineRows_walk {w : World} (a0 : Option Addr) (n0 c0 : Nat) (ss : List ByteArray) (hs : ss.length = n0 ∧ HasStrs w a0 c0 ss) (hm : MaxC w) :
    Calls Tryd.prog 8 #[.slice a0 n0 c0] w (BoolW true w) := by
  obtain ⟨rfl, hs⟩ := hs
  obtain ⟨i0, hi, hz0, hz1, hz2⟩ := info_partsN Tryd.infoN
  have hmin : ∀ W (t : TypeId) (ts : Array TypeId), (Builtin.min_ ts t #[.int .i64 (ss.length : Int), .int .i64 66]).run Tryd.prog W = .ok (.int .i64 ((min ss.length 66 : Nat) : Int)) W := fun W t ts => run_minN W ts t ss.length 66
  obtain ⟨hl1, hl2, hl3, hl4⟩ := hs
  unfold maxLen at hl2
  have hmm : min ss.length 66 ≤ ss.length ∧ min ss.length 66 ≤ 66 := by omega
  obtain ⟨M, hM⟩ : ∃ M, min ss.length 66 = M := ⟨_, rfl⟩
  rw [hM] at hmin hmm
  obtain ⟨hm1, hm2⟩ := hmm
  have HM := Lib.hid hm
  have H3 := Lib.hid hl3
  have H4 := Lib.hid hl4
  clear hm hl3 hl4 hM
  go_enter Tryd.func8, Tryd.ntmps8
  go_upto_block 0 with fail
  have hN0 : NodeAt (w.alloc (.cells #[.int .i64 2, .string ⟨#[]⟩, .slice none 0 0, .slice none 0 0] 25)) (w.heap.size + 1) w.heap.size 2 [] [] none 0 none 0 :=
    ⟨Blk.new w _ _, World.ownsRow_nil _ _ _ _, World.ownsRow_nil _ _ _ _, fun s hs => absurd hs List.not_mem_nil, fun q hq => absurd hq List.not_mem_nil⟩
  have hb0 := below_al (o := .cells #[.int .i64 2, .string ⟨#[]⟩, .slice none 0 0, .slice none 0 0] 25) (Below.refl w.heap.size w)
  have hsz0 : (w.alloc (.cells #[.int .i64 2, .string ⟨#[]⟩, .slice none 0 0, .slice none 0 0] 25)).heap.size = w.heap.size + 1 := by simp
  generalize w.alloc (.cells #[.int .i64 2, .string ⟨#[]⟩, .slice none 0 0, .slice none 0 0] 25) = wx at *
  obtain ⟨g3, hg3⟩ : ∃ g, w.heap.size = g := ⟨_, rfl⟩
  have HG3 := Lib.hid hg3
  rw [hg3] at hN0 hsz0 ⊢
  clear hg3
  go_cut [] (fun wy => ∃ ia ic, NodeAt wy (g3 + 1) g3 2 [] ((ss.take M).map wordQ) none 0 ia ic ∧ Below w.heap.size w wy ∧ g3 + 1 ≤ wy.heap.size)
  case first =>
    go_wp2_with fail
    go_loopg [20, 5] M (fun gg iv _ wr => ∃ (k : Nat) (ia : Option Addr) (ic : Nat), k + gg = M ∧ iv = .int .i64 k ∧ NodeAt wr (g3 + 1) g3 2 [] ((ss.take k).map wordQ) none 0 ia ic ∧ Below w.heap.size w wr ∧ g3 + 1 ≤ wr.heap.size)
    case atStart => exact ⟨0, none, 0, by omega, rfl, hN0, hb0, Nat.le_of_eq hsz0.symm⟩
    case round =>
      clear hN0 hb0 hsz0
      obtain ⟨k, ia, ic, hkg, rfl, hN, hb, hgz⟩ := hrel
      cases gk with
      | zero =>
        obtain rfl : k = M := by omega
        go_wp2_with fail
        go_meet
        exact ⟨ia, ic, hN, hb, hgz⟩
      | succ gg =>
        have hkl : k < ss.length := by omega
        obtain ⟨b1, o1, rfl, hlt1, hcell⟩ : ∃ b off, a0 = some ⟨b, off, none⟩ ∧ b < w.heap.size ∧ w.cell? ⟨b, off + k, none⟩ = some (.string ss[k]) := by
          rcases H4.out with h | ⟨b, off, h1, h2, h3⟩
          · rw [h] at hkl; simp at hkl
          · exact ⟨b, off, h1, h2, h3 k hkl⟩
        have hc := cellL hb hcell
        have hsm : ss[k].size ≤ 9223372036854775807 := by
          have := H3.out ss[k] (List.getElem_mem hkl)
          unfold maxLen at this
          omega
        have hmin2 : ∀ W (t : TypeId) (ts : Array TypeId), (Builtin.min_ ts t #[.int .i64 (ss[k].size : Int), .int .i64 205]).run Tryd.prog W = .ok (.int .i64 ((min ss[k].size 205 : Nat) : Int)) W := fun W t ts => run_minN W ts t ss[k].size 205
        have hs2 := fun W => run_cutN (P := Tryd.prog) W 9 205 ss[k] Tryd.underlying9
        have hS := cutN_size 205 ss[k]
        have htk : (ss.take (k + 1)).map wordQ = (ss.take k).map wordQ ++ [wordQ ss[k]] := by rw [List.take_succ_eq_append_getElem hkl, List.map_append, List.map_cons, List.map_nil]
        have HTK := Lib.hid htk
        have hql : ((ss.take k).map wordQ).length = k := by rw [List.length_map, List.length_take]; omega
        have hwq : wordQ ss[k] = ⟨.mk 1 (cutN 205 ss[k]) [] [], none, 0, none, 0⟩ := rfl
        rw [hwq] at HTK
        generalize (ss.take k).map wordQ = qs at *
        generalize cutN 205 ss[k] = S at *
        generalize ss[k] = s at *
        generalize min s.size 205 = m2 at *
        have HB := Lib.hid hb
        have HQL := Lib.hid hql
        have HS := Lib.hid hS
        have hqb : qs.length ≤ 1000000 := by omega
        have HQB := Lib.hid hqb
        have HGZ := Lib.hid (show ∀ W, Below wr.heap.size wr W → g3 + 1 ≤ W.heap.size from fun W h => Nat.le_trans hgz h.size)
        have HOI := Lib.hid (show ∀ W, Below wr.heap.size wr W → OwnN W (g3 + 1) (.slice ia qs.length ic) qs from fun W h => hN.items.call h)
        have HP := Lib.hid (show ∀ (W : World) (ia2 : Option Addr) (ic2 : Nat) (w2 : World), Below wr.heap.size wr W → OwnN w2 (g3 + 1) (.slice ia2 (qs.length + 1) ic2) (qs ++ [⟨.mk 1 S [] [], none, 0, none, 0⟩]) → W.grownBy w2 (Value.slice ia qs.length ic).ownBlock → RowLies (.slice ia qs.length ic) (.slice ia2 (qs.length + 1) ic2) W.heap.size →
            Blk w2 g3 25 #[.int .i64 2, .string ⟨#[]⟩, .slice none 0 0, .slice ia qs.length ic] ∧ NodeAt (w2.setCell ⟨g3, 3, none⟩ (.slice ia2 (qs.length + 1) ic2)) (g3 + 1) g3 2 [] (qs ++ [⟨.mk 1 S [] [], none, 0, none, 0⟩]) none 0 ia2 ic2 ∧ Below w.heap.size w (w2.setCell ⟨g3, 3, none⟩ (.slice ia2 (qs.length + 1) ic2)) ∧ g3 + 1 ≤ (w2.setCell ⟨g3, 3, none⟩ (.slice ia2 (qs.length + 1) ic2)).heap.size from fun W ia2 ic2 w2 hW ho hg hl => by
          refine ⟨hN.blkI hW (Nat.lt_succ_self g3) hg, hN.pushItem hW (Nat.lt_succ_self g3) ho hg hl (.flat _ ⟨noStrs _, ?_, rfl, Nat.le_refl 0, Nat.zero_le _⟩ (fun h => absurd rfl h) rfl), below_setN ((hb.trans (hW.mono hb.size)).grown hg (Nat.le_trans hb.size hW.size) (fun k hk => ?_)) (Nat.le_of_eq HG3.out) _, ?_⟩
          · show S.size ≤ maxLen
            unfold maxLen
            omega
          · have := (ownN_ge hN.items hk).1
            have := HG3.out
            omega
          · have : (w2.setCell ⟨g3, 3, none⟩ (.slice ia2 (qs.length + 1) ic2)).heap.size = w2.heap.size := by simp [World.setCell]
            rw [this]
            exact Nat.le_trans hgz (Nat.le_trans hW.size hg.size))
        have c3 := hN.blk.cell 3
        have c3a := fun o => (hN.blk.alloc o).cell 3
        clear hcell hwq htk hN hb hlt1 hql hS hqb hsm hgz
        go_upto_region 5 with fail
        go_region_law (refine step_pushN _ (by rfl) (.tmp 25) (.tmp 32) 23 (by rfl) (g3 + 1) i0 ndZ Tryd.underlying23 hi hz0 hz1 hz2 rfl (.slice ia qs.length ic) qs ⟨.mk 1 S [] [], none, 0, none, 0⟩ (by rfl) ?_ ?_ HQB.out ?_ ?_; (refine HOI.out _ ?_; focus ((repeat (first | refine Below.drew ?_ | refine bal ?_ | exact Below.refl _ _)); done)); (first | exact ⟨_, rfl, Blk.new _ _ _⟩ | exact ⟨_, rfl, (Blk.new _ _ _).drew⟩); (refine HGZ.out _ ?_; focus ((repeat (first | refine Below.drew ?_ | refine bal ?_ | exact Below.refl _ _)); done)); intro ia2 ic2 w2 ho2 hg2 hl2; have HQ := Lib.hid (HP.out _ _ _ _ (by repeat (first | refine Below.drew ?_ | refine bal ?_ | exact Below.refl _ _)) ho2 hg2 hl2); have e3 := HQ.out.1.cell 3; have f3 := HQ.out.1.frozen 3; clear ho2 hg2 hl2)
        all_goals
          go_wp2_with fail
          go_roundg gg
          case measure => omega
          case rel => exact ⟨k + 1, ia2, ic2, by omega, by go_num, by rw [HTK.out]; exact HQ.out.2.1, HQ.out.2.2.1, HQ.out.2.2.2⟩
  case rest =>
  obtain ⟨ia, ic, hN, hbc, hgz⟩ := hcut
  clear hN0 hb0 hsz0 hmin hi hz0 hz1 hz2
  have hxs : ∀ x ∈ ((ss.take M).map wordQ).map (·.n), x.items.isEmpty = true ∧ x.kind = 1 := fun x hx => by
    obtain ⟨q, hq, rfl⟩ := List.mem_map.1 hx
    obtain ⟨s, _, rfl⟩ := List.mem_map.1 hq
    exact ⟨rfl, rfl⟩
  have hLl : ((ss.take M).map wordQ).length ≤ 66 := by rw [List.length_map, List.length_take]; omega
  generalize (ss.take M).map wordQ = qs at *
  obtain ⟨L, hL⟩ : ∃ L, qs.length = L := ⟨_, rfl⟩
  obtain ⟨XS, hXS⟩ : ∃ X, qs.map (·.n) = X := ⟨_, rfl⟩
  have hXL : XS.length = L := by rw [← hXS, List.length_map, hL]
  have hnode := hN.node rfl
  rw [hXS] at hnode hxs
  have hqo := hnode.ok
  have hk3 := hN.blk
  rw [hL] at hk3 hLl
  obtain ⟨N, hNd⟩ : ∃ N, Nd.mk 2 ⟨#[]⟩ [] XS = N := ⟨_, rfl⟩
  have hN1 : N.kind = 2 := by rw [← hNd]; rfl
  have hN2 : N.word = ⟨#[]⟩ := by rw [← hNd]; rfl
  have hN3 : N.names = [] := by rw [← hNd]; rfl
  have hN4 : N.items = XS := by rw [← hNd]; rfl
  rw [hNd] at hqo
  have hPR := oPrint_any _ _ hqo
  have hRG := fun W (h : Below wc.heap.size wc W) => oRight_any _ W (hqo.call h)
  unfold PrintP at hPR
  simp only [nCells, hN1, hN2, hN3, hN4, hXL, List.length_nil] at hPR hRG
  have HPR := Lib.hid hPR
  have HRG := Lib.hid hRG
  have HQO := Lib.hid hqo
  have HXS := Lib.hid hxs
  have HN4 := Lib.hid hN4
  have HXL := Lib.hid hXL
  have HBC := Lib.hid hbc
  have HAL := Lib.hid (fun W (h : Below w.heap.size w W) => alive_any W (HM.out.call h))
  have hPE : Hid (∀ h : printE N ≠ 0, L = 0 ∨ nodeC N = false ∨ L ≠ 0 ∧ nodeC N = true ∧ printE N = 2) := Lib.hid (fun h => by
    by_cases h0 : L = 0
    · exact .inl h0
    · right
      cases hc : nodeC N with
      | false => exact .inl rfl
      | true =>
        refine .inr ⟨h0, rfl, ?_⟩
        unfold printE at h ⊢
        rw [if_neg (by rw [hc, hN4, hXL]; simp [h0])] at h ⊢
        split at h
        · exact absurd rfl h
        · rw [if_neg (by assumption)])
  have HPP := Lib.hid (fun h : printE N = 0 => printS_parse h)
  have HCN := Lib.hid (fun h : printE N = 0 => rows_count h (by rw [hN4]; exact fun x hx => (hxs x hx).1))
  have HNK := Lib.hid (show N.kind = 2 ∧ N.word = ⟨#[]⟩ ∧ N.names = [] from ⟨hN1, hN2, hN3⟩)
  clear hN hnode hqo hPR hRG hxs hXS hbc hNd hN1 hN2 hN3 hN4 hXL hL
  obtain ⟨E, hE⟩ : ∃ E, printE N = E := ⟨_, rfl⟩
  obtain ⟨T, hT⟩ : ∃ T, printS N = T := ⟨_, rfl⟩
  rw [hE, hT] at HPR
  rw [hE] at hPE
  rw [hE, hT] at HPP HCN
  clear hE hT
  obtain ⟨c0, c1, c2, c3⟩ := hk3.cells4
  by_cases hE0 : E = 0
  case neg =>
    have e0 : (E != 0) = true := bne_iff_ne.2 hE0
    rcases hPE.out hE0 with h0 | h0 | ⟨h0, h1, rfl⟩
    · have l0 : ((L : Int) == 0) = true := by rw [h0]; rfl
      clear h0 hE0
      go_wp2_with (first
        | (go_at_call 11; refine HPR.out.mono ?_; rintro e w2 ⟨rfl, hb2⟩; have hB2 := bthen HBC.out hb2)
        | (go_at_call 10; refine (HAL.out _ hB2).mono ?_; rintro e w4 ⟨rfl, hb4⟩; obtain ⟨d0, d1, d2, d3⟩ := (hk3.call (bthen hb2 hb4)).cells4))
      go_ret
      exact ⟨rfl, bthen hB2 hb4⟩
    · by_cases hl0 : L = 0
      · have l0 : ((L : Int) == 0) = true := by rw [hl0]; rfl
        clear h0 hE0 hl0
        go_wp2_with (first
          | (go_at_call 11; refine HPR.out.mono ?_; rintro e w2 ⟨rfl, hb2⟩; have hB2 := bthen HBC.out hb2)
          | (go_at_call 10; refine (HAL.out _ hB2).mono ?_; rintro e w4 ⟨rfl, hb4⟩; obtain ⟨d0, d1, d2, d3⟩ := (hk3.call (bthen hb2 hb4)).cells4))
        go_ret
        exact ⟨rfl, bthen hB2 hb4⟩
      · have l0 : ((L : Int) == 0) = false := beq_eq_false_iff_ne.2 (by omega)
        rw [h0] at HRG
        clear h0 hE0 hl0
        go_wp2_with (first
          | (go_at_call 11; refine HPR.out.mono ?_; rintro e w2 ⟨rfl, hb2⟩; have hB2 := bthen HBC.out hb2)
          | (go_at_call 10; refine (HAL.out _ hB2).mono ?_; rintro e w4 ⟨rfl, hb4⟩; obtain ⟨d0, d1, d2, d3⟩ := (hk3.call (bthen hb2 hb4)).cells4)
          | (go_at_call 12; refine (HRG.out _ (bthen hb2 hb4)).mono ?_; rintro e w5 ⟨rfl, hb5⟩))
        go_ret
        exact ⟨rfl, bthen (bthen hB2 hb4) hb5⟩
    · have l0 : ((L : Int) == 0) = false := beq_eq_false_iff_ne.2 (by omega)
      rw [h1] at HRG
      clear h0 hE0 h1
      go_wp2_with (first
        | (go_at_call 11; refine HPR.out.mono ?_; rintro e w2 ⟨rfl, hb2⟩; have hB2 := bthen HBC.out hb2)
        | (go_at_call 10; refine (HAL.out _ hB2).mono ?_; rintro e w4 ⟨rfl, hb4⟩; obtain ⟨d0, d1, d2, d3⟩ := (hk3.call (bthen hb2 hb4)).cells4)
        | (go_at_call 12; refine (HRG.out _ (bthen hb2 hb4)).mono ?_; rintro e w5 ⟨rfl, hb5⟩))
      go_ret
      exact ⟨rfl, bthen (bthen hB2 hb4) hb5⟩
  case pos =>
  subst hE0
  have hpp := HPP.out rfl
  have hcn := HCN.out rfl
  have HPA := Lib.hid (show ∀ W, Below w.heap.size w W → Calls Tryd.prog 17 #[.string T] W fun e w' => ∃ q : NdAt, q.n = N ∧ q.ok w' ∧ e = .returned (.tuple #[.agg (nCells q), .int .i64 0, .int .i64 0]) ∧ Below W.heap.size W w' from fun W h => (oParse_any T W (HM.out.call h)).mono fun e w' ⟨h1, q, h2, h3, h4⟩ => by
    rw [hpp] at h2 h4
    exact ⟨q, h2, h3, h4, h1⟩)
  clear hPE HPP HCN hpp
  go_upto_region 10 with (go_at_call 11; refine HPR.out.mono ?_; rintro e w2 ⟨rfl, hb2⟩; have hB2 := bthen HBC.out hb2)
  go_upto_region 11 with (go_at_call 17; refine (HPA.out _ hB2).mono ?_; rintro e w3 ⟨⟨m, ma, mc, ja, jc⟩, hqm, hqp, rfl, hb3⟩)
  try dsimp only at hqm
  subst hqm
  have hB8 := Blk.new w3 25 #[.int .i64 m.kind, .string m.word, .slice ma m.names.length mc, .slice ja m.items.length jc]
  have hb8 := below_al (o := .cells #[.int .i64 m.kind, .string m.word, .slice ma m.names.length mc, .slice ja m.items.length jc] 25) (Below.refl w3.heap.size w3)
  have hqp8 := hqp.call hb8
  have hb9 := bthen (bthen hb2 hb3) hb8
  have hk9 := hk3.call hb9
  have HB9 := Lib.hid (bthen HBC.out hb9)
  have hq9 := HQO.out.call hb9
  have hpl := hqp8.place
  have hpl9 := hq9.place
  have hjc := hqp8.head.2.2.2
  have hic9 := hq9.head.2.2.2
  generalize w3.alloc (.cells #[.int .i64 m.kind, .string m.word, .slice ma m.names.length mc, .slice ja m.items.length jc] 25) = w8 at *
  obtain ⟨g8, hg8⟩ : ∃ g, w3.heap.size = g := ⟨_, rfl⟩
  rw [hg8] at hB8 ⊢
  obtain rfl := HN4.out
  unfold maxLen at hjc hic9
  simp only [HNK.out.1, HNK.out.2.1, HNK.out.2.2, HXL.out, List.length_nil] at hB8 hjc hic9
  obtain ⟨hjc1, hjc2⟩ := hjc
  obtain ⟨hic1, hic2⟩ := hic9
  have HJ := Lib.hid hpl
  have HI := Lib.hid hpl9
  clear hpl hpl9 hg8 hqp hb3 hb2 hb8 hb9 hqp8 hq9 HQO HRG HPR HNK HN4 hB2 c0 c1 c2 c3 HPA hk3 HBC
  have HCT := Lib.hid (fun x => calls_later_same (show Calls Tryd.prog 28 #[.string T, .string ⟨#[10]⟩] (later w8 x) (fun e w' => e = .returned (.int .i64 (L : Int)) ∧ later w8 x = w') from (Tryd.strings_Count_one T 10 (later w8 x)).mono fun e w' ⟨h1, h2⟩ => ⟨by
    rw [h1]
    have : Lib.countByte T.data.toList 10 = L := by rw [Lib.countByte, hcn, HXL.out]
    rw [this], h2.symm⟩))
  have HA2 := Lib.hid (fun x => calls_later (HAL.out (later w8 x) (bthen HB9.out (later_below w8 x))))
  have e3l := fun x => later_cell (hk9.cell 3) x
  have z3l := fun x => later_cell (hB8.cell 3) x
  have hLL : ((L : Int) != (L : Int)) = false := by simp
  clear hcn HAL
  refine wp_region_later (by kernel_rfl) (by kernel_rfl) ?_
  repeat (go_big_quiet_step (first | (go_at_call 28; with_reducible exact HCT.out _) | (go_at_call 10; with_reducible exact HA2.out _)))
  refine wpQuiet_nil ?_
  rintro _ ⟨x, rfl⟩
  have hbx := later_below w8 x
  have HBX := Lib.hid (bthen HB9.out hbx)
  have hkx := hk9.call hbx
  have hBx := hB8.call hbx
  have HLB := Lib.hid hbx
  generalize later w8 x = wz at *
  clear e3l z3l hk9 hB8 HCT HA2 hLL HB9 hbx
  obtain ⟨c0, c1, c2, c3⟩ := hBx.cells4
  go_wp2_with fail
  go_loopg [91, 11, 12] L (fun gg iv _ _ wr => ∃ k : Nat, k + gg = L ∧ iv = .int .i64 k ∧ Below wz.heap.size wz wr)
  case atStart => exact ⟨0, by omega, rfl, Below.refl _ _⟩
  case round =>
    obtain ⟨k, hkg, rfl, hbr⟩ := hrel
    cases gk with
    | zero =>
      obtain rfl : k = L := by omega
      go_wp2_with fail
      go_ret
      exact ⟨rfl, bthen HBX.out hbr⟩
    | succ gg =>
      have hkl : k < m.items.length := by rw [HXL.out]; omega
      have hb8r := bthen HLB.out hbr
      obtain ⟨b2, o2, rfl, r, hrn, hrl⟩ : ∃ b off, ja = some ⟨b, off, none⟩ ∧ ∃ r : NdAt, r.n = m.items[k] ∧ r.lies w8 b (off + k * 4) := by
        rcases HJ.out with h | ⟨b, off, h1, _, h3⟩
        · rw [h] at hkl; simp at hkl
        · obtain ⟨r, e1, e2, _⟩ := h3 k hkl
          exact ⟨b, off, h1, r, e1, e2⟩
      obtain ⟨b1, o1, rfl, s, hsn, hsl⟩ : ∃ b off, ia = some ⟨b, off, none⟩ ∧ ∃ r : NdAt, r.n = m.items[k] ∧ r.lies w8 b (off + k * 4) := by
        rcases HI.out with h | ⟨b, off, h1, _, h3⟩
        · rw [h] at hkl; simp at hkl
        · obtain ⟨r, e1, e2, _⟩ := h3 k hkl
          exact ⟨b, off, h1, r, e1, e2⟩
      have hkd := (HXS.out _ (List.getElem_mem hkl)).2
      obtain ⟨r, ra, rc, qa, qc⟩ := r
      dsimp only at hrn
      subst hrn
      obtain ⟨y0, y1, y2, y3⟩ := hsl
      rw [hsn] at y1
      obtain ⟨x0, x1, x2, x3⟩ := hrl.call hb8r
      have y1r := cellL hb8r y1
      generalize hnk : m.items[k] = rn at *
      clear hnk hrl hsn y0 y1 y2 y3
      have hbn := below_al (o := .cells #[.int .i64 rn.kind, .string rn.word, .slice ra rn.names.length rc, .slice qa rn.items.length qc] 25) (Below.refl wr.heap.size wr)
      have hB12 := Blk.new wr 25 #[.int .i64 rn.kind, .string rn.word, .slice ra rn.names.length rc, .slice qa rn.items.length qc]
      have hkr := hkx.call hbr
      have hBr := hBx.call hbr
      obtain ⟨z0, z1, z2, z3⟩ := hBr.cells4
      have hkn := hkr.call hbn
      have y1n := cellL hbn y1r
      have hww : (!(rn.word.toList == rn.word.toList)) = false := by simp
      have hkk : (rn.kind != 1) = false := by rw [hkd]; rfl
      clear hkd hb8r
      simp only at *
      go_upto_region 16 with fail
      generalize wr.alloc (.cells #[.int .i64 rn.kind, .string rn.word, .slice ra rn.names.length rc, .slice qa rn.items.length qc] 25) = wn at *
      obtain ⟨g12, hg12⟩ : ∃ g, wr.heap.size = g := ⟨_, rfl⟩
      have HBN := Lib.hid (bthen hbr hbn)
      rw [hg12] at hB12 ⊢
      clear hg12 hbn hbr x0 x1 x2 x3 z0 z1 z2 z3 y1r hkr hBr
      have q0 := fun x => later_cell (hB12.cell 0) x
      have q1 := fun x => later_cell (hB12.cell 1) x
      have q3 := fun x => later_cell (hkn.cell 3) x
      have qw := fun x => later_cell y1n x
      refine wp_region_later (by kernel_rfl) (by kernel_rfl) ?_
      repeat (go_big_quiet_step (fail))
      refine wpQuiet_nil ?_
      rintro _ ⟨x, rfl⟩
      have hbq := bthen HBN.out (later_below wn x)
      generalize later wn x = w16 at *
      go_wp2_with fail
      go_roundg gg
      case measure => omega
      case rel => exact ⟨k + 1, by omega, by go_num, hbq⟩
end Go.Proofs.YtolbhhokpelchaaDoor
