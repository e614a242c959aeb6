/- The walk of the statement OutlinePrints: which nodes may be, the text of any one, and whether two are like, is as the document says, or refused. -/
import Derived.Test.YtolbhhokpelchaaDoorMg5
import Derived.Test.YtolbhhokpelchaaDoorMg6
import Derived.Test.YtolbhhokpelchaaDoorOtlL
import Derived.Test.YtolbhhokpelchaaDoorMg7
import Derived.Deep.CutBlock
import Derived.IntWalk
namespace Go.Proofs.YtolbhhokpelchaaDoor
open Go.RowKit

theorem hdNm_len {n : Nd} (h : partsC n = true) (j : Nat) (hj : j < n.items.length) : (hdNm n.kind (nmAt n.names j)).length ≤ 65 := by
  unfold hdNm
  by_cases h3 : n.kind = 3
  · rw [if_pos h3]
    have hl : j < n.names.length := by rw [partsC_names h h3]; exact hj
    have e : nmAt n.names j = n.names[j] := by simp [nmAt, hl]
    have := (bwC_size (partsC_name h h3 j hl)).2
    rw [e, List.length_append, lenB]
    show n.names[j].size + 1 ≤ 65
    omega
  · rw [if_neg h3]
    show 1 ≤ 65
    omega
/-- a node's text has so many bytes at most -/
theorem linesT_bound : ∀ (s : Nat) (n : Nd) (d : Nat), rightD s n = true → d + s ≤ 12 → (n.linesT d).length ≤ 600 * countL n.items
  | 0, n, d, h, _ => by cases h
  | s + 1, n, d, h, hd => by
    have ihs := linesT_bound s
    obtain ⟨hp, s', e, hkids⟩ := rightD_parts h
    obtain rfl : s = s' := by omega
    have go : ∀ g j, j + g = n.items.length → (linesLs n.kind (n.names.drop j) (n.items.drop j) d).length ≤ 600 * countL (n.items.drop j) := by
      intro g
      induction g with
      | zero =>
        intro j hj
        rw [List.drop_of_length_le (l := n.items) (by omega), linesLs_nil]
        exact Nat.zero_le _
      | succ g ih =>
        intro j hj
        have hjl : j < n.items.length := by omega
        have hx : rightD s n.items[j] = true := hkids _ (List.getElem_mem hjl)
        have hpx := (rightD_parts hx).1
        have h1 := ih (j + 1) (by omega)
        have h2 := ihs n.items[j] (d + 1) hx (by omega)
        have h3 := hdNm_len hp j hjl
        have h4 := flatT_len n.items[j]
        have h5 := partsC_word hpx
        have h6 := Nd.count_eq n.items[j]
        have e1 : (n.names.drop j).headD ⟨#[]⟩ = nmAt n.names j := by rw [nmAt, List.headD_eq_head?_getD, List.head?_drop]
        rw [List.drop_eq_getElem_cons hjl, linesLs_cons, e1, List.tail_drop, List.length_append]
        have h7 : (itemT n.kind (nmAt n.names j) n.items[j] d).length ≤ 600 * (n.items[j]).count := by
          simp only [itemT, behT, List.length_append, List.length_replicate]
          split
          · simp only [List.length_cons, List.length_append, List.length_nil, lenB]
            omega
          · simp only [List.length_cons]
            omega
        have h8 : countL (n.items[j] :: n.items.drop (j + 1)) = (n.items[j]).count + countL (n.items.drop (j + 1)) := by simp [countL]
        rw [h8]
        omega
    have := go n.items.length 0 (by omega)
    rw [linesT_eq]
    simpa using this

set_option maxHeartbeats 12800000 in
set_option maxRecDepth 100000 in
theorem outlinePrints_walk {w : World} (q : NdAt) (hq : q.ok w) (p : NdAt) (hp : p.ok w) (hm : MaxC w) :
    Calls Tryd.prog 3 #[.agg (nCells q), .agg (nCells p)] w (BoolW true w) := by
  have HA := Lib.hid (fun W (h : Below w.heap.size w W) => alive_any W (hm.call h))
  have HM := Lib.hid (fun W (h : Below w.heap.size w W) => many_any hq W 300 h (by omega))
  have HM2 := Lib.hid (fun W (h : Below w.heap.size w W) => many_any hp W 300 h (by omega))
  have HPW := Lib.hid (fun W (h : Below w.heap.size w W) => oPrint_any q W (hq.call h))
  have HRG := Lib.hid (fun W (h : Below w.heap.size w W) => oRight_any q W (hq.call h))
  have HRR := Lib.hid (fun W (h : Below w.heap.size w W) => rRightN_any q W (hq.call h))
  have HLK := Lib.hid (fun W (h : Below w.heap.size w W) => oLikeN_any hq p W (hp.call h) h)
  have HLQ := Lib.hid (fun W (h : Below w.heap.size w W) => oLikeN_any hq q W (hq.call h) h)
  rw [likeN_yes (rfl : q.n = q.n)] at HLQ
  have HLR := Lib.hid (fun W (h : Below w.heap.size w W) => rLikeN_any hq p W (hp.call h) h)
  have HLI := Lib.hid (rLines_any hq)
  have hb := below_al (o := .cells (nCells q) 25) (Below.refl w.heap.size w)
  have hb2 := below_al (o := .cells (nCells p) 25) hb
  have hB := (Blk.new w 25 (nCells q)).alloc (.cells (nCells p) 25)
  have hP := nbK w (.cells (nCells q) 25) (nCells p) 25
  clear hm hq hp hb
  obtain ⟨n, na, nc, ia, ic⟩ := q
  obtain ⟨m, ma, mc, ja, jc⟩ := p
  simp only [nCells] at *
  have HMa := Lib.hid (fun W h => show Calls Tryd.prog 9 #[.agg #[.int .i64 n.kind, .string n.word, .slice na n.names.length nc, .slice ia n.items.length ic], .int .i64 300] W (ManyP ⟨n, na, nc, ia, ic⟩ 300 W) from HM.out W h)
  have HMb := Lib.hid (fun W h => show Calls Tryd.prog 9 #[.agg #[.int .i64 m.kind, .string m.word, .slice ma m.names.length mc, .slice ja m.items.length jc], .int .i64 300] W (ManyP ⟨m, ma, mc, ja, jc⟩ 300 W) from HM2.out W h)
  clear HM HM2
  go_enter Tryd.func3, Tryd.ntmps3
  go_upto_region 1 with fail
  have HB0 := Lib.hid hb2
  obtain ⟨g, hg⟩ : ∃ g, w.heap.size = g := ⟨_, rfl⟩
  generalize (w.alloc (.cells #[.int .i64 n.kind, .string n.word, .slice na n.names.length nc, .slice ia n.items.length ic] 25)).alloc (.cells #[.int .i64 m.kind, .string m.word, .slice ma m.names.length mc, .slice ja m.items.length jc] 25) = wx at *
  rw [hg] at hB hP ⊢
  clear hg hb2
  obtain ⟨c0, c1, c2, c3⟩ := hB.cells4
  go_upto_region 3 with (first
    | (go_at_call 9; (with_reducible refine (HMa.out _ HB0.out).mono ?_); rintro e w1 ⟨z, rfl, hz1, hz2, hz3, hb1⟩; have HB1 := Lib.hid (bthen HB0.out hb1); have HBX1 := Lib.hid hb1; obtain ⟨d0, d1, d2, d3⟩ := (hP.call hb1).cells4; obtain ⟨c0', c1', c2', c3'⟩ := (hB.call hb1).cells4)
    | (go_at_call 9; (with_reducible refine (HMb.out _ HB1.out).mono ?_); rintro e w2 ⟨y, rfl, hy1, hy2, hy3, hb2⟩; have HB2 := Lib.hid (bthen HB1.out hb2))
    | (go_at_call 10; (with_reducible refine (HA.out _ (by first | exact HB2.out | exact HB1.out)).mono ?_); rintro e w3 ⟨rfl, hb3⟩))
  · go_ret
    exact ⟨rfl, bthen HB2.out hb3⟩
  rotate_left
  · go_ret
    exact ⟨rfl, bthen HB1.out hb3⟩
  have hct : n.count ≤ 300 := by
    have := hz3 (by omega)
    try dsimp only at this
    omega
  clear c0 c1 c2 c3 c0' c1' c2' c3' d0 d1 d2 d3 hz1 hz2 hz3 hy1 hy2 hy3 HMa HMb
  have HK2 := Lib.hid (fun W (h : Below w2.heap.size w2 W) => hB.call (bthen HBX1.out (bthen hb2 h)))
  have HP2 := Lib.hid (fun W (h : Below w2.heap.size w2 W) => hP.call (bthen HBX1.out (bthen hb2 h)))
  obtain ⟨c0, c1, c2, c3⟩ := (HK2.out w2 (Below.refl _ _)).cells4
  have HPR := Lib.hid (show Calls Tryd.prog 11 #[.agg #[.int .i64 n.kind, .string n.word, .slice na n.names.length nc, .slice ia n.items.length ic]] w2 (fun e w' => e = .returned (.tuple #[.string (printS n), .int .i64 (printE n)]) ∧ Below w2.heap.size w2 w') from HPW.out w2 HB2.out)
  obtain ⟨E1, hE1⟩ : ∃ E, printE n = E := ⟨_, rfl⟩
  obtain ⟨S1, hS1⟩ : ∃ S, printS n = S := ⟨_, rfl⟩
  rw [hE1, hS1] at HPR
  go_upto_region 4 with (go_at_call 11; refine HPR.out.mono ?_; rintro e w3 ⟨rfl, hb3⟩)
  have HB3 := Lib.hid (bthen HB2.out hb3)
  have HK3 := Lib.hid (fun W (h : Below w3.heap.size w3 W) => HK2.out W (bthen hb3 h))
  have HP3 := Lib.hid (fun W (h : Below w3.heap.size w3 W) => HP2.out W (bthen hb3 h))
  obtain ⟨C, hC⟩ : ∃ C, nodeC n = C := ⟨_, rfl⟩
  obtain ⟨X, hX⟩ : ∃ X, likeN n m = X := ⟨_, rfl⟩
  have HG1 : Hid (∀ W, Below w3.heap.size w3 W → Calls Tryd.prog 12 #[.agg #[.int .i64 n.kind, .string n.word, .slice na n.names.length nc, .slice ia n.items.length ic]] W (BoolW C W)) := Lib.hid (fun W h => by rw [← hC]; exact HRG.out W (bthen HB3.out h))
  have HG2 : Hid (∀ W, Below w3.heap.size w3 W → Calls Tryd.prog 13 #[.agg #[.int .i64 n.kind, .string n.word, .slice na n.names.length nc, .slice ia n.items.length ic]] W (BoolW C W)) := Lib.hid (fun W h => by rw [← hC]; exact HRR.out W (bthen HB3.out h))
  have HG3 : Hid (∀ W, Below w3.heap.size w3 W → Calls Tryd.prog 14 #[.agg #[.int .i64 n.kind, .string n.word, .slice na n.names.length nc, .slice ia n.items.length ic], .agg #[.int .i64 m.kind, .string m.word, .slice ma m.names.length mc, .slice ja m.items.length jc]] W (BoolW X W)) := Lib.hid (fun W h => by rw [← hX]; exact HLK.out W (bthen HB3.out h))
  have HG4 : Hid (∀ W, Below w3.heap.size w3 W → Calls Tryd.prog 15 #[.agg #[.int .i64 n.kind, .string n.word, .slice na n.names.length nc, .slice ia n.items.length ic], .agg #[.int .i64 m.kind, .string m.word, .slice ma m.names.length mc, .slice ja m.items.length jc]] W (BoolW X W)) := Lib.hid (fun W h => by rw [← hX]; exact HLR.out W (bthen HB3.out h))
  have HG5 : Hid (∀ W, Below w3.heap.size w3 W → Calls Tryd.prog 14 #[.agg #[.int .i64 n.kind, .string n.word, .slice na n.names.length nc, .slice ia n.items.length ic], .agg #[.int .i64 n.kind, .string n.word, .slice na n.names.length nc, .slice ia n.items.length ic]] W (BoolW true W)) := Lib.hid (fun W h => HLQ.out W (bthen HB3.out h))
  have HG6 : Hid (∀ W, Below w3.heap.size w3 W → Calls Tryd.prog 10 #[] W (BoolW true W)) := Lib.hid (fun W h => HA.out W (bthen HB3.out h))
  have hLB : C = true → (n.linesT 0).length ≤ 10000000 := fun h => by
    have h1 := linesT_bound 8 n 0 (by show nodeC n = true; rw [hC, h]) (by omega)
    have h2 := Nd.count_eq n
    omega
  have HLI2 : Hid (C = true → ∀ W, Below w3.heap.size w3 W → Calls Tryd.prog 16 #[.agg #[.int .i64 n.kind, .string n.word, .slice na n.names.length nc, .slice ia n.items.length ic], .int .i64 0] W (StrB (bytesA (n.linesT 0)) W)) := Lib.hid (fun h W hw => HLI.out 0 8 W (by show nodeC n = true; rw [hC, h]) (by omega) (bthen HB3.out hw) (hLB h))
  have hF1 : C = false ∨ n.items.length = 0 → E1 = 1 ∧ S1 = ⟨#[]⟩ := fun h => by
    rw [← hE1, ← hS1]
    unfold printE printS
    rw [hC, if_pos h, if_pos h]
    exact ⟨rfl, rfl⟩
  have hF2 : C = true → n.items.length ≠ 0 → (E1 = 0 ∧ (n.linesT 0).length ≤ 8192 ∧ S1 = bytesA (n.linesT 0) ∨ E1 = 2 ∧ ¬ (n.linesT 0).length ≤ 8192 ∧ S1 = ⟨#[]⟩) := fun h h2 => by
    have hn : ¬ (C = false ∨ n.items.length = 0) := by rw [h]; simp [h2]
    rw [← hE1, ← hS1]
    unfold printE printS
    rw [hC, if_neg hn, if_neg hn]
    by_cases h8 : (n.linesT 0).length ≤ 8192
    · rw [if_pos h8, if_pos h8]
      exact .inl ⟨rfl, h8, rfl⟩
    · rw [if_neg h8, if_neg h8]
      exact .inr ⟨rfl, h8, rfl⟩
  have HF1 := Lib.hid hF1
  have HF2 := Lib.hid hF2
  clear hF1 hF2 hLB hC hX hE1 hS1 hct HRG HRR HLK HLQ HLR HLI HPW HPR hb3 hb2 hb1 HB1 HB0 HBX1 hB hP HK2 HP2 c0 c1 c2 c3 HA
  obtain ⟨c0, c1, c2, c3⟩ := (HK3.out w3 (Below.refl _ _)).cells4
  obtain ⟨d0, d1, d2, d3⟩ := (HP3.out w3 (Below.refl _ _)).cells4
  go_cut [45] (fun v wy => v = .bool false ∧ Below w3.heap.size w3 wy)
  case first =>
    have l0 := fun x => later_cell c0 x
    have l1 := fun x => later_cell c1 x
    have l2 := fun x => later_cell c2 x
    have l3 := fun x => later_cell c3 x
    have k0 := fun x => later_cell d0 x
    have k1 := fun x => later_cell d1 x
    have k2 := fun x => later_cell d2 x
    have k3 := fun x => later_cell d3 x
    have HL1 := Lib.hid (fun x => calls_later (HG1.out (later w3 x) (later_below _ _)))
    have HL2 := Lib.hid (fun x => calls_later (HG2.out (later w3 x) (later_below _ _)))
    have HL3 := Lib.hid (fun x => calls_later (HG3.out (later w3 x) (later_below _ _)))
    have HL4 := Lib.hid (fun x => calls_later (HG4.out (later w3 x) (later_below _ _)))
    have HL5 := Lib.hid (fun x => calls_later (HG5.out (later w3 x) (later_below _ _)))
    have HL6 := Lib.hid (fun x => calls_later (HG6.out (later w3 x) (later_below _ _)))
    clear c0 c1 c2 c3 d0 d1 d2 d3 HF1 HF2 HG1 HG2 HG3 HG4 HG5 HG6 HLI2 HK3 HP3
    cases C <;> cases X
    all_goals
      refine wp_region_later (by kernel_rfl) (by kernel_rfl) ?_
      repeat (go_big_quiet_step (first
        | (go_at_call 12; with_reducible exact HL1.out _)
        | (go_at_call 13; with_reducible exact HL2.out _)
        | (go_at_call 14; first | (with_reducible exact HL3.out _) | (with_reducible exact HL5.out _))
        | (go_at_call 15; with_reducible exact HL4.out _)
        | (go_at_call 10; with_reducible exact HL6.out _)))
      refine wpQuiet_nil ?_
      rintro _ ⟨x, rfl⟩
      have hbx := later_below w3 x
      generalize later w3 x = w4 at *
      go_wp2_with fail
      go_meet
      exact ⟨rfl, hbx⟩
  case rest =>
  obtain ⟨rfl, hbc⟩ := hcut
  have HBC := Lib.hid (bthen HB3.out hbc)
  clear c0 c1 c2 c3 d0 d1 d2 d3 HP3 HG1 HG3 HG4 HG5 HG6
  obtain ⟨c0, c1, c2, c3⟩ := (HK3.out wc hbc).cells4
  cases C with
  | false =>
    obtain ⟨rfl, rfl⟩ := HF1.out (.inl rfl)
    clear HF1 HF2 HLI2
    go_wp2_with (go_at_call 13; refine (HG2.out _ hbc).mono ?_; rintro e w5 ⟨rfl, hb5⟩)
    go_ret
    exact ⟨rfl, bthen HBC.out hb5⟩
  | true =>
  by_cases hi : n.items.length = 0
  case pos =>
    obtain ⟨rfl, rfl⟩ := HF1.out (.inr hi)
    have e0 : ((n.items.length : Int) == 0) = true := by rw [hi]; rfl
    clear HF1 HF2 HLI2 hi
    go_wp2_with (go_at_call 13; refine (HG2.out _ hbc).mono ?_; rintro e w5 ⟨rfl, hb5⟩; obtain ⟨x0, x1, x2, x3⟩ := (HK3.out _ (bthen hbc hb5)).cells4)
    go_ret
    exact ⟨rfl, bthen HBC.out hb5⟩
  case neg =>
  have e0 : ((n.items.length : Int) == 0) = false := beq_eq_false_iff_ne.2 (by omega)
  have hli := HLI2.out rfl
  rcases HF2.out rfl hi with ⟨rfl, h8, hS⟩ | ⟨rfl, h8, rfl⟩
  · obtain ⟨WT, hWT⟩ : ∃ X, bytesA (n.linesT 0) = X := ⟨_, rfl⟩
    rw [hWT] at hS hli
    have hz8 : WT.size ≤ 8192 := by rw [← hWT]; show (Array.size _) ≤ _; simp only [List.size_toArray]; exact h8
    have g1 : decide ((8192 : Int) < (WT.size : Int)) = false := decide_eq_false (by omega)
    have g2 : decide (8192 < WT.size) = false := decide_eq_false (by omega)
    have g3 : (WT.toList == WT.toList) = true := by simp
    subst hS
    have HLZ := Lib.hid hli
    clear HF1 HF2 HLI2 hi hli h8 hWT hz8
    go_wp2_with (first
      | (go_at_call 13; refine (HG2.out _ hbc).mono ?_; rintro e w5 ⟨rfl, hb5⟩; obtain ⟨x0, x1, x2, x3⟩ := (HK3.out _ (bthen hbc hb5)).cells4)
      | (go_at_call 16; refine (HLZ.out _ (bthen hbc hb5)).mono ?_; rintro e w6 ⟨rfl, hb6⟩))
    go_ret
    exact ⟨rfl, bthen HBC.out (bthen hb5 hb6)⟩
  · obtain ⟨WT, hWT⟩ : ∃ X, bytesA (n.linesT 0) = X := ⟨_, rfl⟩
    rw [hWT] at hli
    have hz8 : ¬ WT.size ≤ 8192 := by rw [← hWT]; show ¬ (Array.size _) ≤ _; simp only [List.size_toArray]; exact h8
    have g1 : decide ((8192 : Int) < (WT.size : Int)) = true := decide_eq_true (by omega)
    have g2 : decide (8192 < WT.size) = true := decide_eq_true (by omega)
    have HLZ := Lib.hid hli
    clear HF1 HF2 HLI2 hi hli h8 hWT hz8
    go_wp2_with (first
      | (go_at_call 13; refine (HG2.out _ hbc).mono ?_; rintro e w5 ⟨rfl, hb5⟩; obtain ⟨x0, x1, x2, x3⟩ := (HK3.out _ (bthen hbc hb5)).cells4)
      | (go_at_call 16; refine (HLZ.out _ (bthen hbc hb5)).mono ?_; rintro e w6 ⟨rfl, hb6⟩))
    go_ret
    exact ⟨rfl, bthen HBC.out (bthen hb5 hb6)⟩
end Go.Proofs.YtolbhhokpelchaaDoor
