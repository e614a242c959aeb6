/- The contract of label.New. -/
import Derived.Test.YtdlhmjdjoadioabGreatDoorMg7
import Derived.Test.YtdlhmjdjoadioabGreatDoorMg8
namespace Go.Proofs.YtdlhmjdjoadioabGreatDoor
open Go.RowKit

theorem Tryz.infoE : (Tryz.prog.info? 88).map (fun i => (i.zero, i.size, i.bytes)) = some (some (.agg #[.string ⟨#[]⟩, .string ⟨#[]⟩]), 2, 32) := by kernel_rfl
theorem lab_end (ls : List Lab) : ∃ J, J ≤ ls.length ∧ (∀ k (_h : k < J) (_h2 : k < ls.length), labC ls[k] = true) ∧ (J = ls.length ∧ ls.all labC = true ∨ ∃ hj : J < ls.length, labC ls[J] = false ∧ ls.all labC = false) := by
  by_cases h : ∀ i (hi : i < ls.length), labC ls[i] = true
  · refine ⟨ls.length, Nat.le_refl _, fun k hk _ => h k hk, .inl ⟨rfl, ?_⟩⟩
    rw [List.all_eq_true]
    intro l hl
    obtain ⟨i, hi, rfl⟩ := List.getElem_of_mem hl
    exact h i hi
  · obtain ⟨j, hj, hb, ha⟩ := first_not (fun k => if h : k < ls.length then labC ls[k] else true) ls.length (fun hall => h fun k hk => by
      have := hall k hk
      simpa [hk] using this)
    refine ⟨j, by omega, fun k hk h2 => by have := ha k hk; simpa [h2] using this, .inr ⟨hj, by simpa [hj] using hb, ?_⟩⟩
    rw [← Bool.not_eq_true, List.all_eq_true]
    intro hall
    have h1 := hall ls[j] (List.getElem_mem _)
    have h2 : labC ls[j] = false := by simpa [hj] using hb
    rw [h1] at h2; cases h2
theorem all_end {ls : List Lab} {J k : Nat} (hend : J = ls.length ∧ ls.all labC = true ∨ ∃ hj : J < ls.length, labC ls[J] = false ∧ ls.all labC = false) (hk : k ≤ J) (hkl : ¬ k < ls.length) : ls.all labC = true := by
  rcases hend with ⟨_, h⟩ | ⟨h, _⟩
  · exact h
  · omega

theorem new_long (a : Option Addr) (c : Nat) (ls : List Lab) (w : World) (_hcm : c ≤ maxLen) (_hlc : ls.length ≤ c) (h8 : ¬ ls.length ≤ 8) :
    Calls Tryz.prog 70 #[.slice a ls.length c] w (LabsE [] 2 w) := by
  unfold maxLen at _hcm
  go_enter Tryz.func70, Tryz.ntmps70
  go_wp2
  go_ret2
  exact labsE_nil (Below.refl _ _)
theorem new_none (a : Option Addr) (c : Nat) (w : World) (_hcm : c ≤ maxLen) :
    Calls Tryz.prog 70 #[.slice a 0 c] w (LabsE [] 0 w) := by
  unfold maxLen at _hcm
  have hsn := fun W => sort_none none 0 (.func (.func 59) #[] #[]) W
  have HSN := Lib.hid hsn
  clear hsn
  go_enter Tryz.func70, Tryz.ntmps70
  go_wp2
  refine wp_loop_rounds 1 ?_
  rw [rounds_succ]
  go_wp2_with (go_at_call 88; refine (HSN.out _).mono ?_; rintro e w2 ⟨rfl, rfl⟩)
  refine wp_loop_rounds 1 ?_
  rw [rounds_succ]
  go_wp2
  go_ret2
  exact labsE_nil (Below.refl _ _)

theorem newP_bad {ls : List Lab} (h8 : ls.length ≤ 8) (h : ls.all labC = false) : newP ls = ([], 1) := by
  rw [newP, if_pos h8, if_neg (by rw [h]; simp)]
theorem newP_twice {ls out : List Lab} (h8 : ls.length ≤ 8) (h : ls.all labC = true) (hp : out.Perm ls) (hs : WS out) (hr : rightC out = false) : newP ls = ([], 10) := by
  have := (sort_right hp hs (List.all_eq_true.1 h) h8).1
  rw [newP, if_pos h8, if_pos h, if_neg (by rw [← this, hr]; simp)]
theorem newP_ok {ls out : List Lab} (h8 : ls.length ≤ 8) (h : ls.all labC = true) (hp : out.Perm ls) (hs : WS out) (hr : rightC out = true) : newP ls = (out, 0) := by
  obtain ⟨h1, h2⟩ := sort_right hp hs (List.all_eq_true.1 h) h8
  rw [newP, if_pos h8, if_pos h, if_pos (by rw [← h1]; exact hr), h2 hr]

set_option maxHeartbeats 3200000 in
set_option maxRecDepth 100000 in
theorem new_some (b off c : Nat) (ls : List Lab) (w : World) (hne : ls ≠ []) (_h1 : ls.length ≤ c) (_h2 : c ≤ maxLen) (h3 : ∀ l ∈ ls, l.1.size ≤ maxLen ∧ l.2.size ≤ maxLen) (_hb : b < w.heap.size)
    (hcell : ∀ i (h : i < ls.length), w.cell? ⟨b, off + i * 2, none⟩ = some (.string ls[i].1) ∧ w.cell? ⟨b, off + i * 2 + 1, none⟩ = some (.string ls[i].2)) (h8 : ls.length ≤ 8) :
    Calls Tryz.prog 70 #[.slice (some ⟨b, off, none⟩) ls.length c] w (LabsE (newP ls).1 (newP ls).2 w) := by
  obtain ⟨i0, hi, hz0, hz1, hz2⟩ := info_partsL Tryz.infoL
  obtain ⟨i5, hi5, hy0, hy1, hy2⟩ := info_partsL Tryz.infoE
  unfold maxLen at _h2
  have hpos : 0 < ls.length := List.length_pos_iff.2 hne
  have HC := Lib.hid hcell
  have HM := Lib.hid (labs_sizes h3)
  have HS := Lib.hid h3
  clear hcell h3 hne
  obtain ⟨J, hJ, hok, hend⟩ := lab_end ls
  have HOK := Lib.hid hok
  have HE := Lib.hid hend
  clear hok hend
  go_enter Tryz.func70, Tryz.ntmps70
  go_wp2
  go_loopw [4, 15] (fun v i wr => ∃ k : Nat, k ≤ J ∧ i = .int .i64 k ∧ OwnL 88 wr w.heap.size v (ls.take k) ∧ Below w.heap.size w wr ∧ w.heap.size ≤ wr.heap.size) (fun _ i _ => ls.length - (intOf i).toNat)
  case atStart => exact ⟨0, Nat.zero_le _, rfl, OwnL.nil _ _ _, Below.refl _ _, Nat.le_refl _⟩
  case round =>
    obtain ⟨k, hk, rfl, hown, hbl, hz⟩ := hrel
    by_cases hkl : k < ls.length
    · have hc1 := cellLater hbl (HC.out k hkl).1
      have hc2 := cellLater hbl (HC.out k hkl).2
      obtain ⟨hm1, hm2⟩ := HM.out k hkl
      have hrl := fun W => rightLabel_any ls[k] W hm1 hm2
      have htk : ls.take (k + 1) = ls.take k ++ [ls[k]] := List.take_succ_eq_append_getElem hkl
      obtain ⟨X, hX⟩ : ∃ X, ls[k] = X := ⟨_, rfl⟩
      rw [hX] at hc1 hc2 hrl htk
      have hlen : (ls.take k).length ≤ 1000000 := by rw [List.length_take]; omega
      have HTK := Lib.hid htk
      have hlabX : labC ls[k] = labC X := by rw [hX]
      have HLX := Lib.hid hlabX
      obtain ⟨M, HMM⟩ : ∃ M, Hid (ls.take k = M) := ⟨_, Lib.hid rfl⟩
      rw [HMM.out] at hown hlen
      have hownW := hown.alloc (.cells #[.string X.1, .string X.2] 60)
      have hbW := hbl.alloc hz (.cells #[.string X.1, .string X.2] 60)
      have hzW := hbW.size
      have hbx := Blk.new wr 60 #[.string X.1, .string X.2]
      clear hX htk hlabX hown hbl hm1 hm2
      go_upto_region 7 with fail
      generalize wr.alloc (.cells #[.string X.1, .string X.2] 60) = W at *
      generalize wr.heap.size = B at *
      have q1 : W.cell? ⟨B, 0, none⟩ = some (.string X.1) := hbx.cell 0
      have q2 : W.cell? ⟨B, 1, none⟩ = some (.string X.2) := hbx.cell 1
      cases hlab : labC X with
      | false =>
        rw [hlab] at hrl
        have hall : ls.all labC = false := by
          rcases HE.out with ⟨rfl, h⟩ | ⟨hj, hq, h⟩
          · have := HOK.out k hkl hkl
            rw [HLX.out, hlab] at this; cases this
          · exact h
        have hP := newP_bad h8 hall
        have HP := Lib.hid hP
        have HRL := Lib.hid hrl
        clear hP hall hrl hlab
        go_wp2_with (go_at_call 58; refine (HRL.out _).mono ?_; rintro e w2 ⟨rfl, hb2⟩)
        go_ret2
        rw [HP.out]
        exact labsE_nil (hbW.trans (hb2.mono hzW))
      | true =>
        rw [hlab] at hrl
        have hJ1 : k < J := by
          rcases HE.out with ⟨rfl, h⟩ | ⟨hj, hq, h⟩
          · exact hkl
          · rcases Nat.lt_or_ge k J with h | h
            · exact h
            · obtain rfl : k = J := by omega
              rw [HLX.out, hlab] at hq; cases hq
        have HRL := Lib.hid hrl
        clear hrl hlab
        go_upto_region 9 with (go_at_call 58; refine (HRL.out _).mono ?_; rintro e w2 ⟨rfl, hb2⟩)
        have hown2 := hownW.call hb2
        have hbx2 := hbx.call hb2
        have hbW2 := hbW.trans (hb2.mono hzW)
        have hzW2 := hbW2.size
        clear hownW hbx hbW q1 q2 hzW
        have q1 : w2.cell? ⟨B, 0, none⟩ = some (.string X.1) := hbx2.cell 0
        have q2 : w2.cell? ⟨B, 1, none⟩ = some (.string X.2) := hbx2.cell 1
        go_wp2_with (at_builtin; refine (wpList_pushL w2 rfl _ _ 113 rfl w.heap.size 88 i5 (.agg #[.string ⟨#[]⟩, .string ⟨#[]⟩]) Tryz.underlying113 hi5 hy0 hy1 hy2 rfl u4 M X rfl hown2 [.string X.1, .string X.2] rfl rfl hlen hzW2 ?_))
        intro v3 w3 hown3 hg3
        have hb3 := hown2.grown hbW2 hzW2 hg3
        have hz3 := Nat.le_trans hzW2 hg3.size
        clear hown2 hbx2 hbW2 hzW2 hg3 q1 q2 hb2
        go_wp2
        go_roundw
        case rel => exact ⟨k + 1, by omega, by go_num, by rw [HTK.out, HMM.out]; exact hown3, hb3, hz3⟩
        case measure => simp [intOf]; omega
    · have hall := all_end HE.out hk hkl
      have htk : ls.take k = ls := List.take_of_length_le (by omega)
      rw [htk] at hown
      have HALL := Lib.hid hall
      clear htk hall hk
      obtain ⟨g, cap, hcap, rfl⟩ : ∃ g cap, cap ≤ maxLen ∧ u4 = .slice (some ⟨g, 0, none⟩) ls.length cap := by
        rcases hown.2 with ⟨_, h0⟩ | ⟨g, cap, cur, hv, _, _, _, hm, _⟩
        · omega
        · exact ⟨g, cap, hm, hv⟩
      have hso := sort_any w.heap.size g cap ls wr hown h8 HS.out
      have HSO := Lib.hid hso
      clear hso hown
      go_upto_region 12 with (go_at_call 88; refine HSO.out.mono ?_; rintro e w2 ⟨rfl, out, hp, hws, hL2, hb2, hz2⟩)
      have hbw2 := hbl.trans hb2
      have hzw2 := hbw2.size
      have hol : out.length = ls.length := hp.length_eq
      have hlabs : ∀ l ∈ out, labC l = true := fun l hl => List.all_eq_true.1 HALL.out l (hp.subset hl)
      obtain ⟨J2, hJ2, hok2, hend2⟩ := ws_adj hws hlabs (by omega)
      have HOK2 := Lib.hid hok2
      have HE2 := Lib.hid hend2
      have HP := Lib.hid hp
      have HW := Lib.hid hws
      have HL2 := Lib.hid hL2
      have hsz := hL2.2.2.1
      have HSZ := Lib.hid hsz
      have hla : ls.length ≤ out.length := by omega
      have hlb : out.length ≤ ls.length := by omega
      have hcap1 : ls.length ≤ cap := Nat.le_trans hla hL2.1
      clear hok2 hend2 hp hws hL2 hlabs hb2 hbl hz hz2 hsz hol HSO
      unfold maxLen at hcap
      go_wp2
      go_loopw [7, 31, 8] (fun v i _ w3 => ∃ k : Nat, k ≤ J2 ∧ i = .int .i64 k ∧ OwnL 60 w3 w2.heap.size v (out.take k) ∧ Below w2.heap.size w2 w3 ∧ w2.heap.size ≤ w3.heap.size) (fun _ i _ _ => ls.length - (intOf i).toNat)
      case atStart => exact ⟨0, Nat.zero_le _, rfl, OwnL.nil _ _ _, Below.refl _ _, Nat.le_refl _⟩
      case round =>
        obtain ⟨k, hk, rfl, hown, hb3, hz3⟩ := hrel
        by_cases hkl : k < ls.length
        · have hkl' : k < out.length := by omega
          obtain ⟨b', off', hbo, hbb, hcell⟩ := (HL2.out.call hb3).some k hkl'
          obtain ⟨rfl, rfl⟩ : b' = g ∧ off' = 0 := by simp only [Option.some.injEq, Addr.mk.injEq] at hbo; exact ⟨hbo.1.symm, hbo.2.1.symm⟩
          have hc1 := (hcell k hkl').1
          have hc2 := (hcell k hkl').2
          rw [Nat.zero_add] at hc1 hc2
          have HCE := Lib.hid hcell
          have htk : out.take (k + 1) = out.take k ++ [out[k]] := List.take_succ_eq_append_getElem hkl'
          obtain ⟨X, hX⟩ : ∃ X, out[k] = X := ⟨_, rfl⟩
          rw [hX] at hc1 hc2 htk
          have HX := Lib.hid hX
          have hlen : (out.take k).length ≤ 1000000 := by rw [List.length_take]; omega
          have HTK := Lib.hid htk
          obtain ⟨M, HMM⟩ : ∃ M, Hid (out.take k = M) := ⟨_, Lib.hid rfl⟩
          rw [HMM.out] at hown hlen
          have hownW := hown.alloc (.cells #[.string X.1, .string X.2] 88)
          have hbW := hb3.alloc hz3 (.cells #[.string X.1, .string X.2] 88)
          have hzW := hbW.size
          have hbx := Blk.new wr 88 #[.string X.1, .string X.2]
          have hwW : Below wr.heap.size wr (wr.alloc (.cells #[.string X.1, .string X.2] 88)) := (Below.refl _ _).alloc (Nat.le_refl _) _
          clear hX htk hcell hown hb3 hbo
          go_upto_region 16 with fail
          generalize wr.alloc (.cells #[.string X.1, .string X.2] 88) = W at *
          cases k with
          | zero =>
            have hJ1 : 0 < J2 := by
              rcases HE2.out with ⟨h, _⟩ | ⟨m2, _, h, _⟩
              · omega
              · omega
            generalize wr.heap.size = B at *
            have q1l : ∀ x, (later W x).cell? ⟨B, 0, none⟩ = some (.string X.1) := fun x => later_cell (hbx.cell 0) x
            have q2l : ∀ x, (later W x).cell? ⟨B, 1, none⟩ = some (.string X.2) := fun x => later_cell (hbx.cell 1) x
            refine wp_region_later (by kernel_rfl) (by kernel_rfl) ?_
            repeat (go_big_quiet_step (fail))
            refine wpQuiet_nil ?_
            rintro _ ⟨x, rfl⟩
            have hownL := hownW.call (later_below W x)
            have hbL := hbW.trans ((later_below W x).mono hzW)
            have hzL := Nat.le_trans hzW (later_size W x)
            have hbxL := hbx.call (later_below W x)
            generalize later W x = w4 at *
            clear q1l q2l hownW hbW hzW hbx hwW
            have q1 : w4.cell? ⟨B, 0, none⟩ = some (.string X.1) := hbxL.cell 0
            have q2 : w4.cell? ⟨B, 1, none⟩ = some (.string X.2) := hbxL.cell 1
            go_wp2_with (at_builtin; refine (wpList_pushL w4 rfl _ _ 22 rfl w2.heap.size 60 i0 (.agg #[.string ⟨#[]⟩, .string ⟨#[]⟩]) Tryz.underlying22 hi hz0 hz1 hz2 rfl u7 M X rfl hownL [.string X.1, .string X.2] rfl rfl hlen hzL ?_))
            intro v5 w5 hown5 hg5
            have hb5 := hownL.grown hbL hzL hg5
            have hz5 := Nat.le_trans hzL hg5.size
            clear hownL hbL hzL hbxL hg5 q1 q2
            go_wp2
            go_roundw
            case rel => exact ⟨1, by omega, rfl, by rw [HTK.out, HMM.out]; exact hown5, hb5, hz5⟩
            case measure => simp [intOf]; omega
          | succ m =>
            have hml : m < out.length := by omega
            have c3 := cellLater hwW (HCE.out m hml).1
            have c4 := cellLater hwW (HCE.out m hml).2
            rw [Nat.zero_add] at c3 c4
            generalize wr.heap.size = B at *
            have q1l : ∀ x, (later W x).cell? ⟨B, 0, none⟩ = some (.string X.1) := fun x => later_cell (hbx.cell 0) x
            have q2l : ∀ x, (later W x).cell? ⟨B, 1, none⟩ = some (.string X.2) := fun x => later_cell (hbx.cell 1) x
            have c3l := fun x => later_cell c3 x
            have c4l := fun x => later_cell c4 x
            obtain ⟨Y, hY⟩ : ∃ Y, out[m] = Y := ⟨_, rfl⟩
            rw [hY] at c3l c4l
            have HY := Lib.hid hY
            have hor := fun V => orderB_any Y X V
            obtain ⟨n, hn⟩ : ∃ n, cmpL Y X = n := ⟨_, rfl⟩
            have hn0 : n = 0 ↔ Y.1 = X.1 := by
              rw [← hn]
              exact (cmp_zero _ _).trans ⟨fun e => bytes_ext e, fun e => by rw [e]⟩
            rw [hn] at hor
            have HOR := Lib.hid hor
            have e1 : ((m + 1 : Nat) : Int) = (m : Int) + 1 := by omega
            have e2 : IntKind.i64.wrap ((m : Int) + 1 - 1) = (m : Int) := by rw [IntWalk.i64_in _ (by omega)]; omega
            have e3 : (m : Int) + 1 - 1 = (m : Int) := by omega
            have e4 : (0 : Int) < (m : Int) + 1 := by omega
            clear hor hn hY c3 c4
            by_cases hq : Y.1 = X.1
            · have hr : rightC out = false := by
                rcases HE2.out with ⟨h, _⟩ | ⟨m2, _, h, _, hr⟩
                · have := HOK2.out m hkl' (.inr h)
                  rw [HY.out, HX.out] at this
                  exact absurd hq this
                · exact hr
              have hP := newP_twice h8 HALL.out HP.out HW.out hr
              have HPP := Lib.hid hP
              have hnb : (n == 0) = true := by rw [beq_iff_eq]; exact hn0.2 hq
              clear hq hn0 hr hP
              refine wp_region_later (by kernel_rfl) (by kernel_rfl) ?_
              repeat (go_big_quiet_step ((go_at_call 59; exact calls_later (HOR.out _))))
              refine wpQuiet_nil ?_
              rintro _ ⟨x, rfl⟩
              have hownL := hownW.call (later_below W x)
              have hbL := hbW.trans ((later_below W x).mono hzW)
              have hzL := Nat.le_trans hzW (later_size W x)
              have hbxL := hbx.call (later_below W x)
              generalize later W x = w4 at *
              clear q1l q2l c3l c4l hownW hbW hzW hbx hwW
              go_wp2
              go_ret2
              rw [HPP.out]
              exact labsE_nil (hbw2.trans (hbL.mono hzw2))
            · have hJ1 : m + 1 < J2 := by
                rcases HE2.out with ⟨h, _⟩ | ⟨m2, hm2, h, hne, _⟩
                · omega
                · rcases Nat.lt_or_ge (m + 1) J2 with g1 | g1
                  · exact g1
                  · obtain rfl : m = m2 := by omega
                    rw [HY.out, HX.out] at hne
                    exact absurd hne hq
              have hnb : (n == 0) = false := by rw [beq_eq_false_iff_ne]; exact fun e => hq (hn0.1 e)
              clear hq hn0
              refine wp_region_later (by kernel_rfl) (by kernel_rfl) ?_
              repeat (go_big_quiet_step ((go_at_call 59; exact calls_later (HOR.out _))))
              refine wpQuiet_nil ?_
              rintro _ ⟨x, rfl⟩
              have hownL := hownW.call (later_below W x)
              have hbL := hbW.trans ((later_below W x).mono hzW)
              have hzL := Nat.le_trans hzW (later_size W x)
              have hbxL := hbx.call (later_below W x)
              generalize later W x = w4 at *
              clear q1l q2l c3l c4l hownW hbW hzW hbx hwW e1 e2 e3 e4 hnb
              have q1 : w4.cell? ⟨B, 0, none⟩ = some (.string X.1) := hbxL.cell 0
              have q2 : w4.cell? ⟨B, 1, none⟩ = some (.string X.2) := hbxL.cell 1
              go_wp2_with (at_builtin; refine (wpList_pushL w4 rfl _ _ 22 rfl w2.heap.size 60 i0 (.agg #[.string ⟨#[]⟩, .string ⟨#[]⟩]) Tryz.underlying22 hi hz0 hz1 hz2 rfl u7 M X rfl hownL [.string X.1, .string X.2] rfl rfl hlen hzL ?_))
              intro v5 w5 hown5 hg5
              have hb5 := hownL.grown hbL hzL hg5
              have hz5 := Nat.le_trans hzL hg5.size
              clear hownL hbL hzL hbxL hg5 q1 q2
              go_wp2
              go_roundw
              case rel => exact ⟨m + 2, by omega, by go_num, by rw [HTK.out, HMM.out]; exact hown5, hb5, hz5⟩
              case measure => simp [intOf]; omega
        · have hr : rightC out = true := by
            rcases HE2.out with ⟨_, h⟩ | ⟨m2, hm2, h, _⟩
            · exact h
            · omega
          have hP := newP_ok h8 HALL.out HP.out HW.out hr
          have HPP := Lib.hid hP
          have htk : out.take k = out := List.take_of_length_le (by omega)
          rw [htk] at hown
          obtain ⟨a2, c2, rfl, hh⟩ := hown.labs HSZ.out
          have HH := Lib.hid hh
          clear hP hr htk hown hh
          go_wp2
          go_ret2
          rw [HPP.out]
          exact ⟨a2, c2, rfl, HH.out, hbw2.trans (hb3.mono hzw2)⟩
theorem new_any (a : Option Addr) (c : Nat) (ls : List Lab) (w : World) (h : HasLabs w a c ls) :
    Calls Tryz.prog 70 #[.slice a ls.length c] w (LabsE (newP ls).1 (newP ls).2 w) := by
  obtain ⟨h1, h2, h3, h4⟩ := h
  by_cases h8 : ls.length ≤ 8
  · by_cases he : ls = []
    · subst he
      have e : newP [] = ([], 0) := newP_ok (by simp) rfl (List.Perm.refl _) List.Pairwise.nil rfl
      rw [e]
      exact new_none a c w h2
    · rcases h4 with h4 | ⟨b, off, rfl, hb, hc⟩
      · exact absurd h4 he
      · exact new_some b off c ls w he h1 h2 h3 hb hc h8
  · have e : newP ls = ([], 2) := by rw [newP, if_neg h8]
    rw [e]
    exact new_long a c ls w h2 h1 h8
end Go.Proofs.YtdlhmjdjoadioabGreatDoor
