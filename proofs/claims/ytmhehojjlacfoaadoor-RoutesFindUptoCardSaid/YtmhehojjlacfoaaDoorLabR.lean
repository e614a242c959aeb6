/- The contracts of the document's own Right, Same, Get of layer 3. -/
import Derived.Test.YtmhehojjlacfoaaDoorLabR0
import Derived.Test.YtmhehojjlacfoaaDoorLabB
namespace Go.Proofs.YtmhehojjlacfoaaDoor
open Go.RowKit
open Go.WideShapes (bytes_inj)

theorem rright_end (ls : List Lab) : ∃ J, J ≤ ls.length ∧ (∀ k (_h : k < J), okAt ls k = true) ∧ (J = ls.length ∧ rightC ls = decide (ls.length ≤ 8) ∨ J < ls.length ∧ okAt ls J = false ∧ rightC ls = false) := by
  by_cases h : ∀ i, i < ls.length → okAt ls i = true
  · refine ⟨ls.length, Nat.le_refl _, h, .inl ⟨rfl, ?_⟩⟩
    have : (List.range ls.length).all (okAt ls) = true := by simpa using h
    rw [rightC, this, Bool.and_true]
  · obtain ⟨j, hj, hb, ha⟩ := first_not _ _ h
    refine ⟨j, by omega, ha, .inr ⟨hj, hb, ?_⟩⟩
    rw [← Bool.not_eq_true]
    intro hr
    exact h (rightC_okAt hr).2
theorem labC_and (l : Lab) : labC l = (nameC l.1.data.toList && valC l.2.data.toList) := rfl
theorem bad_right {ls : List Lab} {J k : Nat} (hend : J = ls.length ∧ rightC ls = decide (ls.length ≤ 8) ∨ J < ls.length ∧ okAt ls J = false ∧ rightC ls = false) (hkl : k < ls.length) (hok : ∀ k, k < J → okAt ls k = true) (hb : okAt ls k = false) : rightC ls = false := by
  rcases hend with ⟨rfl, _⟩ | ⟨_, _, hr⟩
  · rw [hok k hkl] at hb; cases hb
  · exact hr
theorem good_right {ls : List Lab} {J k : Nat} (hend : J = ls.length ∧ rightC ls = decide (ls.length ≤ 8) ∨ J < ls.length ∧ okAt ls J = false ∧ rightC ls = false) (hkJ : k ≤ J) (hkl : k < ls.length) (hb : okAt ls k = true) : k < J := by
  rcases hend with ⟨rfl, _⟩ | ⟨_, hq, hr⟩
  · exact hkl
  · rcases Nat.lt_or_ge k J with h | h
    · exact h
    · obtain rfl : k = J := by omega
      rw [hb] at hq; cases hq

set_option maxHeartbeats 3200000 in
set_option maxRecDepth 100000 in
theorem rRight_some (b off c : Nat) (ls : List Lab) (w : World) (h1 : ls.length ≤ c) (h2 : c ≤ maxLen) (h3 : ∀ l ∈ ls, l.1.size ≤ maxLen ∧ l.2.size ≤ maxLen) (_hb : b < w.heap.size)
    (hcell : ∀ i (h : i < ls.length), w.cell? ⟨b, off + i * 2, none⟩ = some (.string ls[i].1) ∧ w.cell? ⟨b, off + i * 2 + 1, none⟩ = some (.string ls[i].2)) :
    Calls Tryd.prog 14 #[.slice (some ⟨b, off, none⟩) ls.length c] w (BoolB (rightC ls) w) := by
  unfold maxLen at h2
  have HC := Lib.hid hcell
  have HM := Lib.hid (labs_sizes h3)
  clear hcell h3
  obtain ⟨J, hJ, hok, hend⟩ := rright_end ls
  have HOK := Lib.hid hok
  have HE := Lib.hid hend
  clear hok hend
  go_enter Tryd.func14, Tryd.ntmps14
  go_wp2
  go_loopw [7, 3] (fun i _ wr => ∃ k : Nat, k ≤ J ∧ i = .int .i64 k ∧ Below w.heap.size w wr) (fun i _ _ => ls.length - (intOf i).toNat)
  case atStart => exact ⟨0, Nat.zero_le _, rfl, Below.refl _ _⟩
  case round =>
    obtain ⟨k, hk, rfl, hbl⟩ := hrel
    by_cases hkl : k < ls.length
    · have hc1 := cellLater hbl (HC.out k hkl).1
      have hc2 := cellLater hbl (HC.out k hkl).2
      obtain ⟨hm1, hm2⟩ := HM.out k hkl
      have hn := fun W => rName_any ls[k].1 W hm1
      have hv := fun W => rValue_any ls[k].2 W hm2
      have hbx : Below w.heap.size w (wr.alloc (.cells #[.string ls[k].1, .string ls[k].2] 45)) := hbl.alloc hbl.size _
      have hbl0 := Blk.new wr 45 #[.string ls[k].1, .string ls[k].2]
      go_upto_region 4 with fail
      generalize wr.alloc (.cells #[.string ls[k].1, .string ls[k].2] 45) = wx at *
      generalize wr.heap.size = B at *
      have q1l := fun x => later_cell (hbl0.cell 0) x
      have q2l := fun x => later_cell (hbl0.cell 1) x
      have q1l : ∀ x, (later wx x).cell? ⟨B, 0, none⟩ = some (.string ls[k].1) := q1l
      have q2l : ∀ x, (later wx x).cell? ⟨B, 1, none⟩ = some (.string ls[k].2) := q2l
      cases hA : nameC ls[k].1.data.toList with
      | false =>
        rw [hA] at hn
        have hR := bad_right HE.out hkl HOK.out (by cases k with
          | zero => rw [okAt_zero ls hkl, labC_and, hA]; rfl
          | succ m => rw [okAt_succ ls m hkl, labC_and, hA]; rfl)
        have HR := Lib.hid hR
        have HN := Lib.hid hn
        have HV := Lib.hid hv
        clear hn hv hA hR hm1 hm2
        refine wp_region_later (by kernel_rfl) (by kernel_rfl) ?_
        repeat (go_big_quiet_step (first | (go_at_call 30; exact calls_later_same (HN.out _)) | (go_at_call 31; exact calls_later_same (HV.out _))))
        refine wpQuiet_nil ?_
        rintro _ ⟨x, rfl⟩
        have hb2 := hbx.trans ((later_below wx x).mono hbx.size)
        generalize later wx x = w2 at *
        clear q1l q2l hbl0
        go_wp2
        go_ret
        exact ⟨by rw [HR.out]; rfl, hb2⟩
      | true =>
        rw [hA] at hn
        cases hB : valC ls[k].2.data.toList with
        | false =>
          rw [hB] at hv
          have hR := bad_right HE.out hkl HOK.out (by cases k with
            | zero => rw [okAt_zero ls hkl, labC_and, hA, hB]; rfl
            | succ m => rw [okAt_succ ls m hkl, labC_and, hA, hB]; rfl)
          have HR := Lib.hid hR
          have HN := Lib.hid hn
          have HV := Lib.hid hv
          clear hn hv hA hB hR hm1 hm2
          refine wp_region_later (by kernel_rfl) (by kernel_rfl) ?_
          repeat (go_big_quiet_step (first | (go_at_call 30; exact calls_later_same (HN.out _)) | (go_at_call 31; exact calls_later_same (HV.out _))))
          refine wpQuiet_nil ?_
          rintro _ ⟨x, rfl⟩
          have hb2 := hbx.trans ((later_below wx x).mono hbx.size)
          generalize later wx x = w2 at *
          clear q1l q2l hbl0
          go_wp2
          go_ret
          exact ⟨by rw [HR.out]; rfl, hb2⟩
        | true =>
          rw [hB] at hv
          have hlab : labC ls[k] = true := by rw [labC_and, hA, hB]; rfl
          have HN := Lib.hid hn
          have HV := Lib.hid hv
          clear hn hv hA hB
          cases k with
          | zero =>
            have hJ1 := good_right HE.out hk hkl (by rw [okAt_zero ls hkl, hlab])
            clear hlab hm1 hm2
            refine wp_region_later (by kernel_rfl) (by kernel_rfl) ?_
            repeat (go_big_quiet_step (first | (go_at_call 30; exact calls_later_same (HN.out _)) | (go_at_call 31; exact calls_later_same (HV.out _))))
            refine wpQuiet_nil ?_
            rintro _ ⟨x, rfl⟩
            have hb2 := hbx.trans ((later_below wx x).mono hbx.size)
            generalize later wx x = w2 at *
            clear q1l q2l hbl0
            go_wp2
            go_roundw
            case rel => exact ⟨1, by omega, rfl, hb2⟩
            case measure => simp [intOf]; omega
          | succ m =>
            have hml : m < ls.length := by omega
            have c3 := cellLater hbx (HC.out m hml).1
            have c3l := fun x => later_cell c3 x
            have hle := fun W => rLess_any ls[m].1 ls[m + 1].1 W (HM.out m hml).1 hm1
            have hlt : ltL ls[m] ls[m + 1] = lessB ls[m].1.data.toList ls[m + 1].1.data.toList := rfl
            have e1 : ((m + 1 : Nat) : Int) = (m : Int) + 1 := by omega
            have e2 : IntKind.i64.wrap ((m : Int) + 1 - 1) = (m : Int) := by rw [IntWalk.i64_in _ (by omega)]; omega
            have e3 : (m : Int) + 1 - 1 = (m : Int) := by omega
            have e4 : (0 : Int) < (m : Int) + 1 := by omega
            clear c3 hm1 hm2
            cases hq : lessB ls[m].1.data.toList ls[m + 1].1.data.toList with
            | false =>
              rw [hq] at hle hlt
              have HLE := Lib.hid hle
              have hR := bad_right HE.out hkl HOK.out (by rw [okAt_succ ls m hkl, hlab, hlt]; rfl)
              have HR := Lib.hid hR
              clear hle hlt hq hR hlab
              refine wp_region_later (by kernel_rfl) (by kernel_rfl) ?_
              repeat (go_big_quiet_step (first | (go_at_call 30; exact calls_later_same (HN.out _)) | (go_at_call 31; exact calls_later_same (HV.out _)) | (go_at_call 32; exact calls_later_drew (HLE.out _))))
              refine wpQuiet_nil ?_
              rintro _ ⟨x, rfl⟩
              have hb2 := hbx.trans ((later_below wx x).mono hbx.size)
              generalize later wx x = w2 at *
              clear q1l q2l hbl0 c3l
              go_wp2
              go_ret
              exact ⟨by rw [HR.out]; rfl, hb2⟩
            | true =>
              rw [hq] at hle hlt
              have HLE := Lib.hid hle
              have hJ1 := good_right HE.out hk hkl (by rw [okAt_succ ls m hkl, hlab, hlt]; rfl)
              clear hle hlt hq hlab
              refine wp_region_later (by kernel_rfl) (by kernel_rfl) ?_
              repeat (go_big_quiet_step (first | (go_at_call 30; exact calls_later_same (HN.out _)) | (go_at_call 31; exact calls_later_same (HV.out _)) | (go_at_call 32; exact calls_later_drew (HLE.out _))))
              refine wpQuiet_nil ?_
              rintro _ ⟨x, rfl⟩
              have hb2 := hbx.trans ((later_below wx x).mono hbx.size)
              generalize later wx x = w2 at *
              clear q1l q2l hbl0 c3l e1 e2 e3 e4
              go_wp2
              go_roundw
              case rel => exact ⟨m + 2, by omega, by go_num, hb2⟩
              case measure => simp [intOf]; omega
    · have hR : rightC ls = decide (ls.length ≤ 8) := by
        rcases HE.out with ⟨_, hr⟩ | ⟨hj, _, _⟩
        · exact hr
        · omega
      have HR := Lib.hid hR
      clear hR
      by_cases h8 : ls.length ≤ 8
      all_goals
        go_wp2
        go_ret
        exact ⟨by rw [HR.out]; simp [h8]; try omega, hbl⟩

theorem rRight_any (a : Option Addr) (c : Nat) (ls : List Lab) (w : World) (h : HasLabs w a c ls) : Calls Tryd.prog 14 #[.slice a ls.length c] w (BoolB (rightC ls) w) := by
  obtain ⟨h1, h2, h3, h4⟩ := h
  rcases h4 with rfl | ⟨b, off, rfl, hb, hcell⟩
  · go_enter Tryd.func14, Tryd.ntmps14
    go_wp2
    refine wp_loop_rounds 1 ?_
    rw [rounds_succ]
    go_wp2
    go_ret
    exact ⟨rfl, Below.refl _ _⟩
  · exact rRight_some b off c ls w h1 h2 h3 hb hcell
end Go.Proofs.YtmhehojjlacfoaaDoor
