/- The contracts of the document's own Right, Same, Get of layer 3. -/
import Derived.Test.YtmhekhilgllciaaGreatMg3
import Derived.Test.YtmhekhilgllciaaGreatMg10
import Derived.Test.YtmhekhilgllciaaGreatMg1
import Derived.IntWalk
import Derived.Test.YtmhekhilgllciaaGreatMg6
import Derived.Deep.RegionHeld3
import Derived.Test.YtmhekhilgllciaaGreatMg8
import Derived.Test.YtmhekhilgllciaaGreatMg5
namespace Go.Proofs.YtmhekhilgllciaaGreat
open Go.RowKit
open Go.WideShapes (bytes_inj)

theorem rright_end (ls : List Lab) : ∃ J, J ≤ ls.length ∧ (∀ k (_h : k < J), okAt ls k = true) ∧ (J = ls.length ∧ rightC ls = decide (ls.length ≤ 8) ∨ J < ls.length ∧ okAt ls J = false ∧ rightC ls = false) := by
  by_cases h : ∀ i, i < ls.length → okAt ls i = true
  · refine ⟨ls.length, Nat.le_refl _, h, .inl ⟨rfl, ?_⟩⟩
    have : (List.range ls.length).all (okAt ls) = true := by simpa using h
    rw [rightC, this, Bool.and_true]
  · obtain ⟨j, hj, hb, ha⟩ := first_not _ _ h
    refine ⟨j, by omega, ha, .inr ⟨hj, hb, ?_⟩⟩
    rw [← Bool.not_eq_true]
    intro hr
    exact h (rightC_okAt hr).2
theorem labC_and (l : Lab) : labC l = (nameC l.1.data.toList && valC l.2.data.toList) := rfl
theorem bad_right {ls : List Lab} {J k : Nat} (hend : J = ls.length ∧ rightC ls = decide (ls.length ≤ 8) ∨ J < ls.length ∧ okAt ls J = false ∧ rightC ls = false) (hkl : k < ls.length) (hok : ∀ k, k < J → okAt ls k = true) (hb : okAt ls k = false) : rightC ls = false := by
  rcases hend with ⟨rfl, _⟩ | ⟨_, _, hr⟩
  · rw [hok k hkl] at hb; cases hb
  · exact hr
theorem good_right {ls : List Lab} {J k : Nat} (hend : J = ls.length ∧ rightC ls = decide (ls.length ≤ 8) ∨ J < ls.length ∧ okAt ls J = false ∧ rightC ls = false) (hkJ : k ≤ J) (hkl : k < ls.length) (hb : okAt ls k = true) : k < J := by
  rcases hend with ⟨rfl, _⟩ | ⟨_, hq, hr⟩
  · exact hkl
  · rcases Nat.lt_or_ge k J with h | h
    · exact h
    · obtain rfl : k = J := by omega
      rw [hb] at hq; cases hq

set_option maxHeartbeats 3200000 in
set_option maxRecDepth 100000 in
theorem rRight_some (b off c : Nat) (ls : List Lab) (w : World) (h1 : ls.length ≤ c) (h2 : c ≤ maxLen) (h3 : ∀ l ∈ ls, l.1.size ≤ maxLen ∧ l.2.size ≤ maxLen) (_hb : b < w.heap.size)
    (hcell : ∀ i (h : i < ls.length), w.cell? ⟨b, off + i * 2, none⟩ = some (.string ls[i].1) ∧ w.cell? ⟨b, off + i * 2 + 1, none⟩ = some (.string ls[i].2)) :
    Calls Tryz.prog 116 #[.slice (some ⟨b, off, none⟩) ls.length c] w (BoolB (rightC ls) w) := by
  unfold maxLen at h2
  have HC := Lib.hid hcell
  have HM := Lib.hid (labs_sizes h3)
  clear hcell h3
  obtain ⟨J, hJ, hok, hend⟩ := rright_end ls
  have HOK := Lib.hid hok
  have HE := Lib.hid hend
  clear hok hend
  go_enter Tryz.func116, Tryz.ntmps116
  go_wp2
  go_loopw [7, 3] (fun i _ wr => ∃ k : Nat, k ≤ J ∧ i = .int .i64 k ∧ Below w.heap.size w wr) (fun i _ _ => ls.length - (intOf i).toNat)
  case atStart => exact ⟨0, Nat.zero_le _, rfl, Below.refl _ _⟩
  case round =>
    obtain ⟨k, hk, rfl, hbl⟩ := hrel
    by_cases hkl : k < ls.length
    · have hc1 := cellLater hbl (HC.out k hkl).1
      have hc2 := cellLater hbl (HC.out k hkl).2
      obtain ⟨hm1, hm2⟩ := HM.out k hkl
      have hn := fun W => rName_any ls[k].1 W hm1
      have hv := fun W => rValue_any ls[k].2 W hm2
      have hbx : Below w.heap.size w (wr.alloc (.cells #[.string ls[k].1, .string ls[k].2] 124)) := hbl.alloc hbl.size _
      have hbl0 := Blk.new wr 124 #[.string ls[k].1, .string ls[k].2]
      go_upto_region 4 with fail
      generalize wr.alloc (.cells #[.string ls[k].1, .string ls[k].2] 124) = wx at *
      generalize wr.heap.size = B at *
      have q1l := fun x => later_cell (hbl0.cell 0) x
      have q2l := fun x => later_cell (hbl0.cell 1) x
      have q1l : ∀ x, (later wx x).cell? ⟨B, 0, none⟩ = some (.string ls[k].1) := q1l
      have q2l : ∀ x, (later wx x).cell? ⟨B, 1, none⟩ = some (.string ls[k].2) := q2l
      cases hA : nameC ls[k].1.data.toList with
      | false =>
        rw [hA] at hn
        have hR := bad_right HE.out hkl HOK.out (by cases k with
          | zero => rw [okAt_zero ls hkl, labC_and, hA]; rfl
          | succ m => rw [okAt_succ ls m hkl, labC_and, hA]; rfl)
        have HR := Lib.hid hR
        have HN := Lib.hid hn
        have HV := Lib.hid hv
        clear hn hv hA hR hm1 hm2
        refine wp_region_later (by kernel_rfl) (by kernel_rfl) ?_
        repeat (go_big_quiet_step (first | (go_at_call 75; exact calls_later_same (HN.out _)) | (go_at_call 179; exact calls_later_same (HV.out _))))
        refine wpQuiet_nil ?_
        rintro _ ⟨x, rfl⟩
        have hb2 := hbx.trans ((later_below wx x).mono hbx.size)
        generalize later wx x = w2 at *
        clear q1l q2l hbl0
        go_wp2
        go_ret
        exact ⟨by rw [HR.out]; rfl, hb2⟩
      | true =>
        rw [hA] at hn
        cases hB : valC ls[k].2.data.toList with
        | false =>
          rw [hB] at hv
          have hR := bad_right HE.out hkl HOK.out (by cases k with
            | zero => rw [okAt_zero ls hkl, labC_and, hA, hB]; rfl
            | succ m => rw [okAt_succ ls m hkl, labC_and, hA, hB]; rfl)
          have HR := Lib.hid hR
          have HN := Lib.hid hn
          have HV := Lib.hid hv
          clear hn hv hA hB hR hm1 hm2
          refine wp_region_later (by kernel_rfl) (by kernel_rfl) ?_
          repeat (go_big_quiet_step (first | (go_at_call 75; exact calls_later_same (HN.out _)) | (go_at_call 179; exact calls_later_same (HV.out _))))
          refine wpQuiet_nil ?_
          rintro _ ⟨x, rfl⟩
          have hb2 := hbx.trans ((later_below wx x).mono hbx.size)
          generalize later wx x = w2 at *
          clear q1l q2l hbl0
          go_wp2
          go_ret
          exact ⟨by rw [HR.out]; rfl, hb2⟩
        | true =>
          rw [hB] at hv
          have hlab : labC ls[k] = true := by rw [labC_and, hA, hB]; rfl
          have HN := Lib.hid hn
          have HV := Lib.hid hv
          clear hn hv hA hB
          cases k with
          | zero =>
            have hJ1 := good_right HE.out hk hkl (by rw [okAt_zero ls hkl, hlab])
            clear hlab hm1 hm2
            refine wp_region_later (by kernel_rfl) (by kernel_rfl) ?_
            repeat (go_big_quiet_step (first | (go_at_call 75; exact calls_later_same (HN.out _)) | (go_at_call 179; exact calls_later_same (HV.out _))))
            refine wpQuiet_nil ?_
            rintro _ ⟨x, rfl⟩
            have hb2 := hbx.trans ((later_below wx x).mono hbx.size)
            generalize later wx x = w2 at *
            clear q1l q2l hbl0
            go_wp2
            go_roundw
            case rel => exact ⟨1, by omega, rfl, hb2⟩
            case measure => simp [intOf]; omega
          | succ m =>
            have hml : m < ls.length := by omega
            have c3 := cellLater hbx (HC.out m hml).1
            have c3l := fun x => later_cell c3 x
            have hle := fun W => rLess_any ls[m].1 ls[m + 1].1 W (HM.out m hml).1 hm1
            have hlt : ltL ls[m] ls[m + 1] = lessB ls[m].1.data.toList ls[m + 1].1.data.toList := rfl
            have e1 : ((m + 1 : Nat) : Int) = (m : Int) + 1 := by omega
            have e2 : IntKind.i64.wrap ((m : Int) + 1 - 1) = (m : Int) := by rw [IntWalk.i64_in _ (by omega)]; omega
            have e3 : (m : Int) + 1 - 1 = (m : Int) := by omega
            have e4 : (0 : Int) < (m : Int) + 1 := by omega
            clear c3 hm1 hm2
            cases hq : lessB ls[m].1.data.toList ls[m + 1].1.data.toList with
            | false =>
              rw [hq] at hle hlt
              have HLE := Lib.hid hle
              have hR := bad_right HE.out hkl HOK.out (by rw [okAt_succ ls m hkl, hlab, hlt]; rfl)
              have HR := Lib.hid hR
              clear hle hlt hq hR hlab
              refine wp_region_later (by kernel_rfl) (by kernel_rfl) ?_
              repeat (go_big_quiet_step (first | (go_at_call 75; exact calls_later_same (HN.out _)) | (go_at_call 179; exact calls_later_same (HV.out _)) | (go_at_call 76; exact calls_later_drew (HLE.out _))))
              refine wpQuiet_nil ?_
              rintro _ ⟨x, rfl⟩
              have hb2 := hbx.trans ((later_below wx x).mono hbx.size)
              generalize later wx x = w2 at *
              clear q1l q2l hbl0 c3l
              go_wp2
              go_ret
              exact ⟨by rw [HR.out]; rfl, hb2⟩
            | true =>
              rw [hq] at hle hlt
              have HLE := Lib.hid hle
              have hJ1 := good_right HE.out hk hkl (by rw [okAt_succ ls m hkl, hlab, hlt]; rfl)
              clear hle hlt hq hlab
              refine wp_region_later (by kernel_rfl) (by kernel_rfl) ?_
              repeat (go_big_quiet_step (first | (go_at_call 75; exact calls_later_same (HN.out _)) | (go_at_call 179; exact calls_later_same (HV.out _)) | (go_at_call 76; exact calls_later_drew (HLE.out _))))
              refine wpQuiet_nil ?_
              rintro _ ⟨x, rfl⟩
              have hb2 := hbx.trans ((later_below wx x).mono hbx.size)
              generalize later wx x = w2 at *
              clear q1l q2l hbl0 c3l e1 e2 e3 e4
              go_wp2
              go_roundw
              case rel => exact ⟨m + 2, by omega, by go_num, hb2⟩
              case measure => simp [intOf]; omega
    · have hR : rightC ls = decide (ls.length ≤ 8) := by
        rcases HE.out with ⟨_, hr⟩ | ⟨hj, _, _⟩
        · exact hr
        · omega
      have HR := Lib.hid hR
      clear hR
      by_cases h8 : ls.length ≤ 8
      all_goals
        go_wp2
        go_ret
        exact ⟨by rw [HR.out]; simp [h8]; try omega, hbl⟩

theorem rRight_any (a : Option Addr) (c : Nat) (ls : List Lab) (w : World) (h : HasLabs w a c ls) : Calls Tryz.prog 116 #[.slice a ls.length c] w (BoolB (rightC ls) w) := by
  obtain ⟨h1, h2, h3, h4⟩ := h
  rcases h4 with rfl | ⟨b, off, rfl, hb, hcell⟩
  · go_enter Tryz.func116, Tryz.ntmps116
    go_wp2
    refine wp_loop_rounds 1 ?_
    rw [rounds_succ]
    go_wp2
    go_ret
    exact ⟨rfl, Below.refl _ _⟩
  · exact rRight_some b off c ls w h1 h2 h3 hb hcell
end Go.Proofs.YtmhekhilgllciaaGreat
/- The contracts of the document's own Word, Right, Holds of layer 4. -/
namespace Go.Proofs.YtmhekhilgllciaaGreat
open Go.RowKit Go.Maps

set_option maxHeartbeats 6400000 in
theorem rWord_any (s : ByteArray) (w : World) (hs : s.size ≤ maxLen) : Calls Tryz.prog 180 #[.string s] w (Bool1 (wordC s.data.toList) w) := by
  unfold maxLen at hs
  have hl : s.data.toList.length = s.size := by simp
  by_cases hall : s.data.toList.all wordB = true
  · have hR : wordC s.data.toList = decide (s.size ≤ 64) := by unfold wordC; rw [hl, hall]; simp
    have HA := Lib.hid (wordB_at hall)
    rw [hR]
    clear hR hl hall
    go_enter Tryz.func180, Tryz.ntmps180
    go_wp2
    go_loop [3, 4, 5] (fun i _ _ => ∃ k : Nat, k ≤ s.size ∧ i = .int .i64 k) (fun i _ _ => s.size - (intOf i).toNat)
    case atStart => exact ⟨0, Nat.zero_le _, rfl⟩
    case round =>
      obtain ⟨k, hk, rfl⟩ := hrel
      by_cases hkl : k < s.size
      · have hw := HA.out k hkl
        rw [wordB_is] at hw
        obtain ⟨n, hn⟩ : ∃ n, s[k].toNat = n := ⟨_, rfl⟩
        rw [hn] at hw
        simp only [Bool.or_eq_true, decide_eq_true_eq] at hw
        by_cases h1 : 97 ≤ n <;> by_cases h2 : n ≤ 122 <;> by_cases h3 : 65 ≤ n <;> by_cases h4 : n ≤ 90 <;> by_cases h5 : 48 ≤ n <;> by_cases h6 : n ≤ 57 <;> (try omega)
        all_goals first
          | (clear hw
             go_wp2
             go_round
             case rel => exact ⟨k + 1, by omega, by go_num⟩
             case measure => simp [intOf]; omega
             done)
          | (have h7 : n = 95 ∨ n = 45 ∨ n = 46 ∨ n = 47 ∨ n = 58 := by omega
             clear hw
             rcases h7 with h | h | h | h | h
             · have f1 : ((n : Int) != 95) = false := by rw [h]; rfl
               clear h
               go_wp2
               go_round
               case rel => exact ⟨k + 1, by omega, by go_num⟩
               case measure => simp [intOf]; omega
             · have f1 : ((n : Int) != 95) = true := by rw [h]; rfl
               have f2 : ((n : Int) != 45) = false := by rw [h]; rfl
               clear h
               go_wp2
               go_round
               case rel => exact ⟨k + 1, by omega, by go_num⟩
               case measure => simp [intOf]; omega
             · have f1 : ((n : Int) != 95) = true := by rw [h]; rfl
               have f2 : ((n : Int) != 45) = true := by rw [h]; rfl
               have f3 : ((n : Int) != 46) = false := by rw [h]; rfl
               clear h
               go_wp2
               go_round
               case rel => exact ⟨k + 1, by omega, by go_num⟩
               case measure => simp [intOf]; omega
             · have f1 : ((n : Int) != 95) = true := by rw [h]; rfl
               have f2 : ((n : Int) != 45) = true := by rw [h]; rfl
               have f3 : ((n : Int) != 46) = true := by rw [h]; rfl
               have f4 : ((n : Int) != 47) = false := by rw [h]; rfl
               clear h
               go_wp2
               go_round
               case rel => exact ⟨k + 1, by omega, by go_num⟩
               case measure => simp [intOf]; omega
             · have f1 : ((n : Int) != 95) = true := by rw [h]; rfl
               have f2 : ((n : Int) != 45) = true := by rw [h]; rfl
               have f3 : ((n : Int) != 46) = true := by rw [h]; rfl
               have f4 : ((n : Int) != 47) = true := by rw [h]; rfl
               have f5 : ((n : Int) != 58) = false := by rw [h]; rfl
               clear h
               go_wp2
               go_round
               case rel => exact ⟨k + 1, by omega, by go_num⟩
               case measure => simp [intOf]; omega)
      · by_cases h64 : s.size ≤ 64
        · go_wp2
          go_ret
          exact ⟨by show Ending.returned (.bool (decide ((s.size : Int) ≤ 64))) = _; rw [decide_eq_true (by omega)], rfl⟩
        · go_wp2
          go_ret
          exact ⟨by show Ending.returned (.bool (decide ((s.size : Int) ≤ 64))) = _; rw [decide_eq_false (by omega)], rfl⟩
  · obtain ⟨j, hj, hbad, hok⟩ := all_not s hall
    have hR : wordC s.data.toList = false := by unfold wordC; simp only [Bool.not_eq_true] at hall; rw [hall]; simp
    have HA := Lib.hid hok
    have HB := Lib.hid hbad
    rw [hR]
    clear hR hl hall hok hbad
    go_enter Tryz.func180, Tryz.ntmps180
    go_wp2
    go_loop [3, 4, 5] (fun i _ _ => ∃ k : Nat, k ≤ j ∧ i = .int .i64 k) (fun i _ _ => s.size - (intOf i).toNat)
    case atStart => exact ⟨0, Nat.zero_le _, rfl⟩
    case round =>
      obtain ⟨k, hk, rfl⟩ := hrel
      have hks : k < s.size := by omega
      by_cases hkl : k = j
      · subst hkl
        have hb := HB.out
        rw [wordB_is] at hb
        obtain ⟨n, hn⟩ : ∃ n, s[k].toNat = n := ⟨_, rfl⟩
        rw [hn] at hb
        simp only [Bool.or_eq_false_iff, decide_eq_false_iff_not] at hb
        have f1 : ((n : Int) != 95) = true := by rw [bne_iff_ne]; omega
        have g1 : ((n : Int) == 95) = false := by rw [beq_eq_false_iff_ne]; omega
        have f2 : ((n : Int) != 45) = true := by rw [bne_iff_ne]; omega
        have g2 : ((n : Int) == 45) = false := by rw [beq_eq_false_iff_ne]; omega
        have f3 : ((n : Int) != 46) = true := by rw [bne_iff_ne]; omega
        have g3 : ((n : Int) == 46) = false := by rw [beq_eq_false_iff_ne]; omega
        have f4 : ((n : Int) != 47) = true := by rw [bne_iff_ne]; omega
        have g4 : ((n : Int) == 47) = false := by rw [beq_eq_false_iff_ne]; omega
        have f5 : ((n : Int) != 58) = true := by rw [bne_iff_ne]; omega
        have g5 : ((n : Int) == 58) = false := by rw [beq_eq_false_iff_ne]; omega
        by_cases h1 : 97 ≤ n <;> by_cases h2 : n ≤ 122 <;> by_cases h3 : 65 ≤ n <;> by_cases h4 : n ≤ 90 <;> by_cases h5 : 48 ≤ n <;> by_cases h6 : n ≤ 57 <;> (try omega)
        all_goals
          (try have d1 : decide ((97 : Int) ≤ (n : Int)) = false := decide_eq_false (by omega))
          (try have d2 : decide ((n : Int) ≤ 122) = false := decide_eq_false (by omega))
          (try have d3 : decide ((65 : Int) ≤ (n : Int)) = false := decide_eq_false (by omega))
          (try have d4 : decide ((n : Int) ≤ 90) = false := decide_eq_false (by omega))
          (try have d5 : decide ((48 : Int) ≤ (n : Int)) = false := decide_eq_false (by omega))
          (try have d6 : decide ((n : Int) ≤ 57) = false := decide_eq_false (by omega))
          clear hb
          go_wp2
          go_ret
          exact ⟨rfl, rfl⟩
      · have hw := HA.out k (by omega)
        rw [wordB_is] at hw
        obtain ⟨n, hn⟩ : ∃ n, s[k].toNat = n := ⟨_, rfl⟩
        rw [hn] at hw
        simp only [Bool.or_eq_true, decide_eq_true_eq] at hw
        by_cases h1 : 97 ≤ n <;> by_cases h2 : n ≤ 122 <;> by_cases h3 : 65 ≤ n <;> by_cases h4 : n ≤ 90 <;> by_cases h5 : 48 ≤ n <;> by_cases h6 : n ≤ 57 <;> (try omega)
        all_goals first
          | (clear hw
             go_wp2
             go_round
             case rel => exact ⟨k + 1, by omega, by go_num⟩
             case measure => simp [intOf]; omega
             done)
          | (have h7 : n = 95 ∨ n = 45 ∨ n = 46 ∨ n = 47 ∨ n = 58 := by omega
             clear hw
             rcases h7 with h | h | h | h | h
             · have f1 : ((n : Int) != 95) = false := by rw [h]; rfl
               clear h
               go_wp2
               go_round
               case rel => exact ⟨k + 1, by omega, by go_num⟩
               case measure => simp [intOf]; omega
             · have f1 : ((n : Int) != 95) = true := by rw [h]; rfl
               have f2 : ((n : Int) != 45) = false := by rw [h]; rfl
               clear h
               go_wp2
               go_round
               case rel => exact ⟨k + 1, by omega, by go_num⟩
               case measure => simp [intOf]; omega
             · have f1 : ((n : Int) != 95) = true := by rw [h]; rfl
               have f2 : ((n : Int) != 45) = true := by rw [h]; rfl
               have f3 : ((n : Int) != 46) = false := by rw [h]; rfl
               clear h
               go_wp2
               go_round
               case rel => exact ⟨k + 1, by omega, by go_num⟩
               case measure => simp [intOf]; omega
             · have f1 : ((n : Int) != 95) = true := by rw [h]; rfl
               have f2 : ((n : Int) != 45) = true := by rw [h]; rfl
               have f3 : ((n : Int) != 46) = true := by rw [h]; rfl
               have f4 : ((n : Int) != 47) = false := by rw [h]; rfl
               clear h
               go_wp2
               go_round
               case rel => exact ⟨k + 1, by omega, by go_num⟩
               case measure => simp [intOf]; omega
             · have f1 : ((n : Int) != 95) = true := by rw [h]; rfl
               have f2 : ((n : Int) != 45) = true := by rw [h]; rfl
               have f3 : ((n : Int) != 46) = true := by rw [h]; rfl
               have f4 : ((n : Int) != 47) = true := by rw [h]; rfl
               have f5 : ((n : Int) != 58) = false := by rw [h]; rfl
               clear h
               go_wp2
               go_round
               case rel => exact ⟨k + 1, by omega, by go_num⟩
               case measure => simp [intOf]; omega)
end Go.Proofs.YtmhekhilgllciaaGreat
/- The contract of the document's own Right of layer 4. -/
namespace Go.Proofs.YtmhekhilgllciaaGreat
open Go.RowKit Go.Maps

theorem below_drewV {B : Nat} {w W : World} (h : Below B w W) (n : Nat) : Below B w (W.drewN n) := h.trans ⟨rfl, rfl, rfl, Nat.le_refl _, fun _ _ => rfl⟩

set_option maxHeartbeats 6400000 in
set_option maxRecDepth 100000 in
theorem r4Right_any (v : Value) (m : Mat) (w : World) (h : HasMat w v m) : Calls Tryz.prog 117 #[v] w (BoolB (rightM m) w) := by
  obtain ⟨a, c, rfl, hW, hs, hwf⟩ := h
  have h2 := hW.2.1
  have h1 := hW.1
  unfold maxLen at h2
  have HN := Lib.hid (fun W => rName_any m.name W hs)
  have hb1 := Blk.new w 97 #[.string m.name, .int .i64 m.how, .slice a m.words.length c]
  have hbl := (Below.refl _ w).alloc (Nat.le_refl _) (.cells #[.string m.name, .int .i64 m.how, .slice a m.words.length c] 97)
  have HW := Lib.hid hW
  have HB := Lib.hid hbl
  have HK := Lib.hid hb1
  have HM := Lib.hid (fun (k : Nat) (hk : k < m.words.length) => hW.2.2.1 _ (List.getElem_mem hk))
  obtain ⟨J, hJ, hok, hend⟩ := words_end m.words
  have HOK := Lib.hid hok
  have HE := Lib.hid hend
  have hR := rightM_is m
  have HR := Lib.hid hR
  obtain ⟨x0, x1, x2⟩ := hb1.cells3
  clear hW hs hwf hb1 hbl hok hend hR
  go_enter Tryz.func117, Tryz.ntmps117
  go_upto_region 2 with fail
  generalize w.alloc (.cells #[.string m.name, .int .i64 m.how, .slice a m.words.length c] 97) = wx at *
  clear x0 x1 x2
  go_loopw [8] (fun i wr => ∃ k : Nat, k ≤ J ∧ i = .int .i64 k ∧ Below wx.heap.size wx wr) (fun i _ => m.words.length - (intOf i).toNat)
  case atStart => exact ⟨0, Nat.zero_le _, rfl, Below.refl _ _⟩
  case round =>
    obtain ⟨k, hk, rfl, hb⟩ := hrel
    have HBR := Lib.hid hb
    have hbe := bthen HB.out hb
    have HBE := Lib.hid hbe
    have hkk := HK.out.call hb
    obtain ⟨y0, y1, y2⟩ := hkk.cells3
    by_cases hkl : k < m.words.length
    · obtain ⟨_, _, _, h4⟩ := HW.out.call hbe
      rcases h4 with h4 | ⟨b, off, rfl, _, hcell⟩
      · rw [h4] at hkl; simp at hkl
      have hc1 := hcell k hkl
      have hm1 := HM.out k hkl
      have HRW := Lib.hid (fun W => rWord_any m.words[k] W hm1)
      have HC := Lib.hid hcell
      clear hm1 hcell hbe hb hkk
      cases hwd : wordC m.words[k].data.toList with
      | false =>
        have hres : wordsC m.words = false := by
          rcases HE.out with ⟨rfl, hr⟩ | ⟨hj, hq, hr⟩
          · exact absurd (((wordsC_iff m.words).1 hr).1 _ (List.getElem_mem hkl)) (by rw [hwd]; simp)
          · exact hr
        rw [hwd] at HRW
        have hrf : rightM m = false := by rw [HR.out, hres]; rfl
        have HRF := Lib.hid hrf
        clear hres hwd hrf
        go_wp2_with (go_at_call 180; refine (HRW.out _).mono ?_; rintro e w2 ⟨rfl, rfl⟩)
        go_ret
        exact ⟨by rw [HRF.out]; rfl, HBE.out⟩
      | true =>
        rw [hwd] at HRW
        cases k with
        | zero =>
          simp only [Nat.add_zero] at hc1
          have hJ1 : 0 < J := by
            rcases HE.out with ⟨he, hr⟩ | ⟨hj, hq, hr⟩
            · omega
            · rcases Nat.eq_zero_or_pos J with h | h
              · subst h
                rw [okW_zero m.words hkl, hwd] at hq
                cases hq
              · exact h
          clear hwd
          go_wp2_with (go_at_call 180; refine (HRW.out _).mono ?_; rintro e w2 ⟨rfl, rfl⟩)
          go_roundw
          case rel => exact ⟨1, by omega, rfl, HBR.out⟩
          case measure => simp [intOf]; omega
        | succ n =>
          have hml : n < m.words.length := by omega
          have c3 := HC.out n hml
          have e1 : ((n + 1 : Nat) : Int) = (n : Int) + 1 := by omega
          have e2 : IntKind.i64.wrap ((n : Int) + 1 - 1) = (n : Int) := by rw [IntWalk.i64_in _ (by omega)]; omega
          have e3 : (n : Int) + 1 - 1 = (n : Int) := by omega
          have e4 : (0 : Int) < (n : Int) + 1 := by omega
          have HLS := Lib.hid (fun W => rLess_any m.words[n] m.words[n + 1] W (HM.out n hml) (HM.out (n + 1) hkl))
          have hlq : lessB m.words[n].data.toList m.words[n + 1].data.toList = ltW m.words[n] m.words[n + 1] := rfl
          rw [hlq] at HLS
          clear hlq
          cases hl : ltW m.words[n] m.words[n + 1] with
          | false =>
            have hres : wordsC m.words = false := by
              rcases HE.out with ⟨rfl, hr⟩ | ⟨hj, hq, hr⟩
              · have := List.pairwise_iff_getElem.1 ((wordsC_iff m.words).1 hr).2 n (n + 1) hml hkl (by omega)
                rw [hl] at this
                cases this
              · exact hr
            rw [hl] at HLS
            have hrf : rightM m = false := by rw [HR.out, hres]; rfl
            have HRF := Lib.hid hrf
            clear hres hwd hl hrf
            go_wp2_with (first
              | (go_at_call 180; refine (HRW.out _).mono ?_; rintro e w2 ⟨rfl, rfl⟩)
              | (go_at_call 76; refine (HLS.out _).mono ?_; rintro e w3 ⟨rfl, n3, rfl⟩))
            go_ret
            exact ⟨by rw [HRF.out]; rfl, below_drewV HBE.out _⟩
          | true =>
            have hJ1 : n + 1 < J := by
              rcases HE.out with ⟨he, hr⟩ | ⟨hj, hq, hr⟩
              · omega
              · rcases (by omega : n + 1 < J ∨ n + 1 = J) with h | h
                · exact h
                · subst h
                  rw [okW_succ m.words n hkl, hwd, hl] at hq
                  cases hq
            rw [hl] at HLS
            clear hwd hl
            go_wp2_with (first
              | (go_at_call 180; refine (HRW.out _).mono ?_; rintro e w2 ⟨rfl, rfl⟩)
              | (go_at_call 76; refine (HLS.out _).mono ?_; rintro e w3 ⟨rfl, n3, rfl⟩))
            go_roundw
            case rel => exact ⟨n + 2, by omega, by go_num, below_drewV HBR.out _⟩
            case measure => simp [intOf]; omega
    · have hres : wordsC m.words = true := by
        rcases HE.out with ⟨_, hr⟩ | ⟨hj, _, _⟩
        · exact hr
        · omega
      have hR2 := HR.out
      rw [hres, Bool.true_and] at hR2
      have hjk : ¬ ((k : Int) < (m.words.length : Int)) := by omega
      obtain ⟨A, hA⟩ : ∃ A, nameC m.name.data.toList = A := ⟨_, rfl⟩
      rw [hA] at HN hR2
      have HR2 := Lib.hid hR2
      clear hres hR2 hA hb hbe hkk HOK HE
      cases A with
      | false =>
        go_wp2_with (go_at_call 75; refine (HN.out _).mono ?_; rintro e w2 ⟨rfl, rfl⟩)
        go_ret
        exact ⟨by rw [HR2.out]; rfl, HBE.out⟩
      | true =>
        by_cases q1 : 1 ≤ m.how
        case neg =>
          have f1 : m.how < 1 := by omega
          have hR3 : rightM m = false := by rw [HR2.out, decide_eq_false q1]; rfl
          have HR3 := Lib.hid hR3
          clear q1 hR3
          go_wp2_with (go_at_call 75; refine (HN.out _).mono ?_; rintro e w2 ⟨rfl, rfl⟩)
          go_ret
          exact ⟨by rw [HR3.out]; rfl, HBE.out⟩
        have f1 : decide (m.how < 1) = false := decide_eq_false (by omega)
        by_cases q2 : m.how ≤ 4
        case neg =>
          have f2 : 4 < m.how := by omega
          have hR3 : rightM m = false := by rw [HR2.out, decide_eq_true q1, decide_eq_false q2]; rfl
          have HR3 := Lib.hid hR3
          clear q1 q2 hR3
          go_wp2_with (go_at_call 75; refine (HN.out _).mono ?_; rintro e w2 ⟨rfl, rfl⟩)
          go_ret
          exact ⟨by rw [HR3.out]; rfl, HBE.out⟩
        have f2 : decide (4 < m.how) = false := decide_eq_false (by omega)
        by_cases q3 : 1 ≤ m.words.length
        case neg =>
          have f3 : (m.words.length : Int) < 1 := by omega
          have hR3 : rightM m = false := by rw [HR2.out, decide_eq_true q1, decide_eq_true q2, decide_eq_false q3]; rfl
          have HR3 := Lib.hid hR3
          clear q1 q2 q3 hR3
          go_wp2_with (go_at_call 75; refine (HN.out _).mono ?_; rintro e w2 ⟨rfl, rfl⟩)
          go_ret
          exact ⟨by rw [HR3.out]; rfl, HBE.out⟩
        have f3 : decide ((m.words.length : Int) < 1) = false := decide_eq_false (by omega)
        by_cases q4 : m.words.length ≤ 8
        case neg =>
          have f4 : (8 : Int) < (m.words.length : Int) := by omega
          have hR3 : rightM m = false := by rw [HR2.out, decide_eq_true q1, decide_eq_true q2, decide_eq_true q3, decide_eq_false q4]; rfl
          have HR3 := Lib.hid hR3
          clear q1 q2 q3 q4 hR3
          go_wp2_with (go_at_call 75; refine (HN.out _).mono ?_; rintro e w2 ⟨rfl, rfl⟩)
          go_ret
          exact ⟨by rw [HR3.out]; rfl, HBE.out⟩
        have f4 : decide ((8 : Int) < (m.words.length : Int)) = false := decide_eq_false (by omega)
        by_cases q5 : 2 < m.how
        · have f5 : decide (2 < m.how) = true := decide_eq_true q5
          have hR3 : rightM m = true := by rw [HR2.out, decide_eq_true q1, decide_eq_true q2, decide_eq_true q3, decide_eq_true q4, decide_eq_true q5]; rfl
          have HR3 := Lib.hid hR3
          clear q1 q2 q3 q4 hR3
          go_wp2_with (go_at_call 75; refine (HN.out _).mono ?_; rintro e w2 ⟨rfl, rfl⟩)
          go_ret
          exact ⟨by rw [HR3.out]; rfl, HBE.out⟩
        · have f5 : decide (2 < m.how) = false := decide_eq_false q5
          by_cases q6 : m.words.length = 1
          · have f6 : ((m.words.length : Int) == 1) = true := by rw [beq_iff_eq]; omega
            have hR3 : rightM m = true := by rw [HR2.out, decide_eq_true q1, decide_eq_true q2, decide_eq_true q3, decide_eq_true q4, decide_eq_false q5, decide_eq_true q6]; rfl
            have HR3 := Lib.hid hR3
            clear q1 q2 q3 q4 q5 q6 hR3
            go_wp2_with (go_at_call 75; refine (HN.out _).mono ?_; rintro e w2 ⟨rfl, rfl⟩)
            go_ret
            exact ⟨by rw [HR3.out]; rfl, HBE.out⟩
          · have f6 : ((m.words.length : Int) == 1) = false := by rw [beq_eq_false_iff_ne]; omega
            have hR3 : rightM m = false := by rw [HR2.out, decide_eq_true q1, decide_eq_true q2, decide_eq_true q3, decide_eq_true q4, decide_eq_false q5, decide_eq_false q6]; rfl
            have HR3 := Lib.hid hR3
            clear q1 q2 q3 q4 q5 q6 hR3
            go_wp2_with (go_at_call 75; refine (HN.out _).mono ?_; rintro e w2 ⟨rfl, rfl⟩)
            go_ret
            exact ⟨by rw [HR3.out]; rfl, HBE.out⟩
end Go.Proofs.YtmhekhilgllciaaGreat
/- The contracts of the document's own Sign and Text of layer 4. -/
namespace Go.Proofs.YtmhekhilgllciaaGreat
open Go.RowKit Go.Maps

set_option maxHeartbeats 800000 in
theorem rSign_any (how : Int) (w : World) (h1 : 1 ≤ how) (h4 : how ≤ 4) : Calls Tryz.prog 200 #[.int .i64 how] w fun e w' => e = .returned (.string ⟨(signT how).toArray⟩) ∧ Below w.heap.size w w' := by
  have hc : how = 1 ∨ how = 2 ∨ how = 3 ∨ how = 4 := by omega
  rcases hc with rfl | rfl | rfl | rfl
  all_goals
    clear h1 h4
    go_enter Tryz.func200, Tryz.ntmps200
    go_wp2
    go_ret
    exact ⟨rfl, (Below.refl _ _).alloc (Nat.le_refl _) _⟩

theorem joinW_take (ws : List ByteArray) (k : Nat) (h : k < ws.length) : joinW (ws.take (k + 1)) = joinW (ws.take k) ++ ((if k = 0 then [] else [124]) ++ ws[k].data.toList) := by
  cases ws with
  | nil => simp at h
  | cons s r =>
    cases k with
    | zero => simp [joinW]
    | succ j =>
      have hj : j < r.length := by simpa using h
      have e : (s :: r)[j + 1] = r[j] := rfl
      rw [List.take_succ_cons, List.take_succ_cons, List.take_succ_eq_append_getElem hj, e, if_neg (by omega)]
      simp only [joinW, List.flatMap_append, List.flatMap_cons, List.flatMap_nil, List.append_nil, List.append_assoc, List.cons_append, List.nil_append]
theorem app_bytes (l : List UInt8) (s : ByteArray) : (⟨l.toArray⟩ ++ s : ByteArray) = ⟨(l ++ s.data.toList).toArray⟩ := by
  apply bytes_ext; simp [ByteArray.data_append]
def preT (m : Mat) : Bs := m.name.data.toList ++ signT m.how ++ [34]
theorem textM_pre (m : Mat) : textM m = (preT m ++ joinW m.words) ++ [34] := by simp [textM, preT]

set_option maxHeartbeats 3200000 in
set_option maxRecDepth 100000 in
theorem r4Text_any (v : Value) (m : Mat) (w : World) (h : HasMat w v m) (hr : rightM m = true) : Calls Tryz.prog 140 #[v] w fun e w' => e = .returned (.string ⟨(textM m).toArray⟩) ∧ Below w.heap.size w w' := by
  obtain ⟨a, c, rfl, hW, hs, hwf⟩ := h
  obtain ⟨q1, q2, q3, q4⟩ := right_words hr
  obtain ⟨_, k1, k4, _⟩ := (rightM_iff m).1 hr
  have h2 := hW.2.1
  unfold maxLen at h2
  have HSG := Lib.hid (fun W => rSign_any m.how W k1 k4)
  have hsg : (signT m.how).length ≤ 2 := by
    unfold signT
    rcases signC_cases m.how with ⟨_, e⟩ | ⟨_, e⟩ | ⟨_, e⟩ | ⟨_, e⟩ | ⟨_, e⟩ <;> rw [e] <;> simp
  have hTM := textM_pre m
  have hpre : (((m.name ++ ⟨(signT m.how).toArray⟩) ++ ⟨#[34]⟩ : ByteArray)) = ⟨(preT m).toArray⟩ := by
    apply bytes_ext; simp [preT, ByteArray.data_append]
  have hpl : (preT m).length ≤ 100 := by
    have e : m.name.data.toList.length = m.name.size := by simp
    simp only [preT, List.length_append, List.length_cons, List.length_nil]
    omega
  have hbx := Blk.new w 97 #[.string m.name, .int .i64 m.how, .slice a m.words.length c]
  have hb0 : Below w.heap.size w (w.alloc (.cells #[.string m.name, .int .i64 m.how, .slice a m.words.length c] 97)) := (Below.refl _ _).alloc (Nat.le_refl _) _
  have HW := Lib.hid (fun W (hb : Below w.heap.size w W) => hW.call hb)
  have HQ1 := Lib.hid q1
  have HJT := Lib.hid (fun k h => joinW_take m.words k h)
  have hjl : ∀ k, (joinW (m.words.take k)).length ≤ 600 := fun k => joinW_len _ (fun s hs => q1 s (List.mem_of_mem_take hs)) (by simp; omega)
  have HJL := Lib.hid hjl
  have HTM := Lib.hid hTM
  have HPRE := Lib.hid hpre
  clear hW hs hwf hr q1 hTM hpre k1 k4 hjl
  generalize preT m = P at *
  generalize (signT m.how) = T at *
  go_enter Tryz.func140, Tryz.ntmps140
  go_upto_region 1 with fail
  generalize w.alloc (.cells #[.string m.name, .int .i64 m.how, .slice a m.words.length c] 97) = wx at *
  have HK := Lib.hid hbx
  have HB0 := Lib.hid hb0
  have HKP := Lib.hid (fun W (h : Below wx.heap.size wx W) => (HK.out.call h).cells3)
  have p1 : ¬ 9223372036854775807 < m.name.size + T.length := by omega
  have p2 : ¬ 9223372036854775807 < m.name.size + T.length + 1 := by omega
  clear hbx hb0 hsg
  go_cut [3] (fun p wy => p = .string ⟨P.toArray⟩ ∧ Below wx.heap.size wx wy)
  case first =>
    go_region_held3 (fun w' => w'.cell? ⟨w.heap.size, 0, none⟩ = some (.string m.name) ∧ w'.cell? ⟨w.heap.size, 1, none⟩ = some (.int .i64 m.how) ∧ w'.cell? ⟨w.heap.size, 2, none⟩ = some (.slice a m.words.length c))
      (first | exact HKP.out _ (bthen (Below.refl _ _).drew hbs) | exact HKP.out _ (Below.refl _ _).drew)
      (first
      | (go_at_call 200; (with_reducible refine (HSG.out _).mono ?_); rintro e ws ⟨rfl, hbs⟩))
    all_goals
      go_wp2_with fail
      go_meet
      exact ⟨by rw [HPRE.out], bthen (Below.refl _ _).drew hbs⟩
  case rest =>
    obtain ⟨rfl, hbc⟩ := hcut
    obtain ⟨y0, y1, y2⟩ := HKP.out _ hbc
    have hbw := bthen HB0.out hbc
    have HBW := Lib.hid hbw
    obtain ⟨_, _, _, h4⟩ := HW.out _ hbw
    rcases h4 with h4 | ⟨b, off, rfl, _, hcell⟩
    · rw [h4] at q2; simp at q2
    clear hbw hbc HW HKP HB0 HK HPRE HSG p1 p2
    have HC := Lib.hid hcell
    clear hcell
    go_upto_region 3 with fail
    clear y0 y1 y2
    go_loop [3, 16] (fun o i => ∃ k : Nat, k ≤ m.words.length ∧ i = .int .i64 k ∧ o = .string ⟨(P ++ joinW (m.words.take k)).toArray⟩) (fun _ i => m.words.length - (intOf i).toNat)
    case atStart => exact ⟨0, Nat.zero_le _, rfl, by simp [joinW]⟩
    case round =>
      obtain ⟨k, hk, rfl, rfl⟩ := hrel
      have hjl := HJL.out k
      by_cases hkl : k < m.words.length
      · have hc := HC.out k hkl
        have hj := HJT.out k hkl
        have hsz := HQ1.out _ (List.getElem_mem hkl)
        generalize hX : m.words[k] = X at *
        clear hX
        by_cases hk0 : k = 0
        · subst hk0
          rw [if_pos rfl, List.nil_append] at hj
          simp only [Nat.add_zero] at hc
          have HJ : Hid (⟨(P ++ joinW (m.words.take 0)).toArray⟩ ++ X = (⟨(P ++ joinW (m.words.take (0 + 1))).toArray⟩ : ByteArray)) := Lib.hid (by rw [hj, app_bytes]; simp)
          have p1 : ¬ 9223372036854775807 < P.length + (joinW (m.words.take 0)).length + X.size := by omega
          clear hj hsz hjl
          generalize joinW (m.words.take 0) = J at *
          go_wp2
          go_round
          case rel => exact ⟨0 + 1, by omega, by go_num, by rw [HJ.out]⟩
          case measure => simp [intOf]; omega
        · rw [if_neg hk0] at hj
          have HJ : Hid (((⟨(P ++ joinW (m.words.take k)).toArray⟩ ++ ⟨#[124]⟩) ++ X : ByteArray) = (⟨(P ++ joinW (m.words.take (k + 1))).toArray⟩ : ByteArray)) := Lib.hid (by rw [hj]; apply bytes_ext; simp [ByteArray.data_append])
          have p1 : ¬ 9223372036854775807 < P.length + (joinW (m.words.take k)).length + 1 := by omega
          have p2 : ¬ 9223372036854775807 < P.length + (joinW (m.words.take k)).length + 1 + X.size := by omega
          have hk1 : 0 < k := by omega
          clear hj hsz hjl hk0
          generalize joinW (m.words.take k) = J at *
          go_wp2
          go_round
          case rel => exact ⟨k + 1, by omega, by go_num, by rw [HJ.out]⟩
          case measure => simp [intOf]; omega
      · obtain rfl : k = m.words.length := by omega
        have e : ((⟨(P ++ joinW (m.words.take m.words.length)).toArray⟩ ++ ⟨#[34]⟩ : ByteArray)) = ⟨(textM m).toArray⟩ := by
          rw [HTM.out, List.take_length]; apply bytes_ext; simp [ByteArray.data_append]
        have HE := Lib.hid e
        have p1 : ¬ 9223372036854775807 < P.length + (joinW (m.words.take m.words.length)).length + 1 := by omega
        clear e hjl
        generalize joinW (m.words.take m.words.length) = J at *
        go_wp2
        go_ret
        exact ⟨by rw [← HE.out]; rfl, HBW.out⟩
end Go.Proofs.YtmhekhilgllciaaGreat
/- The contracts of the document's own matchers, Matchers, Quiet and Inhibit of layer 10. -/
namespace Go.Proofs.YtmhekhilgllciaaGreat
open Go.RowKit

set_option maxHeartbeats 3200000 in
set_option maxRecDepth 100000 in
theorem rMatch10_any (a : Option Addr) (c : Nat) (ms : List Mat) (w : World) (h : HasMats w a c ms) : Calls Tryz.prog 77 #[.slice a ms.length c] w (BoolB (matchC ms) w) := by
  obtain ⟨I, hI, hgood, hend⟩ := all_endB rightM ms
  have y1 : decide ((ms.length : Int) ≤ 8) = decide (ms.length ≤ 8) := by rw [Bool.eq_iff_iff, decide_eq_true_iff, decide_eq_true_iff]; omega
  obtain ⟨R, hR⟩ : ∃ R, matchC ms = R := ⟨_, rfl⟩
  have hA : R = (ms.all rightM && decide (ms.length ≤ 8)) := by rw [← hR, Bool.and_comm]; rfl
  rw [hR]
  generalize decide (ms.length ≤ 8) = W1 at *
  generalize ms.all rightM = A1 at *
  have HA := Lib.hid hA
  have HG := Lib.hid hgood
  have HE := Lib.hid hend
  have HM := Lib.hid h
  have HY := Lib.hid y1
  have h1 := h.1
  have h2 := h.2.1
  unfold maxLen at h2
  clear hA hgood hend h hR y1
  go_enter Tryz.func77, Tryz.ntmps77
  go_wp2_with fail
  go_loopg [7, 4] ms.length (fun gg iv _ wr => ∃ k : Nat, k + gg = ms.length ∧ k ≤ I ∧ iv = .int .i64 (k : Int) ∧ Below w.heap.size w wr)
  case atStart => exact ⟨0, by omega, Nat.zero_le _, rfl, Below.refl _ _⟩
  case round =>
    obtain ⟨k, hkg, hkI, rfl, hbr⟩ := hrel
    cases gk with
    | succ gg =>
      have hkl : k < ms.length := by omega
      obtain ⟨b1, o1, rfl, x1, z1, ⟨p0, p1, p2⟩, p3, p4, p5⟩ : ∃ b off, a = some ⟨b, off, none⟩ ∧ ∃ x y,
          (w.cell? ⟨b, off + k * 3, none⟩ = some (.string ms[k].name) ∧ w.cell? ⟨b, off + k * 3 + 1, none⟩ = some (.int .i64 ms[k].how) ∧ w.cell? ⟨b, off + k * 3 + 2, none⟩ = some (.slice x ms[k].words.length y)) ∧
          HasStrs w x y ms[k].words ∧ ms[k].name.size ≤ maxLen ∧ (Lit.int .i64 ms[k].how).wf = true := by
        rcases HM.out.2.2 with h | ⟨b, off, h1, _, h3⟩
        · rw [h] at hkl; simp at hkl
        · exact ⟨b, off, h1, h3 k hkl⟩
      have hrr : k = I → rightM ms[k] = false ∧ R = false := fun e => by
        rcases HE.out with ⟨h1, _⟩ | ⟨_, h3, h4⟩
        · omega
        · subst e
          exact ⟨h3, by rw [HA.out, h4]; rfl⟩
      have hgg : k ≠ I → rightM ms[k] = true := fun e => HG.out k (by omega) hkl
      generalize ms[k] = x at *
      have e0 := cellL hbr p0
      have e1 := cellL hbr p1
      have e2 := cellL hbr p2
      have hb1 := balR (o := .cells #[.string x.name, .int .i64 x.how, .slice x1 x.words.length z1] 97) (Below.refl wr.heap.size wr)
      have hA := Blk.new wr 97 #[.string x.name, .int .i64 x.how, .slice x1 x.words.length z1]
      have hM := r4Right_any (.agg #[.string x.name, .int .i64 x.how, .slice x1 x.words.length z1]) x (wr.alloc (.cells #[.string x.name, .int .i64 x.how, .slice x1 x.words.length z1] 97)) ⟨x1, z1, rfl, p3.call (bthen hbr hb1), p4, p5⟩
      obtain ⟨X, hX⟩ : ∃ X, rightM x = X := ⟨_, rfl⟩
      rw [hX] at hM hrr hgg
      have HMM := Lib.hid hM
      have HB1 := Lib.hid (bthen hbr hb1)
      obtain ⟨d0, d1, d2⟩ := hA.cells3
      clear hX hM hA hb1 hbr p0 p1 p2 p3 p4 p5
      by_cases hkI2 : k = I
      · obtain ⟨rfl, rfl⟩ := hrr hkI2
        clear hrr hgg hkI2 hkI
        go_wp2_with (go_at_call 117; refine HMM.out.mono ?_; rintro e w3 ⟨rfl, hb3⟩)
        go_ret
        exact ⟨rfl, bthen HB1.out hb3⟩
      · obtain rfl := hgg hkI2
        clear hrr hgg
        go_wp2_with (go_at_call 117; refine HMM.out.mono ?_; rintro e w3 ⟨rfl, hb3⟩)
        go_roundg gg
        case measure => omega
        case rel => exact ⟨k + 1, by omega, by omega, by go_num, bthen HB1.out hb3⟩
    | zero =>
      obtain rfl : k = ms.length := by omega
      obtain rfl : A1 = true := by
        rcases HE.out with ⟨_, e⟩ | ⟨hj, _⟩
        · exact e
        · omega
      rw [Bool.true_and] at HA
      have HBR := Lib.hid hbr
      clear hbr
      go_wp2_with fail
      go_ret
      exact ⟨by rw [HY.out, HA.out]; rfl, HBR.out⟩
set_option maxHeartbeats 3200000 in
set_option maxRecDepth 100000 in
theorem rMatchers10_any (a : Option Addr) (c : Nat) (ms : List Mat) (w : World) (h : HasMats w a c ms) (hg : ms.all rightM = true) (h8 : ms.length ≤ 8) : Calls Tryz.prog 101 #[.slice a ms.length c] w (fun e w' => e = .returned (.string (bindS (ms.map textV))) ∧ Below w.heap.size w w') := by
  obtain ⟨i0, hi, hz0, hz1, hz2⟩ := info_parts Tryz.infoS
  have HG := Lib.hid (List.all_eq_true.1 hg)
  have hsm := side_may ms h8
  have hbs : bindS (ms.map textV) = ⟨(bindL (ms.map textV)).toArray⟩ := by unfold bindS; rw [if_pos hsm.1]
  have hbt : (bindL (ms.map textV)).length ≤ 1000000000 := by
    have := hsm.2
    rw [hbs] at this
    rw [size_list] at this
    simp only at this
    omega
  have HBS := Lib.hid hbs
  have HBT := Lib.hid hbt
  have HM := Lib.hid h
  have HZ := Lib.hid (show ∀ s ∈ ms.map textV, s.size ≤ maxLen from fun s hs => by obtain ⟨m, _, rfl⟩ := List.mem_map.1 hs; exact textV_max m)
  have h1 := h.1
  have h2 := h.2.1
  unfold maxLen at h2
  have hown := OwnS.made 9 w
  have hb := (Below.refl w.heap.size w).alloc (Nat.le_refl _) (.cells #[] 9)
  have hz : w.heap.size ≤ (w.alloc (.cells #[] 9)).heap.size := hb.size
  clear h hg hsm hbs hbt
  go_enter Tryz.func101, Tryz.ntmps101
  go_upto_region 2 with fail
  generalize w.alloc (.cells #[] 9) = wx at *
  go_wp2_with fail
  go_loopg [9, 3, 5] ms.length (fun gg iv v _ wr => ∃ (V : Value) (k : Nat), V = v ∧ k + gg = ms.length ∧ iv = .int .i64 (k : Int) ∧ OwnS 9 wr w.heap.size V ((ms.take k).map textV) ∧ Below w.heap.size w wr ∧ w.heap.size ≤ wr.heap.size)
  case atStart => exact ⟨_, 0, rfl, by omega, rfl, by simpa using hown, hb, hz⟩
  case round =>
    obtain ⟨V, k, rfl, hkg, rfl, hown, hbr, hzr⟩ := hrel
    cases gk with
    | zero =>
      obtain rfl : k = ms.length := by omega
      rw [List.take_length] at hown
      obtain ⟨ra, rc, rfl, hrs⟩ := hown.strs HZ.out
      have hcall := rbindT_any ra rc _ wr hrs HBT.out
      rw [List.length_map] at hcall
      have HCA := Lib.hid hcall
      have HBR := Lib.hid hbr
      clear hown hbr hcall hrs
      simp only [List.length_map]
      go_wp2_with (go_at_call 100; refine HCA.out.mono ?_; rintro e w3 ⟨rfl, hb3⟩)
      go_ret
      exact ⟨by rw [HBS.out]; rfl, bthen HBR.out hb3⟩
    | succ gg =>
      have hkl : k < ms.length := by omega
      obtain ⟨b1, o1, rfl, x1, z1, ⟨p0, p1, p2⟩, p3, p4, p5⟩ : ∃ b off, a = some ⟨b, off, none⟩ ∧ ∃ x y,
          (w.cell? ⟨b, off + k * 3, none⟩ = some (.string ms[k].name) ∧ w.cell? ⟨b, off + k * 3 + 1, none⟩ = some (.int .i64 ms[k].how) ∧ w.cell? ⟨b, off + k * 3 + 2, none⟩ = some (.slice x ms[k].words.length y)) ∧
          HasStrs w x y ms[k].words ∧ ms[k].name.size ≤ maxLen ∧ (Lit.int .i64 ms[k].how).wf = true := by
        rcases HM.out.2.2 with h | ⟨b, off, h1, _, h3⟩
        · rw [h] at hkl; simp at hkl
        · exact ⟨b, off, h1, h3 k hkl⟩
      have hts : (ms.take (k + 1)).map textV = (ms.take k).map textV ++ [textV ms[k]] := by
        rw [List.take_succ_eq_append_getElem hkl, List.map_append]; rfl
      have hll : ((ms.take k).map textV).length ≤ 1000000 := by simp; omega
      have hgk := HG.out _ (List.getElem_mem hkl)
      have HTS := Lib.hid hts
      clear hts
      generalize ms[k] = x at *
      have e0 := cellL hbr p0
      have e1 := cellL hbr p1
      have e2 := cellL hbr p2
      have hbn := balR (o := .cells #[.string x.name, .int .i64 x.how, .slice x1 x.words.length z1] 97) (Below.refl wr.heap.size wr)
      have hN := Blk.new wr 97 #[.string x.name, .int .i64 x.how, .slice x1 x.words.length z1]
      have hcall := r4Text_any (.agg #[.string x.name, .int .i64 x.how, .slice x1 x.words.length z1]) x (wr.alloc (.cells #[.string x.name, .int .i64 x.how, .slice x1 x.words.length z1] 97)) ⟨x1, z1, rfl, p3.call (bthen hbr hbn), p4, p5⟩ hgk
      rw [show (⟨(textM x).toArray⟩ : ByteArray) = textV x by unfold textV; rw [if_pos hgk]] at hcall
      obtain ⟨d0, d1, d2⟩ := hN.cells3
      have hownn := hown.call hbn
      have hbrn := hbr.trans (hbn.mono hzr)
      have hzn := Nat.le_trans hzr hbn.size
      have HCA := Lib.hid hcall
      generalize (ms.take k).map textV = M at *
      clear hN hbn hown hbr hcall p0 p1 p2 p3 p4 p5 hgk
      go_upto_region 5 with fail
      generalize wr.alloc (.cells #[.string x.name, .int .i64 x.how, .slice x1 x.words.length z1] 97) = wn at *
      clear e0 e1 e2
      generalize textV x = Y at *
      go_wp2_with (first
        | (go_at_call 140; refine HCA.out.mono ?_; rintro e w3 ⟨rfl, hb3⟩; have ho3 := hownn.call hb3; have hz3 := Nat.le_trans hzn hb3.size)
        | (refine wpList_pushStr w3 (by rfl) (.tmp 13) (.tmp 16) 24 (by rfl) w.heap.size 9 i0 (.string ⟨#[]⟩) Tryz.underlying24 hi hz0 hz1 hz2 rfl V M Y (by rfl) ho3 (by rfl) hll hz3 ?_; intro v4 w4 ho4 hg4))
      have hb4 := ho3.grown (hbrn.trans (hb3.mono hzn)) (Nat.le_refl _) hz3 hg4
      go_roundg gg
      case measure => omega
      case rel => exact ⟨v4, k + 1, rfl, by omega, by go_num, by rw [HTS.out]; exact ho4, hb4, Nat.le_trans hz3 hg4.size⟩
/-- between: the inhibit's block stays -/
structure QuSt (w : World) (g0 : Nat) (x : InA) (u : World) : Prop where
  below : Below w.heap.size w u
  blk : Blk u g0 51 #[.slice x.sa x.s.length x.sc, .slice x.ta x.t.length x.tc, .slice x.ea x.e.length x.ec]
theorem QuSt.call {w u u1 : World} {g0 : Nat} {x : InA} (h : QuSt w g0 x u) (hb : Below u.heap.size u u1) : QuSt w g0 x u1 := ⟨bthen h.below hb, h.blk.call hb⟩
theorem QuSt.cells {w u : World} {g0 : Nat} {x : InA} (h : QuSt w g0 x u) : (fun w' : World => w'.cell? ⟨g0, 0, none⟩ = some (.slice x.sa x.s.length x.sc) ∧ w'.cell? ⟨g0, 1, none⟩ = some (.slice x.ta x.t.length x.tc) ∧ w'.cell? ⟨g0, 2, none⟩ = some (.slice x.ea x.e.length x.ec)) u := h.blk.cells3
theorem quiet_may {x : InA} (hg : InA.good x = true) : mayB [bindS (x.s.map textV), bindS (x.t.map textV), bindS x.e] = true := by
  obtain ⟨⟨c1, _⟩, c3, _⟩ := good_sides hg
  refine mayB_of _ (by simp) (fun s hs => ?_)
  simp only [List.mem_cons, List.not_mem_nil, or_false] at hs
  rcases hs with rfl | rfl | rfl
  · exact (side_may _ c1).2
  · exact (side_may _ c3).2
  · exact (names_may hg).2
theorem bindS_yes {ss : List ByteArray} (h : mayB ss = true) : bindS ss = ⟨(bindL ss).toArray⟩ := by unfold bindS; rw [if_pos h]
theorem bindL_may {ss : List ByteArray} (h : mayB ss = true) : (bindL ss).length ≤ 1000000000 := by
  obtain ⟨h1, h2⟩ := mayB_true h
  have := bindL_len ss (fun s hs => by have := h2 s hs; omega)
  omega
set_option maxHeartbeats 12800000 in
set_option maxRecDepth 100000 in
theorem rQuiet_any (x : InA) (w : World) (h : InA.ok w x) (hg : InA.good x = true) : Calls Tryz.prog 46 #[.agg #[.slice x.sa x.s.length x.sc, .slice x.ta x.t.length x.tc, .slice x.ea x.e.length x.ec]] w (fun e w' => e = .returned (.string (inhT x)) ∧ Below w.heap.size w w') := by
  have hb0 := balR (o := .cells #[.slice x.sa x.s.length x.sc, .slice x.ta x.t.length x.tc, .slice x.ea x.e.length x.ec] 51) (Below.refl w.heap.size w)
  have hA := Blk.new w 51 #[.slice x.sa x.s.length x.sc, .slice x.ta x.t.length x.tc, .slice x.ea x.e.length x.ec]
  obtain ⟨⟨m1, m2⟩, m3, m4⟩ := good_sides hg
  have hm := quiet_may hg
  have hI : inhT x = ⟨(bindL [bindS (x.s.map textV), bindS (x.t.map textV), bindS x.e]).toArray⟩ := by
    rw [← bindS_yes hm]; rfl
  rw [hI]
  have HE1 := Lib.hid (fun u (hu : Below w.heap.size w u) => rMatchers10_any x.sa x.sc x.s u (h.1.call hu) m2 m1)
  have HE2 := Lib.hid (fun u (hu : Below w.heap.size w u) => rMatchers10_any x.ta x.tc x.t u (h.2.1.call hu) m4 m3)
  have HE3 := Lib.hid (fun u (hu : Below w.heap.size w u) => show Calls Tryz.prog 100 #[.slice x.ea x.e.length x.ec] u (fun e w' => e = .returned (.string (bindS x.e)) ∧ Below u.heap.size u w') from by rw [bindS_yes (names_may hg).1]; exact rbindT_any x.ea x.ec x.e u (h.2.2.1.call hu) (bindL_may (names_may hg).1))
  have HBT := Lib.hid (bindL_may hm)
  clear hI hm m1 m2 m3 m4
  have hst : QuSt w w.heap.size x (w.alloc (.cells #[.slice x.sa x.s.length x.sc, .slice x.ta x.t.length x.tc, .slice x.ea x.e.length x.ec] 51)) := ⟨hb0, hA⟩
  clear hb0 hA h hg
  go_enter Tryz.func46, Tryz.ntmps46
  go_upto_region 1 with fail
  obtain ⟨g0, hg⟩ : ∃ g, w.heap.size = g := ⟨_, rfl⟩
  generalize w.alloc (.cells #[.slice x.sa x.s.length x.sc, .slice x.ta x.t.length x.tc, .slice x.ea x.e.length x.ec] 51) = wx at *
  rw [hg] at hst ⊢
  clear hg
  have s0 : QuSt w g0 x wx.drew := hst.call (Below.refl _ _).drew
  have hS := s0.cells
  refine wp_region_marked (fun w' : World => w'.cell? ⟨g0, 0, none⟩ = some (.slice x.sa x.s.length x.sc) ∧ w'.cell? ⟨g0, 1, none⟩ = some (.slice x.ta x.t.length x.tc) ∧ w'.cell? ⟨g0, 2, none⟩ = some (.slice x.ea x.e.length x.ec)) 11 (by kernel_rfl) ?_
  refine wpAnyM_pure (v := ?v0) 0 rfl (by kernel_rfl) (by kernel_rfl) (by kernel_rfl) (by kernel_rfl) (by decide) (fun _ _ _ h => h) (Or.inl ⟨by rfl, ?hy0⟩) hS ?rest0
  case hy0 => intro wq hSw; go_simp; (try with_reducible rfl)
  case rest0 =>
  try simp only [Act.put, List.setIfInBounds_toArray, List.set_cons_zero, List.set_cons_succ]
  refine wpAnyM_loadP [] (v := ?v1) 1 rfl (by kernel_rfl) (by kernel_rfl) (by kernel_rfl) (by kernel_rfl) (by decide) (by kernel_rfl) (fun _ _ _ h => h) (Or.inl ⟨by rfl, ?hy1⟩) hS ?rest1
  case hy1 => intro wq hSw; (try dsimp only at hSw); obtain ⟨c0, c1, c2⟩ := hSw; go_simp; (try with_reducible rfl)
  case rest1 =>
  try simp only [Act.put, List.setIfInBounds_toArray, List.set_cons_zero, List.set_cons_succ]
  refine wpAnyM_pure (v := ?v3) 3 rfl (by kernel_rfl) (by kernel_rfl) (by kernel_rfl) (by kernel_rfl) (by decide) (fun _ _ _ h => h) (Or.inl ⟨by rfl, ?hy3⟩) hS ?rest3
  case hy3 => intro wq hSw; go_simp; (try with_reducible rfl)
  case rest3 =>
  try simp only [Act.put, List.setIfInBounds_toArray, List.set_cons_zero, List.set_cons_succ]
  refine wpAnyM_loadP [] (v := ?v4) 4 rfl (by kernel_rfl) (by kernel_rfl) (by kernel_rfl) (by kernel_rfl) (by decide) (by kernel_rfl) (fun _ _ _ h => h) (Or.inl ⟨by rfl, ?hy4⟩) hS ?rest4
  case hy4 => intro wq hSw; (try dsimp only at hSw); obtain ⟨c0, c1, c2⟩ := hSw; go_simp; (try with_reducible rfl)
  case rest4 =>
  try simp only [Act.put, List.setIfInBounds_toArray, List.set_cons_zero, List.set_cons_succ]
  refine wpAnyM_pure (v := ?v6) 6 rfl (by kernel_rfl) (by kernel_rfl) (by kernel_rfl) (by kernel_rfl) (by decide) (fun _ _ _ h => h) (Or.inl ⟨by rfl, ?hy6⟩) hS ?rest6
  case hy6 => intro wq hSw; go_simp; (try with_reducible rfl)
  case rest6 =>
  try simp only [Act.put, List.setIfInBounds_toArray, List.set_cons_zero, List.set_cons_succ]
  refine wpAnyM_loadP [] (v := ?v7) 7 rfl (by kernel_rfl) (by kernel_rfl) (by kernel_rfl) (by kernel_rfl) (by decide) (by kernel_rfl) (fun _ _ _ h => h) (Or.inl ⟨by rfl, ?hy7⟩) hS ?rest7
  case hy7 => intro wq hSw; (try dsimp only at hSw); obtain ⟨c0, c1, c2⟩ := hSw; go_simp; (try with_reducible rfl)
  case rest7 =>
  try simp only [Act.put, List.setIfInBounds_toArray, List.set_cons_zero, List.set_cons_succ]
  refine wpAnyM_one 2 rfl (by kernel_rfl) (fun K hK => ?_)
  go_simp
  go_at_call 101
  refine (HE1.out _ s0.below).mono ?_
  rintro e u1 ⟨rfl, hd1⟩
  have s1 := s0.call hd1
  refine hK.out _ _ s1.cells ?_
  clear hS
  have hS := s1.cells
  clear hK
  try simp only [Act.put, List.setIfInBounds_toArray, List.set_cons_zero, List.set_cons_succ]
  refine wpAnyM_one 5 rfl (by kernel_rfl) (fun K hK => ?_)
  go_simp
  go_at_call 101
  refine (HE2.out _ s1.below).mono ?_
  rintro e u2 ⟨rfl, hd2⟩
  have s2 := s1.call hd2
  refine hK.out _ _ s2.cells ?_
  clear hS
  have hS := s2.cells
  clear hK
  try simp only [Act.put, List.setIfInBounds_toArray, List.set_cons_zero, List.set_cons_succ]
  refine wpAnyM_one 8 rfl (by kernel_rfl) (fun K hK => ?_)
  go_simp
  go_at_call 100
  refine (HE3.out _ s2.below).mono ?_
  rintro e u3 ⟨rfl, hd3⟩
  have s3 := s2.call hd3
  refine hK.out _ _ s3.cells ?_
  clear hS
  have hS := s3.cells
  clear hK
  try simp only [Act.put, List.setIfInBounds_toArray, List.set_cons_zero, List.set_cons_succ]
  refine wpAnyM_one 9 rfl (by kernel_rfl) (fun K hK => ?_)
  go_simp
  have hn4 := (Below.refl u3.heap.size u3).alloc (Nat.le_refl _) (.cells #[.string (bindS (x.s.map textV)), .string (bindS (x.t.map textV)), .string (bindS x.e)] 9)
  have s4 := s3.call hn4
  have hr4 := strs3 u3 (bindS (x.s.map textV)) (bindS (x.t.map textV)) (bindS x.e) (bindS_max _) (bindS_max _) (bindS_max _)
  refine hK.out _ _ s4.cells ?_
  clear hS
  have hS := s4.cells
  clear hK
  try simp only [Act.put, List.setIfInBounds_toArray, List.set_cons_zero, List.set_cons_succ]
  refine wpAnyM_one 10 rfl (by kernel_rfl) (fun K hK => ?_)
  go_simp
  go_at_call 100
  refine (rbindT_any _ 3 [bindS (x.s.map textV), bindS (x.t.map textV), bindS x.e] _ hr4 HBT.out).mono ?_
  rintro e u5 ⟨rfl, hd5⟩
  have s5 := s4.call hd5
  refine hK.out _ _ s5.cells ?_
  clear hS
  have hS := s5.cells
  clear hK
  try simp only [Act.put, List.setIfInBounds_toArray, List.set_cons_zero, List.set_cons_succ]
  refine wpAnyM_tail rfl (by decide) (by decide) (by kernel_rfl) ?_
  simp only [List.drop_succ_cons, List.drop_zero]
  go_wp2_with fail
  go_ret
  exact ⟨rfl, s5.below⟩
/-- may the names of an inhibit be, up to a place? -/
theorem ok_names (es : List ByteArray) (k : Nat) (h : k < es.length) : okAt (byLabs es) k = (nameC es[k].data.toList && (decide (k = 0) || lessB (es.getD (k - 1) ⟨#[]⟩).data.toList es[k].data.toList)) := by
  have hl : (byLabs es).length = es.length := by simp [byLabs]
  have hg : ∀ k (h : k < (byLabs es).length), (byLabs es)[k] = (es[k]'(by omega), ⟨#[118]⟩) := fun k h => by simp [byLabs]
  have hc : ∀ b : ByteArray, labC (b, ⟨#[118]⟩) = nameC b.data.toList := fun b => by
    unfold labC
    rw [show ((b, (⟨#[118]⟩ : ByteArray)) : Lab).2 = ⟨#[118]⟩ from rfl, show valC (⟨#[118]⟩ : ByteArray).data.toList = true from by decide, Bool.and_true]
  cases k with
  | zero => rw [okAt_zero _ (by omega), hg, hc]; simp
  | succ j =>
    rw [okAt_succ _ _ (by omega), hg, hg, hc]
    have hj : j < es.length := by omega
    simp [ltL, hj]
theorem names_end (es : List ByteArray) : ∃ J, J ≤ es.length ∧ (∀ k, k < J → okAt (byLabs es) k = true) ∧ (J = es.length ∧ rightC (byLabs es) = decide (es.length ≤ 8) ∨ J < es.length ∧ okAt (byLabs es) J = false ∧ rightC (byLabs es) = false) := by
  have hl : (byLabs es).length = es.length := by simp [byLabs]
  have hR : rightC (byLabs es) = true ↔ es.length ≤ 8 ∧ ∀ k, k < es.length → okAt (byLabs es) k = true := by
    simp only [rightC, List.all_eq_true, List.mem_range, Bool.and_eq_true, decide_eq_true_eq, hl]
  by_cases hall : ∀ k, k < es.length → okAt (byLabs es) k = true
  · refine ⟨es.length, Nat.le_refl _, hall, .inl ⟨rfl, ?_⟩⟩
    rw [Bool.eq_iff_iff, hR, decide_eq_true_eq]
    exact ⟨fun h => h.1, fun h => ⟨h, hall⟩⟩
  · obtain ⟨j, hj, hp, ha⟩ := first_not _ _ hall
    refine ⟨j, Nat.le_of_lt hj, ha, .inr ⟨hj, hp, ?_⟩⟩
    rw [Bool.eq_false_iff, Ne, hR]
    intro h
    rw [h.2 j hj] at hp
    cases hp
set_option maxHeartbeats 12800000 in
set_option maxRecDepth 100000 in
theorem rInhibit_any (x : InA) (w : World) (h : InA.ok w x) : Calls Tryz.prog 28 #[.agg #[.slice x.sa x.s.length x.sc, .slice x.ta x.t.length x.tc, .slice x.ea x.e.length x.ec]] w (BoolB (InA.good x) w) := by
  have hb0 := balR (o := .cells #[.slice x.sa x.s.length x.sc, .slice x.ta x.t.length x.tc, .slice x.ea x.e.length x.ec] 51) (Below.refl w.heap.size w)
  have hA := Blk.new w 51 #[.slice x.sa x.s.length x.sc, .slice x.ta x.t.length x.tc, .slice x.ea x.e.length x.ec]
  obtain ⟨J, hJ, hok, hend⟩ := names_end x.e
  have H1 := Lib.hid (fun u (hu : Below w.heap.size w u) => rMatch10_any x.sa x.sc x.s u (h.1.call hu))
  have H2 := Lib.hid (fun u (hu : Below w.heap.size w u) => rMatch10_any x.ta x.tc x.t u (h.2.1.call hu))
  obtain ⟨R, hR⟩ : ∃ R, InA.good x = R := ⟨_, rfl⟩
  have hRR : R = (decide (0 < x.s.length) && (decide (0 < x.t.length) && (rightC (byLabs x.e) && (matchC x.s && matchC x.t)))) := by
    rw [← hR]
    unfold InA.good sideC
    cases decide (0 < x.s.length) <;> cases decide (0 < x.t.length) <;> cases rightC (byLabs x.e) <;> cases matchC x.s <;> cases matchC x.t <;> rfl
  obtain ⟨S1, z1⟩ : ∃ B, decide (0 < x.s.length) = B := ⟨_, rfl⟩
  obtain ⟨S2, z2⟩ : ∃ B, decide (0 < x.t.length) = B := ⟨_, rfl⟩
  obtain ⟨S3, z3⟩ : ∃ B, decide (x.e.length ≤ 8) = B := ⟨_, rfl⟩
  have y1 : decide ((0 : Int) < (x.s.length : Int)) = S1 := by rw [← z1, Bool.eq_iff_iff, decide_eq_true_iff, decide_eq_true_iff]; omega
  have y2 : decide ((0 : Int) < (x.t.length : Int)) = S2 := by rw [← z2, Bool.eq_iff_iff, decide_eq_true_iff, decide_eq_true_iff]; omega
  have y3 : decide ((x.e.length : Int) ≤ 8) = S3 := by rw [← z3, Bool.eq_iff_iff, decide_eq_true_iff, decide_eq_true_iff]; omega
  rw [z1, z2] at hRR
  rw [z3] at hend
  rw [hR]
  generalize matchC x.s = S4 at *
  generalize matchC x.t = S5 at *
  generalize rightC (byLabs x.e) = N at *
  have hE := h.2.2.1
  have HSZ := Lib.hid hE.2.2.1
  have he1 := hE.1
  have he2 := hE.2.1
  unfold maxLen at he2
  have HE := Lib.hid hE
  have HOK := Lib.hid hok
  have HEND := Lib.hid hend
  have HRR := Lib.hid hRR
  have HNM := Lib.hid (fun k (hk : k < x.e.length) => ok_names x.e k hk)
  have HB0 := Lib.hid hb0
  clear h hR hRR hok hend hE hb0
  obtain ⟨s, t, es, sa, sc, ta, tc, ea, ec⟩ := x
  simp only at *
  go_enter Tryz.func28, Tryz.ntmps28
  go_upto_region 1 with fail
  obtain ⟨g, hg⟩ : ∃ g, w.heap.size = g := ⟨_, rfl⟩
  generalize w.alloc (.cells #[.slice sa s.length sc, .slice ta t.length tc, .slice ea es.length ec] 51) = wx at *
  rw [hg] at hA ⊢
  clear hg
  have HAC := Lib.hid (fun W (hW : Below wx.heap.size wx W) => (hA.call hW).cells3)
  obtain ⟨c0, c1, c2⟩ := hA.cells3
  clear hA
  go_wp2_with fail
  clear c0 c1 c2
  go_loopg [8, 3, 4] es.length (fun gg iv _ _ wr => ∃ k : Nat, k + gg = es.length ∧ k ≤ J ∧ iv = .int .i64 (k : Int) ∧ Below wx.heap.size wx wr)
  case atStart => exact ⟨0, by omega, Nat.zero_le _, rfl, Below.refl _ _⟩
  case round =>
    obtain ⟨k, hkg, hkJ, rfl, hbr⟩ := hrel
    obtain ⟨d0, d1, d2⟩ := HAC.out _ hbr
    cases gk with
    | succ gg =>
      have hkl : k < es.length := by omega
      obtain ⟨b, off, rfl, hcell⟩ : ∃ b off, ea = some ⟨b, off, none⟩ ∧ ∀ i (h : i < es.length), w.cell? ⟨b, off + i, none⟩ = some (.string es[i]) := by
        rcases HE.out.2.2.2 with h | ⟨b, off, h1, _, h2⟩
        · rw [h] at hkl; simp at hkl
        · exact ⟨b, off, h1, h2⟩
      have hck := cellL (bthen HB0.out hbr) (hcell k hkl)
      have hnk := HNM.out k hkl
      have hsz := HSZ.out es[k] (List.getElem_mem hkl)
      have hN := rName_any es[k] wr hsz
      have hst : k < J → okAt (byLabs es) k = true := fun h => HOK.out k h
      have hstop : k = J → okAt (byLabs es) k = false ∧ R = false := fun e => by
        rcases HEND.out with ⟨h1, _⟩ | ⟨_, h3, h4⟩
        · omega
        · subst e
          exact ⟨h3, by rw [HRR.out, h4]; cases S1 <;> cases S2 <;> rfl⟩
      obtain ⟨NB, hNB⟩ : ∃ B, nameC es[k].data.toList = B := ⟨_, rfl⟩
      rw [hNB] at hN hnk
      generalize okAt (byLabs es) k = OK at *
      have HN := Lib.hid hN
      have HBR := Lib.hid hbr
      clear hN hbr hNB
      by_cases hk0 : k = 0
      · have dgt : decide (0 < k) = false := decide_eq_false (by omega)
        have dgt2 : decide ((0 : Int) < (k : Int)) = false := decide_eq_false (by omega)
        rw [decide_eq_true hk0, Bool.true_or, Bool.and_true] at hnk
        subst hnk
        clear hcell hk0
        generalize es[k] = x0 at *
        by_cases hj : k = J
        · obtain ⟨rfl, rfl⟩ := hstop hj
          clear hst hstop hsz hj hkJ
          go_wp2_with (go_at_call 75; refine HN.out.mono ?_; rintro e w3 ⟨rfl, rfl⟩)
          go_ret
          exact ⟨rfl, bthen HB0.out HBR.out⟩
        · obtain rfl := hst (by omega)
          clear hst hstop hsz
          go_wp2_with (go_at_call 75; refine HN.out.mono ?_; rintro e w3 ⟨rfl, rfl⟩)
          go_roundg gg
          case measure => omega
          case rel => exact ⟨k + 1, by omega, by omega, by go_num, HBR.out⟩
      · obtain ⟨j, rfl⟩ : ∃ j, k = j + 1 := ⟨k - 1, by omega⟩
        have hjl : j < es.length := by omega
        have hcj := cellL (bthen HB0.out HBR.out) (hcell j hjl)
        have hL := rLess_any es[j] es[j + 1] wr (HSZ.out _ (List.getElem_mem hjl)) hsz
        rw [decide_eq_false hk0, Bool.false_or, Nat.add_sub_cancel, show es.getD j ⟨#[]⟩ = es[j] by simp [hjl]] at hnk
        obtain ⟨LB, hLB⟩ : ∃ B, lessB es[j].data.toList es[j + 1].data.toList = B := ⟨_, rfl⟩
        rw [hLB] at hL hnk
        have HL := Lib.hid hL
        have e1 : ((j + 1 : Nat) : Int) - 1 = (j : Int) := by omega
        have dgt : decide (0 < j + 1) = true := decide_eq_true (by omega)
        have dgt2 : decide ((0 : Int) < (j : Int) + 1) = true := decide_eq_true (by omega)
        clear hcell hL hLB hsz
        generalize es[j] = xj at *
        generalize es[j + 1] = xk at *
        by_cases hj : j + 1 = J
        · obtain ⟨rfl, rfl⟩ := hstop hj
          clear hst hstop hj hkJ
          cases NB with
          | false =>
            clear hnk
            go_wp2_with (go_at_call 75; refine HN.out.mono ?_; rintro e w3 ⟨rfl, rfl⟩)
            go_ret
            exact ⟨rfl, bthen HB0.out HBR.out⟩
          | true =>
            rw [Bool.true_and] at hnk
            subst hnk
            go_wp2_with (first
              | (go_at_call 75; refine HN.out.mono ?_; rintro e w3 ⟨rfl, rfl⟩)
              | (go_at_call 76; refine HL.out.mono ?_; rintro e w4 ⟨rfl, nq, rfl⟩))
            go_ret
            exact ⟨rfl, below_drewN (bthen HB0.out HBR.out) _⟩
        · obtain rfl := hst (by omega)
          clear hst hstop
          have hnk2 := hnk.symm
          rw [Bool.and_eq_true] at hnk2
          obtain ⟨rfl, rfl⟩ := hnk2
          clear hnk
          go_wp2_with (first
            | (go_at_call 75; refine HN.out.mono ?_; rintro e w3 ⟨rfl, rfl⟩)
            | (go_at_call 76; refine HL.out.mono ?_; rintro e w4 ⟨rfl, nq, rfl⟩))
          go_roundg gg
          case measure => omega
          case rel => exact ⟨j + 1 + 1, by omega, by omega, by go_num, below_drewN HBR.out _⟩
    | zero =>
      obtain rfl : k = es.length := by omega
      obtain rfl : N = S3 := by
        rcases HEND.out with ⟨_, e⟩ | ⟨hj, _⟩
        · exact e
        · omega
      have HBR := Lib.hid hbr
      clear hbr
      have HBW := Lib.hid (bthen HB0.out HBR.out)
      have HAD := Lib.hid (fun W (hW : Below wr.heap.size wr W) => HAC.out _ (bthen HBR.out hW))
      cases S1
      case false =>
        go_wp2_with fail
        go_ret
        exact ⟨by rw [HRR.out]; first | rfl | simp [y1], HBW.out⟩
      cases S2
      case false =>
        go_wp2_with fail
        go_ret
        exact ⟨by rw [HRR.out]; first | rfl | simp [y1, y2], HBW.out⟩
      cases N
      case false =>
        go_wp2_with fail
        go_ret
        exact ⟨by rw [HRR.out]; first | rfl | simp [y1, y2, y3], HBW.out⟩
      cases S4
      case false =>
        go_wp2_with (go_at_call 77; refine (H1.out _ HBW.out).mono ?_; rintro e w3 ⟨rfl, hb3⟩; obtain ⟨f0, f1, f2⟩ := HAD.out _ hb3)
        go_ret
        exact ⟨by rw [HRR.out]; rfl, bthen HBW.out hb3⟩
      go_wp2_with (first
        | (go_at_call 77; (with_reducible refine (H1.out _ HBW.out).mono ?_); rintro e w3 ⟨rfl, hb3⟩; obtain ⟨f0, f1, f2⟩ := HAD.out _ hb3)
        | (go_at_call 77; (with_reducible refine (H2.out _ (bthen HBW.out hb3)).mono ?_); rintro e w4 ⟨rfl, hb4⟩))
      go_ret
      exact ⟨by rw [HRR.out]; rfl, bthen HBW.out (bthen hb3 hb4)⟩
end Go.Proofs.YtmhekhilgllciaaGreat
