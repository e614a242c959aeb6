/- The contract of matcher.Holds: the walk. -/
import Derived.Test.YtolbhhokpelchabDoorMatD
namespace Go.Proofs.YtolbhhokpelchabDoor
open Go.RowKit Go.Maps

set_option maxHeartbeats 3200000 in
set_option maxRecDepth 100000 in
theorem holds_some (a : Option Addr) (c : Nat) (ls : List Lab) (b off c' : Nat) (ms : List Mat) (w : World) (hL : HasLabs w a c ls) (_hlc : ms.length ≤ c') (_hcm : c' ≤ maxLen) (hn : ms.length ≤ 1000) (hR : rightC ls = true)
    (hcell : ∀ i (h : i < ms.length), ∃ x y,
      (w.cell? ⟨b, off + i * 3, none⟩ = some (.string ms[i].name) ∧ w.cell? ⟨b, off + i * 3 + 1, none⟩ = some (.int .i64 ms[i].how) ∧ w.cell? ⟨b, off + i * 3 + 2, none⟩ = some (.slice x ms[i].words.length y)) ∧
        HasStrs w x y ms[i].words ∧ ms[i].name.size ≤ maxLen ∧ (Lit.int .i64 ms[i].how).wf = true) :
    Calls Tryd.prog 22 #[.slice a ls.length c, .slice (some ⟨b, off, none⟩) ms.length c'] w (HoldsPost ls ms w) := by
  obtain ⟨i0, hi, hz0, hz1, hz2⟩ := info_partsF Tryd.infoF
  have hlab := right_any a c ls w hL
  rw [hR] at hlab
  have HLab := Lib.hid hlab
  have HL := Lib.hid hL
  have HC := Lib.hid hcell
  have HRR := Lib.hid hR
  obtain ⟨J, hJ, hok, hend⟩ := all_end rightM ms
  have HOK := Lib.hid hok
  have HE := Lib.hid hend
  unfold maxLen at _hcm
  clear hlab hL hcell hok hend hR
  go_enter Tryd.func22, Tryd.ntmps22
  go_wp2_with (go_at_call 20; refine HLab.out.mono ?_; rintro e w0 ⟨rfl, hb0⟩)
  go_loopw [6, 16] (fun v i wr => ∃ (k : Nat) (vs : List Value), k ≤ J ∧ i = .int .i64 k ∧ OwnF wr w.heap.size v vs ∧ TestsAt w wr vs ms k ∧ Below w.heap.size w wr ∧ w.heap.size ≤ wr.heap.size) (fun _ i _ => ms.length - (intOf i).toNat)
  case atStart => exact ⟨0, [], Nat.zero_le _, rfl, World.ownsRow_nil _ _ _ _, ⟨rfl, fun j hj => absurd hj (by omega)⟩, hb0, hb0.size⟩
  case round =>
    obtain ⟨k, vs, hk, rfl, hown, hts, hb, hz⟩ := hrel
    by_cases hkl : k < ms.length
    · obtain ⟨x, y, ⟨g0, g1, g2⟩, g3, g4, g5⟩ := HC.out k hkl
      have c0 := cellLater hb g0
      have c1 := cellLater hb g1
      have c2 := cellLater hb g2
      have G3 := Lib.hid g3
      have HT := Lib.hid hts
      have HO := Lib.hid hown
      have hvl : vs.length = k := hts.1
      have HVL := Lib.hid hvl
      have hmat : ∀ W, Below w.heap.size w W → HasMat W (.agg #[.string ms[k].name, .int .i64 ms[k].how, .slice x ms[k].words.length y]) ms[k] := fun W hW => ⟨x, y, rfl, g3.call hW, g4, g5⟩
      have HRM := Lib.hid (fun W hW => mRight_any _ _ W (hmat W hW))
      have HTE := Lib.hid (fun W => test_any x y ms[k] W g5)
      have HRB : Hid (∀ (h : rightM ms[k] = false), ms.all rightM = false) := Lib.hid (fun h => by
        rw [← Bool.not_eq_true, List.all_eq_true]
        intro hall
        have := hall _ (List.getElem_mem hkl)
        rw [h] at this; cases this)
      have HJ : Hid (∀ (h : rightM ms[k] = true), k + 1 ≤ J) := Lib.hid (fun h => by
        rcases HE.out with ⟨he, _⟩ | ⟨hj, hq, _⟩
        · omega
        · by_cases e : k = J
          · subst e; rw [h] at hq; cases hq
          · omega)
      have HK : Hid (∃ M, ms[k] = M) := Lib.hid ⟨_, rfl⟩
      obtain ⟨M, hM⟩ := HK.out
      have HM := Lib.hid hM
      rw [hM] at c0 c1 c2 HRM HTE HRB HJ G3
      clear g0 g1 g2 g3 g4 g5 hts hown hvl hmat HK hM
      have hblk := Blk.new wr 58 (matCells x y M)
      have hbx : Below w.heap.size w (wr.alloc (.cells (matCells x y M) 58)) := hb.alloc hz _
      have hownx := HO.out.alloc (.cells (matCells x y M) 58)
      have htx := HT.out.call ((Below.refl _ _).alloc (Nat.le_refl _) (.cells (matCells x y M) 58))
      unfold matCells at hblk hbx hownx htx
      go_upto_region 7 with fail
      have HB := Lib.hid hblk
      have HBX := Lib.hid hbx
      have HOX := Lib.hid hownx
      have HTX := Lib.hid htx
      have hzx : wr.heap.size < (wr.alloc (.cells #[.string M.name, .int .i64 M.how, .slice x M.words.length y] 58)).heap.size := hblk.lt
      have HZX := Lib.hid hzx
      clear hblk hbx hownx htx HO HT c0 c1 c2 hzx
      generalize wr.alloc (.cells #[.string M.name, .int .i64 M.how, .slice x M.words.length y] 58) = wx at *
      obtain ⟨q0, q1, q2⟩ := HB.out.cells3
      cases hrm : rightM M with
      | false =>
        rw [hrm] at HRM
        have HA := Lib.hid (HRB.out hrm)
        clear hrm
        go_wp2_with (go_at_call 42; refine (HRM.out _ HBX.out).mono ?_; rintro e w2 ⟨rfl, hb2⟩)
        go_ret2
        exact ⟨by unfold holdsL; rw [if_pos HRR.out, if_neg (by rw [HA.out]; simp)]; rfl, bthen HBX.out hb2⟩
      | true =>
        rw [hrm] at HRM
        have HK1 := Lib.hid (HJ.out hrm)
        clear hrm
        go_wp2_with (first
          | (go_at_call 42; refine (HRM.out _ HBX.out).mono ?_; rintro e w2 ⟨rfl, hb2⟩; obtain ⟨p0, p1, p2⟩ := (HB.out.call hb2).cells3)
          | (go_at_call 43; refine (HTE.out _).mono ?_; rintro e w3 ⟨v3, rfl, ⟨f1, f2, rfl, ht1, ht2⟩, hb3⟩; have ht3 : TestAt w3 (.func (.func 63) #[] #[.pointer (some ⟨f1, 0, none⟩), .pointer (some ⟨f2, 0, none⟩)]) x y M := ⟨f1, f2, rfl, ht1, ht2⟩; have hown3 := (HOX.out.call hb2).call hb3; have hlast := bthen (bthen HBX.out hb2) hb3)
          | (at_builtin; refine wpList_push w3 rfl _ _ 69 rfl w.heap.size 39 i0 .nilFunc 8 Tryd.underlying69 hi hz0 hz1 hz2 rfl u6 vs.length vs rfl hown3 (.func (.func 63) #[] #[.pointer (some ⟨f1, 0, none⟩), .pointer (some ⟨f2, 0, none⟩)]) rfl rfl ?c1 ?c2 ?c3 ?_))
        case c1 => have := HVL.out; unfold maxLen; omega
        case c2 => have := HVL.out; omega
        case c3 => exact hlast.size
        intro g cc w4 hown4 hg4
        have hts4 := ((HTX.out.call hb2).call hb3).push hown3 hg4 x y hkl (by rw [HM.out]; exact ht3) (by rw [HM.out]; exact G3.out)
        have hb4 := hown3.grown hlast hlast.size hg4
        go_wp2_with fail
        go_roundw
        case rel => exact ⟨k + 1, _, HK1.out, by go_num, by unfold OwnF; rw [List.length_append]; exact hown4, hts4, hb4, hb4.size⟩
        case measure => simp [intOf]; omega
    · have hR : ms.all rightM = true := by
        rcases HE.out with ⟨_, hr⟩ | ⟨hj, _, _⟩
        · exact hr
        · omega
      have HRT := Lib.hid hR
      obtain rfl : k = ms.length := by omega
      have hvl : vs.length = ms.length := hts.1
      obtain ⟨J2, hJ2, hok2, hend2⟩ := all_end (fun m => holdsM (getL ls m.name) m) ms
      have HOK2 := Lib.hid hok2
      have HE2 := Lib.hid hend2
      have HT := Lib.hid hts
      have hrow : ∃ p q, u6 = .slice p ms.length q ∧ (ms = [] ∨ ∃ g, p = some ⟨g, 0, none⟩ ∧ ∀ j (h : j < vs.length), wr.cell? ⟨g, j, none⟩ = some vs[j]) := by
        rcases hown.2 with ⟨rfl, h0⟩ | ⟨g, cap, cur, rfl, r⟩
        · exact ⟨none, 0, by rw [← hvl, h0], .inl (List.eq_nil_of_length_eq_zero (by omega))⟩
        · refine ⟨_, cap, by rw [← hvl], .inr ⟨g, rfl, fun j hj => ?_⟩⟩
          have := hown.cellAt j (by omega)
          rw [this]
          simp [hj]
      obtain ⟨p, q, rfl, hpq⟩ := hrow
      have HP := Lib.hid hpq
      have HVL := Lib.hid hvl
      have HHL : Hid (holdsL ls ms = (ms.all (fun m => holdsM (getL ls m.name) m), 0)) := Lib.hid (by unfold holdsL; rw [if_pos HRR.out, if_pos HRT.out])
      clear hok2 hend2 hts hpq hown hvl hR
      go_wp2
      go_loopw [31] (fun i w5 => ∃ k : Nat, k ≤ J2 ∧ i = .int .i64 k ∧ Below wr.heap.size wr w5) (fun i _ => ms.length - (intOf i).toNat)
      case atStart => exact ⟨0, Nat.zero_le _, rfl, Below.refl _ _⟩
      case round =>
        obtain ⟨k, hk, rfl, hb5⟩ := hrel
        by_cases hkl : k < ms.length
        · rcases HP.out with rfl | ⟨g, rfl, hcells⟩
          · exact absurd hkl (by simp)
          have hkv : k < vs.length := by rw [HVL.out]; exact hkl
          have hc := cellLater hb5 (hcells k hkv)
          obtain ⟨x, y, ht, hs⟩ := (HT.out.call hb5).2 k hkl hkv hkl
          obtain ⟨f1, f2, hv, t1, t2⟩ := ht
          rw [hv] at hc
          have hB5 : Below w.heap.size w _ := bthen hb hb5
          have HT1 := Lib.hid (test1_any f1 f2 x a y c ms[k] _ ls _ t1 t2 (hs.call hB5) (HL.out.call hB5))
          have hm : (inB (getL ls ms[k].name) ms[k].words == onesC ms[k].how) = holdsM (getL ls ms[k].name) ms[k] := rfl
          rw [hm] at HT1
          by_cases hkJ : k = J2
          · have hbad : holdsM (getL ls ms[k].name) ms[k] = false ∧ ms.all (fun m => holdsM (getL ls m.name) m) = false := by
              rcases HE2.out with ⟨he, _⟩ | ⟨hj, hq, hr⟩
              · omega
              · subst hkJ; exact ⟨hq, hr⟩
            subst hkJ
            rw [hbad.1] at HT1
            have HA := Lib.hid hbad.2
            clear hbad hm t1 t2 hs hv hcells
            go_wp2_with (go_at_call 63; refine HT1.out.mono ?_; rintro e w6 ⟨rfl, hb6⟩)
            go_ret2
            exact ⟨by rw [HHL.out, HA.out]; rfl, bthen hB5 hb6⟩
          · have hgood := HOK2.out k (by omega) hkl
            rw [hgood] at HT1
            clear hgood hm t1 t2 hs hv hcells
            go_wp2_with (go_at_call 63; refine HT1.out.mono ?_; rintro e w6 ⟨rfl, hb6⟩)
            go_roundw
            case rel => exact ⟨k + 1, by omega, by go_num, bthen hb5 hb6⟩
            case measure => simp [intOf]; omega
        · have hA : ms.all (fun m => holdsM (getL ls m.name) m) = true := by
            rcases HE2.out with ⟨_, hr⟩ | ⟨hj, _, _⟩
            · exact hr
            · omega
          have HA := Lib.hid hA
          clear hA
          go_wp2
          go_ret2
          exact ⟨by rw [HHL.out, HA.out]; rfl, bthen hb hb5⟩

set_option maxHeartbeats 800000 in
theorem holds_any (a a' : Option Addr) (c c' : Nat) (ls : List Lab) (ms : List Mat) (w : World) (hL : HasLabs w a c ls) (hM : HasMats w a' c' ms) (hn : ms.length ≤ 1000) :
    Calls Tryd.prog 22 #[.slice a ls.length c, .slice a' ms.length c'] w (HoldsPost ls ms w) := by
  obtain ⟨h1, h2, h4⟩ := hM
  cases hR : rightC ls with
  | false =>
    have hlab := right_any a c ls w hL
    have HH : Hid (holdsL ls ms = (false, 1)) := Lib.hid (by unfold holdsL; rw [hR]; rfl)
    rw [hR] at hlab
    have HLab := Lib.hid hlab
    clear hlab hR hL h4
    go_enter Tryd.func22, Tryd.ntmps22
    go_wp2_with (go_at_call 20; refine HLab.out.mono ?_; rintro e w0 ⟨rfl, hb0⟩)
    go_ret2
    exact ⟨by rw [HH.out]; rfl, hb0⟩
  | true =>
    rcases h4 with rfl | ⟨b, off, rfl, hb, hc⟩
    · have hlab := right_any a c ls w hL
      have HH : Hid (holdsL ls [] = (true, 0)) := Lib.hid (by unfold holdsL; rw [hR]; rfl)
      rw [hR] at hlab
      have HLab := Lib.hid hlab
      clear hlab hR hL
      go_enter Tryd.func22, Tryd.ntmps22
      go_wp2_with (go_at_call 20; refine HLab.out.mono ?_; rintro e w0 ⟨rfl, hb0⟩)
      refine wp_loop_rounds 1 ?_
      rw [rounds_succ]
      go_wp2
      refine wp_loop_rounds 1 ?_
      rw [rounds_succ]
      go_wp2
      go_ret2
      exact ⟨by rw [HH.out]; rfl, hb0⟩
    · exact holds_some a c ls b off c' ms w hL h1 h2 hn hR hc
end Go.Proofs.YtolbhhokpelchabDoor
