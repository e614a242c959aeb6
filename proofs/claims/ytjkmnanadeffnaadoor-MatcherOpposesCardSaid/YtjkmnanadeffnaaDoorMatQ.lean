/- The contract of matcher.Parse. -/
import Derived.Test.YtjkmnanadeffnaaDoorMatP
namespace Go.Proofs.YtjkmnanadeffnaaDoor
open Go.RowKit Go.Maps

theorem indexAny_spec (cs : Bs) : ∀ l : Bs, (Lib.indexAny l cs = -1 ∧ ∀ b ∈ l, cs.contains b = false) ∨ ∃ i, ∃ h : i < l.length, Lib.indexAny l cs = (i : Int) ∧ cs.contains l[i] = true ∧ ∀ b ∈ l.take i, cs.contains b = false
  | [] => .inl ⟨rfl, fun b hb => by cases hb⟩
  | b :: l => by
    by_cases h0 : cs.contains b = true
    · exact .inr ⟨0, by simp, by rw [Lib.indexAny, if_pos h0]; rfl, h0, fun b hb => by cases hb⟩
    · have h0' : cs.contains b = false := Bool.eq_false_iff.2 h0
      rcases indexAny_spec cs l with ⟨h1, h2⟩ | ⟨i, hi, h1, h2, h3⟩
      · refine .inl ⟨by rw [Lib.indexAny, h0', h1]; rfl, fun x hx => ?_⟩
        rcases List.mem_cons.1 hx with rfl | hx
        · exact h0'
        · exact h2 x hx
      · refine .inr ⟨i + 1, by simpa using hi, ?_, by simpa using h2, fun x hx => ?_⟩
        · have : ((i : Int) == -1) = false := by rw [beq_eq_false_iff_ne]; omega
          rw [Lib.indexAny, h0', h1, this]; simp
        · rw [List.take_succ_cons] at hx
          rcases List.mem_cons.1 hx with rfl | hx
          · exact h0'
          · exact h3 x hx
theorem pAt_range (s : Bs) : -1 ≤ pAt s ∧ pAt s ≤ (pHead s).length := by
  unfold pAt
  rcases indexAny_spec [61, 33] (pHead s) with ⟨h, _⟩ | ⟨i, hi, h, _⟩ <;> rw [h] <;> constructor <;> omega

theorem howC_wf (s : Bs) : (Lit.int .i64 (howC s)).wf = true := by
  unfold howC
  repeat' split
  all_goals decide
theorem below_drewM {B : Nat} {w W : World} (h : Below B w W) (n : Nat) : Below B w (W.drewN n) := h.trans ⟨rfl, rfl, rfl, Nat.le_refl _, fun _ _ => rfl⟩

set_option maxHeartbeats 6400000 in
set_option maxRecDepth 100000 in
theorem parse_of (s : ByteArray) (w : World) (hm : MaxC w) (hs : s.size ≤ 1000000)
    (hia : ∀ W, Calls Tryd.prog 38 #[.string ⟨(pHead s.data.toList).toArray⟩, .string ⟨#[61, 33]⟩] W fun e w' => e = .returned (.int .i64 (pAt s.data.toList)) ∧ Below W.heap.size W w') :
    Calls Tryd.prog 20 #[.string s] w (ParsePost (parseM s.data.toList) w) := by
  have hsl : s.data.toList.length = s.size := by simp
  have hwl := pWords_len s.data.toList
  have hhl := pHead_len s.data.toList
  have htl := pTail_len s.data.toList
  obtain ⟨hat1, hat2⟩ := pAt_range s.data.toList
  have hcu : ∀ W m (hmW : W.cell? ⟨0, 0, none⟩ = some (.int .i64 m)), Calls Tryd.prog 36 #[.string s, .string ⟨#[34]⟩] W fun e w' => e = .returned (.tuple #[.string ⟨(pHead s.data.toList).toArray⟩, .string ⟨(pTail s.data.toList).toArray⟩, .bool (pOpen s.data.toList)]) ∧ ∃ n, w' = W.drewN n :=
    fun W m hmW => Tryd.strings_Cut s ⟨#[34]⟩ m W (by omega) hmW
  have hcs : ∀ W, Calls Tryd.prog 37 #[.string ⟨(pTail s.data.toList).toArray⟩, .string ⟨#[34]⟩] W fun e w' => e = .returned (.tuple #[.string ⟨(pWords s.data.toList).toArray⟩, .bool (pShut s.data.toList)]) ∧ w' = W :=
    fun W => Tryd.strings_CutSuffix ⟨(pTail s.data.toList).toArray⟩ ⟨#[34]⟩ W (by simp [ByteArray.size]; omega)
  have hsp := fun W hmW => split_any (pWords s.data.toList) W hmW (by omega)
  have hho : ∀ W, Calls Tryd.prog 39 #[.string ⟨((pHead s.data.toList).drop (pAt s.data.toList).toNat).toArray⟩] W fun e w' => e = .returned (.int .i64 (howC ((pHead s.data.toList).drop (pAt s.data.toList).toNat))) ∧ Below W.heap.size W w' :=
    fun W => howOf_any ⟨((pHead s.data.toList).drop (pAt s.data.toList).toNat).toArray⟩ W
  have hPM : pMat s.data.toList = ⟨⟨((pHead s.data.toList).take (pAt s.data.toList).toNat).toArray⟩, howC ((pHead s.data.toList).drop (pAt s.data.toList).toNat), splitW (pWords s.data.toList)⟩ := rfl
  have hPP : parseM s.data.toList = if (pOpen s.data.toList && (pShut s.data.toList && decide (0 ≤ pAt s.data.toList))) = true then (if rightM (pMat s.data.toList) = true then some (pMat s.data.toList) else none) else none := rfl
  obtain ⟨R, hR⟩ : ∃ R, parseM s.data.toList = R := ⟨_, rfl⟩
  rw [hR]
  rw [hR] at hPP
  clear hR hsl hwl
  generalize parseM s.data.toList = R0 at *
  generalize pMat s.data.toList = M at *
  generalize splitW (pWords s.data.toList) = SW at *
  generalize pWords s.data.toList = Wd at *
  generalize pTail s.data.toList = T at *
  generalize pOpen s.data.toList = Bo at *
  generalize pShut s.data.toList = Bs at *
  generalize pHead s.data.toList = H at *
  generalize pAt s.data.toList = I at *
  have HCU := Lib.hid hcu
  have HCS := Lib.hid hcs
  have HSP := Lib.hid hsp
  have HHO := Lib.hid hho
  have HIA := Lib.hid hia
  have HPM := Lib.hid hPM
  have HPP := Lib.hid hPP
  have hb0 := (Below.refl _ w).alloc (Nat.le_refl _) (.cells #[.string ⟨#[]⟩, .int .i64 0, .slice none 0 0] 25)
  have hx0 := Blk.new w 25 #[.string ⟨#[]⟩, .int .i64 0, .slice none 0 0]
  obtain ⟨mx, hmx⟩ := hm.call hb0
  have HMX := Lib.hid hmx
  have HMC := Lib.hid (hm.call hb0)
  have HX0 := Lib.hid hx0
  have HB0 := Lib.hid hb0
  clear hcu hcs hsp hho hia hPM hPP hb0 hx0 hmx hm htl
  by_cases hgood : (Bo && (Bs && decide (0 ≤ I))) = true
  case neg =>
    have hr : R = none := by rw [HPP.out, if_neg hgood]
    subst hr
    have h3 : Bo = false ∨ (Bo = true ∧ Bs = false) ∨ (Bo = true ∧ Bs = true ∧ I < 0) := by
      cases Bo
      · exact .inl rfl
      · cases Bs
        · exact .inr (.inl ⟨rfl, rfl⟩)
        · refine .inr (.inr ⟨rfl, rfl, ?_⟩)
          simp only [Bool.true_and, decide_eq_true_eq] at hgood
          omega
    clear hgood HPP HHO HSP
    rcases h3 with rfl | ⟨rfl, rfl⟩ | ⟨rfl, rfl, hI⟩
    all_goals
      go_enter Tryd.func20, Tryd.ntmps20
      go_wp2_with (first
      | (go_at_call 36; (with_reducible refine (HCU.out _ mx HMX.out).mono ?_); rintro e w2 ⟨rfl, n2, rfl⟩; have hbx := HX0.out.call (below_drewM (Below.refl _ _) n2); have hb2 := below_drewM HB0.out n2; have hmc2 := HMC.out.call (below_drewM (Below.refl _ _) n2))
      | (go_at_call 37; (with_reducible refine (HCS.out _).mono ?_); rintro e w3 ⟨rfl, rfl⟩)
      | (go_at_call 38; (with_reducible refine (HIA.out _).mono ?_); rintro e w4 ⟨rfl, hb4⟩; have hbx4 := hbx.call hb4; have hmc4 := hmc2.call hb4; have hb5 := bthen hb2 hb4; obtain ⟨d0, d1, d2⟩ := hbx4.cells3; have f0 := hbx4.frozen 0; have f1 := hbx4.frozen 1; have f2 := hbx4.frozen 2))
      refine bodyPost_ret (v := .tuple #[zeroMat, .int .i64 6]) ?_ rfl ⟨rfl, below_set3 hb5 (Nat.le_refl _) _ _ _⟩
      refine (results_cell_tmp1 rfl _ _ w.heap.size _ #[.string ⟨#[]⟩, .int .i64 0, .slice none 0 0] _ _ ?_ (hbx4.set3 _ _ _) Tryd.underlying25 rfl (by kernel_rfl)).trans ?_
      · rfl
      · rfl
  case pos =>
    have hr : R = if rightM M = true then some M else none := by rw [HPP.out, if_pos hgood]
    simp only [Bool.and_eq_true, decide_eq_true_eq] at hgood
    obtain ⟨rfl, rfl, hI⟩ := hgood
    obtain ⟨k, rfl⟩ : ∃ k : Nat, I = (k : Int) := ⟨I.toNat, by omega⟩
    rw [show ((k : Int)).toNat = k by omega] at HHO HPM
    have HRR := Lib.hid hr
    clear HPP hr
    go_enter Tryd.func20, Tryd.ntmps20
    go_upto_region 6 with (first
      | (go_at_call 36; (with_reducible refine (HCU.out _ mx HMX.out).mono ?_); rintro e w2 ⟨rfl, n2, rfl⟩; have hbx := HX0.out.call (below_drewM (Below.refl _ _) n2); have hb2 := below_drewM HB0.out n2; have hmc2 := HMC.out.call (below_drewM (Below.refl _ _) n2))
      | (go_at_call 37; (with_reducible refine (HCS.out _).mono ?_); rintro e w3 ⟨rfl, rfl⟩)
      | (go_at_call 38; (with_reducible refine (HIA.out _).mono ?_); rintro e w4 ⟨rfl, hb4⟩; have hbx4 := hbx.call hb4; have hmc4 := hmc2.call hb4; have hb5 := bthen hb2 hb4; obtain ⟨d0, d1, d2⟩ := hbx4.cells3; have f0 := hbx4.frozen 0; have f1 := hbx4.frozen 1; have f2 := hbx4.frozen 2))
    have HB4 := Lib.hid hbx4
    have HM4 := Lib.hid hmc4
    have HB5 := Lib.hid hb5
    have hsz := HB4.out.lt
    have HZ := Lib.hid hsz
    clear hbx hbx4 hmc2 hmc4 hb2 hb4 hb5 d0 d1 d2 f0 f1 f2 HCU HCS HIA HX0 HB0 HMX HMC hsz
    have hkH : (k : Int) ≤ (H.length : Int) := hat2
    have hHs : (⟨H.toArray⟩ : ByteArray).size ≤ 1000000 := by
      have e : (⟨H.toArray⟩ : ByteArray).size = H.length := by simp [ByteArray.size]
      have e' : s.data.toList.length = s.size := by simp
      omega
    have HHS := Lib.hid hHs
    clear hHs
    have e1 : (⟨H.toArray⟩ : ByteArray).extract 0 k = ⟨(H.take k).toArray⟩ := bytes_ext (by rw [Lib.extract_from_zero])
    have e2 : (⟨H.toArray⟩ : ByteArray).extract k H.length = ⟨(H.drop k).toArray⟩ := by
      have hz : H.length = (⟨H.toArray⟩ : ByteArray).size := by simp [ByteArray.size]
      rw [hz]
      exact bytes_ext (by rw [Lib.extract_to_end])
    rw [← e2] at HHO
    have hPM := HPM.out
    rw [← e1] at hPM
    have hwf := howC_wf (List.drop k H)
    generalize howC (List.drop k H) = HC at *
    subst hPM
    clear e1 e2 HPM
    have hbn := fun x y z => (Blk.new w4 25 #[x, y, z]).drew
    have hmn := fun o => (HM4.out.call ((Below.refl _ _).alloc (Nat.le_refl _) o)).drew
    go_cut [10] (fun p wy => ∃ g b c, p = .pointer (some ⟨g, 0, none⟩) ∧ w.heap.size < b ∧ Blk wy g 25 #[.string ((⟨H.toArray⟩ : ByteArray).extract 0 k), .int .i64 HC, .slice (some ⟨b, 0, none⟩) SW.length c] ∧ HasStrs wy (some ⟨b, 0, none⟩) c SW ∧ Blk wy w.heap.size 25 #[.string ⟨#[]⟩, .int .i64 0, .slice none 0 0] ∧ Below w.heap.size w wy)
    case first =>
      go_region_with (first
        | (go_at_call 39; (with_reducible refine (HHO.out _).mono ?_); rintro e wh ⟨rfl, hbh⟩; (try have hmh := HM4.out.drew.call hbh); (try have hmh := (hmn _).call hbh); (try have hkh := (hbn _ _ _).call hbh); (try have hkh := hks.call hbh); (try have hkh := (Blk.new _ _ _).call hbh); (try (obtain ⟨x0, x1, x2⟩ := hkh.cells3; have y0 := hkh.frozen 0; have y1 := hkh.frozen 1; have y2 := hkh.frozen 2)))
        | (go_at_call 40; (with_reducible refine (HSP.out _ ?_).mono ?_); (first | exact HM4.out.drew | exact hmn _ | exact hmh | exact hmh.call ((Below.refl _ _).alloc (Nat.le_refl _) _)); rintro e ws ⟨pc, rfl, hss, hbs, hwz⟩; (try have hks := (hbn _ _ _).call hbs); (try have hks := hkh.call hbs); (try have hks := (Blk.new _ _ _).call hbs); (try (obtain ⟨x0, x1, x2⟩ := hks.cells3; have y0 := hks.frozen 0; have y1 := hks.frozen 1; have y2 := hks.frozen 2))))
      all_goals
        go_wp2_with fail
        go_meet
        first
        | exact ⟨_, _, _, rfl, (HB4.out.drew.call hbh).lt, Blk.new _ _ _, hss.call ((Below.refl _ _).alloc (Nat.le_refl _) _), ((HB4.out.drew.call hbh).call hbs).alloc _, (bthen (bthen HB5.out.drew hbh) hbs).alloc (bthen (bthen HB5.out.drew hbh) hbs).size _⟩
        | exact ⟨_, _, _, rfl, ((HB4.out.alloc _).drew.call hbh).lt, hks.set3 _ _ _, hss.set3O (Nat.ne_of_gt hkh.lt) _ _ _, (((HB4.out.alloc _).drew.call hbh).call hbs).set3O (Nat.ne_of_lt HZ.out) _ _ _, below_set3 (bthen (bthen (HB5.out.alloc HB5.out.size _).drew hbh) hbs) HB5.out.size _ _ _⟩
        | (have hss' : HasStrs ws (some ⟨wh.heap.size + 1, 0, none⟩) pc SW := by simpa using hss
           exact ⟨_, _, _, rfl, Nat.lt_succ_of_lt (HB4.out.drew.call hbh).lt, hks.set3 _ _ _, hss'.set3O (by omega) _ _ _, (((HB4.out.drew.call hbh).alloc _).call hbs).set3O (Nat.ne_of_lt (HB4.out.drew.call hbh).lt) _ _ _, below_set3 (bthen ((bthen HB5.out.drew hbh).alloc (bthen HB5.out.drew hbh).size _) hbs) (bthen HB5.out.drew hbh).size _ _ _⟩)
    case rest =>
      obtain ⟨g, b, c, rfl, hbw, hg, hss, hr, hb⟩ := hcut
      have hmat : ∀ W, Below _ _ W → HasMat W (.agg #[.string ((⟨H.toArray⟩ : ByteArray).extract 0 k), .int .i64 HC, .slice (some ⟨b, 0, none⟩) SW.length c]) ⟨(⟨H.toArray⟩ : ByteArray).extract 0 k, HC, SW⟩ := fun W hW => ⟨_, _, rfl, hss.call hW, by have := HHS.out; rw [ByteArray.size_extract]; unfold maxLen; omega, hwf⟩
      have HRM := Lib.hid (mRight_any _ _ _ (hmat _ (Below.refl _ _)))
      have HG := Lib.hid hg
      have HR := Lib.hid hr
      have HS := Lib.hid hss
      have HBW := Lib.hid hbw
      obtain ⟨x0, x1, x2⟩ := hg.cells3
      clear HB4 HM4 HB5 HZ hmat hg hr hss hmn hbn HSP HHO hbw
      obtain ⟨B, hB⟩ : ∃ B, rightM ⟨(⟨H.toArray⟩ : ByteArray).extract 0 k, HC, SW⟩ = B := ⟨_, rfl⟩
      rw [hB] at HRM HRR
      clear hB
      cases B with
      | false =>
        have hrn : R = none := by rw [HRR.out]; rfl
        subst hrn
        go_wp2_with (go_at_call 12; (with_reducible refine HRM.out.mono ?_); rintro e w8 ⟨rfl, hb8⟩; have hr8 := HR.out.call hb8; obtain ⟨d0, d1, d2⟩ := hr8.cells3; have f0 := hr8.frozen 0; have f1 := hr8.frozen 1; have f2 := hr8.frozen 2)
        have hbx := bthen hb hb8
        refine bodyPost_ret (v := .tuple #[zeroMat, .int .i64 6]) ?_ rfl ⟨rfl, below_set3 hbx (Nat.le_refl _) _ _ _⟩
        refine (results_cell_tmp1 rfl _ _ w.heap.size _ #[.string ⟨#[]⟩, .int .i64 0, .slice none 0 0] _ _ ?_ (hr8.set3 _ _ _) Tryd.underlying25 rfl (by kernel_rfl)).trans ?_
        · rfl
        · rfl
      | true =>
        have hrn : R = some ⟨(⟨H.toArray⟩ : ByteArray).extract 0 k, HC, SW⟩ := by rw [HRR.out]; rfl
        subst hrn
        go_wp2_with (go_at_call 12; (with_reducible refine HRM.out.mono ?_); rintro e w8 ⟨rfl, hb8⟩; have hg8 := HG.out.call hb8; have hr8 := HR.out.call hb8; obtain ⟨z0, z1, z2⟩ := hg8.cells3; obtain ⟨d0, d1, d2⟩ := hr8.cells3; have f0 := hr8.frozen 0; have f1 := hr8.frozen 1; have f2 := hr8.frozen 2)
        have hbx := bthen hb hb8
        refine bodyPost_ret (v := .tuple #[.agg (matCells (some ⟨b, 0, none⟩) c ⟨(⟨H.toArray⟩ : ByteArray).extract 0 k, HC, SW⟩), .int .i64 0]) ?_ rfl ⟨⟨_, _, rfl, (HS.out.call hb8).set3O (Nat.ne_of_gt HBW.out) _ _ _⟩, below_set3 hbx (Nat.le_refl _) _ _ _⟩
        refine (results_cell_tmp1 rfl _ _ w.heap.size _ #[.string ((⟨H.toArray⟩ : ByteArray).extract 0 k), .int .i64 HC, .slice (some ⟨b, 0, none⟩) SW.length c] _ _ ?_ (hr8.set3 _ _ _) Tryd.underlying25 rfl (by kernel_rfl)).trans ?_
        · rfl
        · rfl
end Go.Proofs.YtjkmnanadeffnaaDoor
