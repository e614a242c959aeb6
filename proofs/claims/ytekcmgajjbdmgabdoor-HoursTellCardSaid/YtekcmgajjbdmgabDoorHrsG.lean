/- The contract of hours.Parse. -/
import Derived.Test.YtekcmgajjbdmgabDoorHrsF
namespace Go.Proofs.YtekcmgajjbdmgabDoor
open Go.RowKit

theorem results_cell_tmpH {P : Program} {fn : Func} {p u : Tmp} {ty : TypeId} (h : fn.results = #[.cell p ty, .tmp u]) (tmps : Array Value) (w : World) (g : Nat) (t : TypeId) (cs : Array Value) (fr : Nat × Nat) (d : TypeDesc)
    (hp : tmps.getD p undef = .pointer (some ⟨g, 0, none⟩)) (hg : w.heap[g]? = some (.cells cs t fr))
    (hu : P.underlying ty = some d) (hd : (match d with | .struct _ | .array _ _ => true | _ => false) = true) (hi : (P.info? ty).map (·.size) = some cs.size) :
    (results fn tmps).run P w = .ok (.tuple #[.agg cs, tmps.getD u undef]) w := by
  have hp' : tmps[p]?.getD undef = .pointer (some ⟨g, 0, none⟩) := by simpa using hp
  simp [results, h, hp', asAddr, run_loadVar_row w g t ty cs fr d hg hu hd hi]
theorem Blk.cells4 {w : World} {g : Nat} {t : TypeId} {x y z u : Value} (h : Blk w g t #[x, y, z, u]) : w.cell? ⟨g, 0, none⟩ = some x ∧ w.cell? ⟨g, 1, none⟩ = some y ∧ w.cell? ⟨g, 2, none⟩ = some z ∧ w.cell? ⟨g, 3, none⟩ = some u :=
  ⟨h.cell 0, h.cell 1, h.cell 2, h.cell 3⟩
theorem Blk.set4 {w : World} {g : Nat} {t : TypeId} {x y z u : Value} (h : Blk w g t #[x, y, z, u]) (a b c d : Value) : Blk ((((w.setCell ⟨g, 0, none⟩ a).setCell ⟨g, 1, none⟩ b).setCell ⟨g, 2, none⟩ c).setCell ⟨g, 3, none⟩ d) g t #[a, b, c, d] := (((h.set 0 a).set 1 b).set 2 c).set 3 d
theorem Blk.set4O {w : World} {g g' : Nat} {t : TypeId} {cs : Array Value} (h : Blk w g t cs) (hne : g ≠ g') (a b c d : Value) : Blk ((((w.setCell ⟨g', 0, none⟩ a).setCell ⟨g', 1, none⟩ b).setCell ⟨g', 2, none⟩ c).setCell ⟨g', 3, none⟩ d) g t cs := (((h.setO ⟨g', 0, none⟩ a hne).setO ⟨g', 1, none⟩ b hne).setO ⟨g', 2, none⟩ c hne).setO ⟨g', 3, none⟩ d hne
theorem below_set4 {B g : Nat} {w w1 : World} (h : Below B w w1) (hg : B ≤ g) (a b c d : Value) : Below B w ((((w1.setCell ⟨g, 0, none⟩ a).setCell ⟨g, 1, none⟩ b).setCell ⟨g, 2, none⟩ c).setCell ⟨g, 3, none⟩ d) :=
  (((h.setCell hg a).setCell hg b).setCell hg c).setCell hg d

def pVal (r : Option (Nat × Nat × Nat)) : Value × Int :=
  match r with
  | some (d, f, t) => (.agg #[.string ⟨#[120]⟩, .int .i64 (d : Int), .int .i64 (f : Int), .int .i64 (t : Int)], 0)
  | none => (.agg #[.string ⟨#[]⟩, .int .i64 0, .int .i64 0, .int .i64 0], 6)
def ParsP (r : Option (Nat × Nat × Nat)) (w : World) (e : Ending) (w' : World) : Prop := e = .returned (.tuple #[(pVal r).1, .int .i64 (pVal r).2]) ∧ Below w.heap.size w w'
theorem cut_nil_len (s : Bs) (c c2 : UInt8) : (Lib.cut (Lib.cut s [c]).2.1 [c2]).1.length ≤ s.length ∧ (Lib.cut (Lib.cut s [c]).2.1 [c2]).2.1.length ≤ s.length := by
  have h1 := (cut_len s c).2
  have h2 := cut_len (Lib.cut s [c]).2.1 c2
  omega

set_option maxHeartbeats 3200000 in
set_option maxRecDepth 100000 in
theorem hParse_any (s : ByteArray) (w : World) (hw : HW w) (hs : s.size ≤ 100000) : Calls Tryd.prog 15 #[.string s] w (ParsP (parseH s.data.toList) w) := by
  have hl := lenB s
  have hz : ∀ l : Bs, (⟨l.toArray⟩ : ByteArray).size = l.length := fun l => by simp [ByteArray.size]
  obtain ⟨l1, l2⟩ := cut_len s.data.toList 32
  obtain ⟨l3, l4⟩ := cut_nil_len s.data.toList 32 45
  have hc1 := fun W (h : Below w.heap.size w W) => cutH_any s 32 W (hw.call h) hs
  have hc2 := fun W (h : Below w.heap.size w W) => cutH_any ⟨(Lib.cut s.data.toList [32]).2.1.toArray⟩ 45 W (hw.call h) (by rw [hz]; omega)
  have hda := fun W (h : Below w.heap.size w W) => daysIn_any ⟨(Lib.cut s.data.toList [32]).1.toArray⟩ W (hw.call h) (by rw [hz]; omega)
  have hm1 := fun W (h : Below w.heap.size w W) => minuteOf_any ⟨(Lib.cut (Lib.cut s.data.toList [32]).2.1 [45]).1.toArray⟩ W (hw.call h) (by rw [hz]; omega)
  have hm2 := fun W (h : Below w.heap.size w W) => minuteOf_any ⟨(Lib.cut (Lib.cut s.data.toList [32]).2.1 [45]).2.1.toArray⟩ W (hw.call h) (by rw [hz]; omega)
  have ht := fun W (h : Below w.heap.size w W) => hText_any ⟨#[120]⟩ (pDays s.data.toList) (pFrom s.data.toList) (pTo s.data.toList) W (by unfold maxLen; decide) (hw.call h)
  have e1 : daysN (Lib.cut s.data.toList [32]).1 7 = pDays s.data.toList := rfl
  have e2 : minT (Lib.cut (Lib.cut s.data.toList [32]).2.1 [45]).1 = pFrom s.data.toList := rfl
  have e3 : minT (Lib.cut (Lib.cut s.data.toList [32]).2.1 [45]).2.1 = pTo s.data.toList := rfl
  have e4 : parseH s.data.toList = if spanC (pDays s.data.toList) (pFrom s.data.toList) (pTo s.data.toList) = true ∧ textT (pDays s.data.toList) (pFrom s.data.toList).toNat (pTo s.data.toList).toNat = s.data.toList then some (pDays s.data.toList, (pFrom s.data.toList).toNat, (pTo s.data.toList).toNat) else none := rfl
  have e5 : textI (⟨#[120]⟩ : ByteArray).data.toList (pDays s.data.toList) (pFrom s.data.toList) (pTo s.data.toList) = if spanC (pDays s.data.toList) (pFrom s.data.toList) (pTo s.data.toList) = true then (textT (pDays s.data.toList) (pFrom s.data.toList).toNat (pTo s.data.toList).toNat, 0) else ([], 1) := by
    unfold textI
    rw [show bwC (⟨#[120]⟩ : ByteArray).data.toList = true by decide, Bool.true_and]
    rfl
  rw [e5] at ht
  simp only at hc2 hda hm1 hm2
  rw [e1] at hda
  rw [e2] at hm1
  rw [e3] at hm2
  generalize parseH s.data.toList = R at *
  clear e1 e2 e3 e5 l1 l2 l3 l4 hl hz
  generalize pDays s.data.toList = d at *
  generalize pFrom s.data.toList = f at *
  generalize pTo s.data.toList = t at *
  generalize (Lib.cut (Lib.cut s.data.toList [32]).2.1 [45]).1 = S1 at *
  generalize (Lib.cut (Lib.cut s.data.toList [32]).2.1 [45]).2.1 = S2 at *
  generalize (Lib.cut s.data.toList [32]).1 = S3 at *
  generalize (Lib.cut s.data.toList [32]).2.1 = S4 at *
  have HC1 := Lib.hid hc1
  have HC2 := Lib.hid hc2
  have HDA := Lib.hid hda
  have HM1 := Lib.hid hm1
  have HM2 := Lib.hid hm2
  have HT := Lib.hid ht
  clear hc1 hc2 hda hm1 hm2 ht hw
  have hk1 := Blk.new w 33 #[.string ⟨#[]⟩, .int .i64 0, .int .i64 0, .int .i64 0]
  have hb0 := (Below.refl w.heap.size w).alloc (Nat.le_refl _) (.cells #[.string ⟨#[]⟩, .int .i64 0, .int .i64 0, .int .i64 0] 33)
  go_enter Tryd.func15, Tryd.ntmps15
  go_upto_region 4 with (first
    | (go_at_call 34; (with_reducible refine (HC1.out _ hb0).mono ?_); rintro e w2 ⟨b2, rfl, hb2⟩; have hb2' := bthen hb0 hb2)
    | (go_at_call 34; (with_reducible refine (HC2.out _ hb2').mono ?_); rintro e w3 ⟨b3, rfl, hb3⟩; have hb3' := bthen hb2' hb3)
    | (go_at_call 35; (with_reducible refine (HDA.out _ hb3').mono ?_); rintro e w4 ⟨rfl, rfl⟩)
    | (go_at_call 36; (with_reducible refine (HM1.out _ hb3').mono ?_); rintro e w5 ⟨rfl, hb5⟩; have hb5' := bthen hb3' hb5)
    | (go_at_call 36; (with_reducible refine (HM2.out _ hb5').mono ?_); rintro e w6 ⟨rfl, hb6⟩; have hb6' := bthen hb5' hb6))
  have hbz := bthen hb2 (bthen hb3 (bthen hb5 hb6))
  have hr0 := (hk1.call hbz).alloc (.cells #[.string ⟨#[120]⟩, .int .i64 (d : Int), .int .i64 f, .int .i64 t] 33)
  have hb7 := hb6'.alloc hb6'.size (.cells #[.string ⟨#[120]⟩, .int .i64 (d : Int), .int .i64 f, .int .i64 t] 33)
  have HR0 := Lib.hid hr0
  have HB7 := Lib.hid hb7
  clear hbz hr0 hb2 hb3 hb5 hb6 hb2' hb3' hb5' hk1 hb0 HC1 HC2 HDA HM1 HM2
  have htt := HT.out _ hb7
  by_cases hA : spanC (d : Int) f t = true
  case neg =>
    rw [if_neg hA] at htt
    have hr : R = none := e4.trans (if_neg (fun h => hA h.1))
    subst hr
    clear hA HT hb7 e4
    go_wp2_with (go_at_call 14; (with_reducible refine htt.mono ?_); rintro e w8 ⟨rfl, hb8⟩; obtain ⟨c0, c1, c2, c3⟩ := box4 hb8; have hr8 := HR0.out.call hb8; obtain ⟨d0, d1, d2, d3⟩ := hr8.cells4; have f0 := hr8.frozen 0; have f1 := hr8.frozen 1; have f2 := hr8.frozen 2; have f3 := hr8.frozen 3)
    refine bodyPost_ret (v := .tuple #[.agg #[.string ⟨#[]⟩, .int .i64 0, .int .i64 0, .int .i64 0], .int .i64 6]) ?_ rfl ⟨rfl, below_set4 (bthen HB7.out hb8) (Nat.le_refl _) _ _ _ _⟩
    refine (results_cell_tmpH rfl _ _ w.heap.size _ #[.string ⟨#[]⟩, .int .i64 0, .int .i64 0, .int .i64 0] _ _ ?_ (hr8.set4 _ _ _ _) Tryd.underlying33 rfl (by kernel_rfl)).trans ?_
    · rfl
    · rfl
  rw [if_pos hA] at htt
  by_cases hB : textT d f.toNat t.toNat = s.data.toList
  case neg =>
    have hr : R = none := e4.trans (if_neg (fun h => hB h.2))
    subst hr
    have hne : ((bytA (textT d f.toNat t.toNat)).toList == s.toList) = false := by
      rw [strEq, decide_eq_false_iff_not]
      intro h
      apply hB
      rw [← h, bytA_list]
    have hne2 : ¬ bytA (textT d f.toNat t.toNat) = s := by
      intro h
      apply hB
      rw [← h, bytA_list]
    unfold TextP at htt
    simp only at htt
    clear e4
    generalize bytA (textT d f.toNat t.toNat) = X at *
    clear hA hB HT hb7
    go_wp2_with (go_at_call 14; (with_reducible refine htt.mono ?_); rintro e w8 ⟨rfl, hb8⟩; obtain ⟨c0, c1, c2, c3⟩ := box4 hb8; have hr8 := HR0.out.call hb8; obtain ⟨d0, d1, d2, d3⟩ := hr8.cells4; have f0 := hr8.frozen 0; have f1 := hr8.frozen 1; have f2 := hr8.frozen 2; have f3 := hr8.frozen 3)
    refine bodyPost_ret (v := .tuple #[.agg #[.string ⟨#[]⟩, .int .i64 0, .int .i64 0, .int .i64 0], .int .i64 6]) ?_ rfl ⟨rfl, below_set4 (bthen HB7.out hb8) (Nat.le_refl _) _ _ _ _⟩
    refine (results_cell_tmpH rfl _ _ w.heap.size _ #[.string ⟨#[]⟩, .int .i64 0, .int .i64 0, .int .i64 0] _ _ ?_ (hr8.set4 _ _ _ _) Tryd.underlying33 rfl (by kernel_rfl)).trans ?_
    · rfl
    · rfl
  have hr : R = some (d, f.toNat, t.toNat) := e4.trans (if_pos ⟨hA, hB⟩)
  subst hr
  have he : bytA (textT d f.toNat t.toNat) = s := by apply bytes_ext; rw [bytA_list]; exact hB
  unfold TextP at htt
  simp only at htt
  rw [he] at htt
  unfold spanC at hA
  rw [decide_eq_true_eq] at hA
  obtain ⟨f, rfl⟩ := Int.eq_ofNat_of_zero_le (show 0 ≤ f by omega)
  obtain ⟨t, rfl⟩ := Int.eq_ofNat_of_zero_le (show 0 ≤ t by omega)
  have hself : (s.toList == s.toList) = true := by simp
  simp only [Int.toNat_natCast]
  clear hA hB he HT hb7 e4
  go_wp2_with (go_at_call 14; (with_reducible refine htt.mono ?_); rintro e w8 ⟨rfl, hb8⟩; obtain ⟨c0, c1, c2, c3⟩ := box4 hb8; have hr8 := HR0.out.call hb8; obtain ⟨d0, d1, d2, d3⟩ := hr8.cells4; have f0 := hr8.frozen 0; have f1 := hr8.frozen 1; have f2 := hr8.frozen 2; have f3 := hr8.frozen 3)
  refine bodyPost_ret (v := .tuple #[.agg #[.string ⟨#[120]⟩, .int .i64 (d : Int), .int .i64 (f : Int), .int .i64 (t : Int)], .int .i64 0]) ?_ rfl ⟨rfl, below_set4 (bthen HB7.out hb8) (Nat.le_refl _) _ _ _ _⟩
  refine (results_cell_tmpH rfl _ _ w.heap.size _ #[.string ⟨#[120]⟩, .int .i64 (d : Int), .int .i64 (f : Int), .int .i64 (t : Int)] _ _ ?_ (hr8.set4 _ _ _ _) Tryd.underlying33 rfl (by kernel_rfl)).trans ?_
  · rfl
  · rfl
end Go.Proofs.YtekcmgajjbdmgabDoor
