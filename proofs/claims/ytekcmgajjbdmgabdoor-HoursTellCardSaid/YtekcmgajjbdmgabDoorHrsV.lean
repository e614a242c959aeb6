/- The contract of the document's own Parse of layer 7. -/
import Derived.Test.YtekcmgajjbdmgabDoorHrsT
import Derived.Test.YtekcmgajjbdmgabDoorHrsU
import Derived.Test.YtekcmgajjbdmgabDoorHrsG
namespace Go.Proofs.YtekcmgajjbdmgabDoor
open Go.RowKit

/-- a clock that stands in a text at a place is read -/
theorem numT_at (p c q : Bs) (hc : c.length = 5) : numT (p ++ (c ++ q)) p.length = numT c 0 := by
  have h : ∀ j, j < 5 → byN (p ++ (c ++ q)) p.length j = byN c 0 j := fun j hj => by
    unfold byN
    rw [List.getD_eq_getElem?_getD, List.getD_eq_getElem?_getD, List.getElem?_append_right (by omega), Nat.add_sub_cancel_left, List.getElem?_append_left (by omega), Nat.zero_add]
  unfold numT
  rw [h 0 (by omega), h 1 (by omega), h 3 (by omega), h 4 (by omega)]
theorem text_nums {d f t : Nat} (h : spanC d f t = true) : numT (textT d f t) ((textT d f t).length - 11) = (f : Int) ∧ numT (textT d f t) ((textT d f t).length - 5) = (t : Int) := by
  unfold spanC at h
  rw [decide_eq_true_eq] at h
  obtain ⟨_, _, fl⟩ := clock_back f (by omega)
  obtain ⟨_, _, tl⟩ := clock_back t (by omega)
  have hlen : (textT d f t).length = (daysT d).length + 12 := by
    unfold textT
    simp only [List.length_append, List.length_cons, List.length_nil]
    omega
  constructor
  · have e : textT d f t = (daysT d ++ [32]) ++ (clockT f ++ ([45] ++ clockT t)) := by unfold textT; simp
    have hp : (textT d f t).length - 11 = (daysT d ++ [32]).length := by rw [hlen]; simp
    rw [hp, e, numT_at _ _ _ fl]
    exact num_clock f (by omega)
  · have e : textT d f t = (daysT d ++ ([32] ++ (clockT f ++ [45]))) ++ (clockT t ++ []) := by unfold textT; simp
    have hp : (textT d f t).length - 5 = (daysT d ++ ([32] ++ (clockT f ++ [45]))).length := by
      rw [hlen]
      simp only [List.length_append, List.length_cons, List.length_nil]
      omega
    rw [hp, e, numT_at _ _ _ tl]
    exact num_clock t (by omega)
/-- what the document's own loop tries -/
def tryR (s : Bs) (F T : Int) (d : Nat) : Bool := spanC d F T && decide (textT d F.toNat T.toNat = s)
theorem tryR_none {s : Bs} {F T : Int} (h : parseH s = none) (d : Nat) : tryR s F T d = false := by
  unfold tryR
  rw [Bool.and_eq_false_iff]
  by_cases hs : spanC d F T = true
  · right
    rw [decide_eq_false_iff_not]
    intro ht
    have hs' := hs
    unfold spanC at hs'
    rw [decide_eq_true_eq] at hs'
    obtain ⟨f, rfl⟩ := Int.eq_ofNat_of_zero_le (show 0 ≤ F by omega)
    obtain ⟨t, rfl⟩ := Int.eq_ofNat_of_zero_le (show 0 ≤ T by omega)
    rw [Int.toNat_natCast, Int.toNat_natCast] at ht
    have := parse_text hs
    rw [ht, h] at this
    cases this
  · left; simpa using hs
theorem tryR_some {s : Bs} {d f t : Nat} (h : parseH s = some (d, f, t)) (k : Nat) : tryR s f t k = decide (k = d) := by
  obtain ⟨h1, h2⟩ := parse_someH h
  unfold tryR
  rw [Int.toNat_natCast, Int.toNat_natCast]
  by_cases hk : k = d
  · subst hk
    rw [h1, decide_eq_true h2, decide_eq_true rfl]; rfl
  · rw [decide_eq_false hk, Bool.and_eq_false_iff]
    by_cases hs : spanC k f t = true
    · right
      rw [decide_eq_false_iff_not]
      intro ht
      have := parse_text hs
      rw [ht, h] at this
      simp only [Option.some.injEq, Prod.mk.injEq] at this
      exact hk this.1.symm
    · left; simpa using hs
theorem short_none {s : Bs} (h : s.length < 15) : parseH s = none := by
  cases hp : parseH s with
  | none => rfl
  | some v =>
    obtain ⟨d, f, t⟩ := v
    obtain ⟨h1, h2⟩ := parse_someH hp
    have := textT_len h1
    rw [h2] at this
    omega

def rpVal (r : Option (Nat × Nat × Nat)) : Value × Bool :=
  match r with
  | some (d, f, t) => (.agg #[.string ⟨#[120]⟩, .int .i64 (d : Int), .int .i64 (f : Int), .int .i64 (t : Int)], true)
  | none => (.agg #[.string ⟨#[]⟩, .int .i64 0, .int .i64 0, .int .i64 0], false)
def RParsP (r : Option (Nat × Nat × Nat)) (w : World) (e : Ending) (w' : World) : Prop := e = .returned (.tuple #[(rpVal r).1, .bool (rpVal r).2]) ∧ Below w.heap.size w w'

set_option maxHeartbeats 6400000 in
set_option maxRecDepth 100000 in
theorem rParse_any (s : ByteArray) (w : World) (hs : s.size ≤ 100000) : Calls Tryd.prog 16 #[.string s] w (RParsP (parseH s.data.toList) w) := by
  have hl := lenB s
  have hk1 := Blk.new w 33 #[.string ⟨#[]⟩, .int .i64 0, .int .i64 0, .int .i64 0]
  have hb0 := (Below.refl w.heap.size w).alloc (Nat.le_refl _) (.cells #[.string ⟨#[]⟩, .int .i64 0, .int .i64 0, .int .i64 0] 33)
  by_cases h15 : s.size < 15
  case pos =>
    rw [short_none (s := s.data.toList) (by omega)]
    go_enter Tryd.func16, Tryd.ntmps16
    go_wp2_with fail
    refine bodyPost_ret (v := .tuple #[.agg #[.string ⟨#[]⟩, .int .i64 0, .int .i64 0, .int .i64 0], .bool false]) ?_ rfl ⟨rfl, hb0⟩
    refine (results_cell_tmpH rfl _ _ w.heap.size _ #[.string ⟨#[]⟩, .int .i64 0, .int .i64 0, .int .i64 0] _ _ ?_ hk1 Tryd.underlying33 rfl (by kernel_rfl)).trans ?_
    · rfl
    · rfl
  case neg =>
  have hn1 := fun W => rNumber_any s (s.size - 11) W (by omega) hs
  have hn2 := fun W => rNumber_any s (s.size - 5) W (by omega) hs
  rw [show ((s.size - 11 : Nat) : Int) = (s.size : Int) - 11 by omega] at hn1
  rw [show ((s.size - 5 : Nat) : Int) = (s.size : Int) - 5 by omega] at hn2
  have hsome : ∀ d f t, parseH s.data.toList = some (d, f, t) → numT s.data.toList (s.size - 11) = (f : Int) ∧ numT s.data.toList (s.size - 5) = (t : Int) := fun d f t h => by
    obtain ⟨h1, h2⟩ := parse_someH h
    have := text_nums h1
    rw [h2, hl] at this
    exact this
  generalize numT s.data.toList (s.size - 11) = F at *
  generalize numT s.data.toList (s.size - 5) = T at *
  have hhit : ∀ k, tryR s.data.toList F T k = true → parseH s.data.toList = some (k, F.toNat, T.toNat) ∧ ((F.toNat : Nat) : Int) = F ∧ ((T.toNat : Nat) : Int) = T := fun k h => by
    cases hp : parseH s.data.toList with
    | none => rw [tryR_none hp k] at h; cases h
    | some v =>
      obtain ⟨d, f, t⟩ := v
      obtain ⟨rfl, rfl⟩ := hsome d f t hp
      rw [tryR_some hp k, decide_eq_true_eq] at h
      subst h
      simp
  have hend : (∀ j, 1 ≤ j → j < 128 → tryR s.data.toList F T j = false) → parseH s.data.toList = none := fun h => by
    cases hp : parseH s.data.toList with
    | none => rfl
    | some v =>
      obtain ⟨d, f, t⟩ := v
      obtain ⟨rfl, rfl⟩ := hsome d f t hp
      have hs1 := (parse_someH hp).1
      unfold spanC at hs1
      rw [decide_eq_true_eq] at hs1
      have := h d (by omega) (by omega)
      rw [tryR_some hp d, decide_eq_false_iff_not] at this
      exact absurd rfl this
  have hRt := fun W k => rRight_any ⟨#[120]⟩ k F T W (by unfold maxLen; decide)
  rw [show bwC (⟨#[120]⟩ : ByteArray).data.toList = true by decide] at hRt
  have hTx : ∀ k : Nat, spanC k F T = true → ∀ W, Calls Tryd.prog 22 #[.agg #[.string ⟨#[120]⟩, .int .i64 (k : Int), .int .i64 F, .int .i64 T]] W (StrW (textT k F.toNat T.toNat) W) := fun k h W => by
    unfold spanC at h
    rw [decide_eq_true_eq] at h
    obtain ⟨f, rfl⟩ := Int.eq_ofNat_of_zero_le (show 0 ≤ F by omega)
    obtain ⟨t, rfl⟩ := Int.eq_ofNat_of_zero_le (show 0 ≤ T by omega)
    exact rText_any ⟨#[120]⟩ k f t W (by omega) (by omega) (by omega)
  have htry : ∀ k : Nat, tryR s.data.toList F T k = (spanC k F T && decide (textT k F.toNat T.toNat = s.data.toList)) := fun k => rfl
  generalize parseH s.data.toList = R at *
  have HHIT := Lib.hid hhit
  have HEND := Lib.hid hend
  have HRT := Lib.hid hRt
  have HTX := Lib.hid hTx
  have HTRY := Lib.hid htry
  have HN1 := Lib.hid hn1
  have HN2 := Lib.hid hn2
  have HB0 := Lib.hid hb0
  have HK1 := Lib.hid hk1
  clear hsome hhit hend hRt hTx htry hn1 hn2 hb0 hk1
  go_enter Tryd.func16, Tryd.ntmps16
  go_upto_region 6 with (first
    | (go_at_call 37; (with_reducible refine (HN1.out _).mono ?_); rintro e w2 ⟨rfl, hb2⟩)
    | (go_at_call 37; (with_reducible refine (HN2.out _).mono ?_); rintro e w3 ⟨rfl, hb3⟩))
  have hkr := ((HK1.out.call hb2).call hb3).alloc (.cells #[.string ⟨#[120]⟩, .int .i64 0, .int .i64 F, .int .i64 T] 33)
  have hkg := Blk.new w3 33 #[.string ⟨#[120]⟩, .int .i64 0, .int .i64 F, .int .i64 T]
  have hbg := (bthen HB0.out (bthen hb2 hb3)).alloc (bthen HB0.out (bthen hb2 hb3)).size (.cells #[.string ⟨#[120]⟩, .int .i64 0, .int .i64 F, .int .i64 T] 33)
  have hgl : w.heap.size < w3.heap.size := ((HK1.out.call hb2).call hb3).lt
  generalize w3.alloc (.cells #[.string ⟨#[120]⟩, .int .i64 0, .int .i64 F, .int .i64 T] 33) = wx at *
  generalize w3.heap.size = G at *
  clear HB0 HK1 HN1 HN2 hb2 hb3
  go_loopg [6] 127 (fun gg iv wr => ∃ (k : Nat) (v : Value), k + gg = 128 ∧ 1 ≤ k ∧ iv = .int .i64 (k : Int) ∧ Hid (∀ j, 1 ≤ j → j < k → tryR s.data.toList F T j = false) ∧ Blk wr G 33 #[.string ⟨#[120]⟩, v, .int .i64 F, .int .i64 T] ∧ Blk wr w.heap.size 33 #[.string ⟨#[]⟩, .int .i64 0, .int .i64 0, .int .i64 0] ∧ Below w.heap.size w wr)
  case atStart => exact ⟨1, _, by omega, by omega, rfl, Lib.hid (fun j h1 h2 => absurd h1 (by omega)), hkg, hkr, hbg⟩
  case round =>
    obtain ⟨k, v, hkg2, hk1, rfl, HJ, hg, hr, hb⟩ := hrel
    clear hkr hkg hbg
    cases gk with
    | zero =>
      obtain rfl : k = 128 := by omega
      have hn0 := HEND.out HJ.out
      subst hn0
      obtain ⟨d0, d1, d2, d3⟩ := hr.cells4
      have f0 := hr.frozen 0
      have f1 := hr.frozen 1
      have f2 := hr.frozen 2
      have f3 := hr.frozen 3
      go_wp2_with fail
      refine bodyPost_ret (v := .tuple #[.agg #[.string ⟨#[]⟩, .int .i64 0, .int .i64 0, .int .i64 0], .bool false]) ?_ rfl ⟨rfl, below_set4 hb (Nat.le_refl _) _ _ _ _⟩
      refine (results_cell_tmpH rfl _ _ w.heap.size _ #[.string ⟨#[]⟩, .int .i64 0, .int .i64 0, .int .i64 0] _ _ ?_ (hr.set4 _ _ _ _) Tryd.underlying33 rfl (by kernel_rfl)).trans ?_
      · rfl
      · rfl
    | succ gg =>
      have hkl : k < 128 := by omega
      obtain ⟨d0, d1, d2, d3⟩ := hg.cells4
      have f1 := hg.frozen 1
      go_upto_region 9 with fail
      have hg2 : Blk (wr.setCell ⟨G, 1, none⟩ (.int .i64 (k : Int))) G 33 #[.string ⟨#[120]⟩, .int .i64 (k : Int), .int .i64 F, .int .i64 T] := hg.set 1 (.int .i64 (k : Int))
      have hr2 := hr.setO ⟨G, 1, none⟩ (.int .i64 (k : Int)) (by simp only; omega)
      have hb2 := hb.setCell (p := ⟨G, 1, none⟩) (Nat.le_of_lt hgl) (.int .i64 (k : Int))
      generalize wr.setCell ⟨G, 1, none⟩ (.int .i64 (k : Int)) = w5 at *
      clear d0 d1 d2 d3 f1 hg hr hb
      obtain ⟨d0, d1, d2, d3⟩ := hg2.cells4
      have hrt := HRT.out w5 (k : Int)
      have htr := HTRY.out k
      cases hA : spanC (k : Int) F T with
      | false =>
        rw [hA] at hrt htr
        have HJ2 : ∀ j, 1 ≤ j → j < k + 1 → tryR s.data.toList F T j = false := fun j h1 h2 => by
          by_cases e : j = k
          · rw [e, htr]; rfl
          · exact HJ.out j h1 (by omega)
        have HJ3 := Lib.hid HJ2
        clear hA htr HJ2 HJ
        go_wp2_with (go_at_call 18; (with_reducible refine hrt.mono ?_); rintro e w6 ⟨rfl, hb6⟩)
        go_roundg gg
        case measure => omega
        case rel => exact ⟨k + 1, _, by omega, by omega, by go_num, HJ3, hg2.call hb6, hr2.call hb6, bthen hb2 hb6⟩
      | true =>
        have htx := fun W => HTX.out k hA W
        rw [hA, Bool.true_and] at htr
        rw [hA] at hrt
        by_cases hT : textT k F.toNat T.toNat = s.data.toList
        · obtain ⟨hR, hF, hTT⟩ := HHIT.out k (by rw [htr, decide_eq_true hT])
          subst hR
          have he : bytA (textT k F.toNat T.toNat) = s := by apply bytes_ext; rw [bytA_list]; exact hT
          unfold StrW at htx
          rw [he] at htx
          have hself : (s.toList == s.toList) = true := by simp
          have HF := Lib.hid (And.intro hF hTT)
          clear hA htr HJ hT he hF hTT
          go_wp2_with (first
            | (go_at_call 18; (with_reducible refine hrt.mono ?_); rintro e w6 ⟨rfl, hb6⟩; obtain ⟨e0, e1, e2, e3⟩ := (hg2.call hb6).cells4)
            | (go_at_call 22; (with_reducible refine (htx _).mono ?_); rintro e w7 ⟨rfl, hb7⟩; have hb67 := bthen hb6 hb7; obtain ⟨g0, g1, g2, g3⟩ := (hg2.call hb67).cells4; have hr7 := hr2.call hb67; obtain ⟨m0, m1, m2, m3⟩ := hr7.cells4; have f0 := hr7.frozen 0; have f1 := hr7.frozen 1; have f2 := hr7.frozen 2; have f3 := hr7.frozen 3))
          refine bodyPost_ret (v := .tuple #[.agg #[.string ⟨#[120]⟩, .int .i64 (k : Int), .int .i64 F, .int .i64 T], .bool true]) ?_ rfl ⟨by obtain ⟨hF, hTT⟩ := HF.out; simp [rpVal, hF, hTT], below_set4 (bthen hb2 hb67) (Nat.le_refl _) _ _ _ _⟩
          refine (results_cell_tmpH rfl _ _ w.heap.size _ #[.string ⟨#[120]⟩, .int .i64 (k : Int), .int .i64 F, .int .i64 T] _ _ ?_ (hr7.set4 _ _ _ _) Tryd.underlying33 rfl (by kernel_rfl)).trans ?_
          · rfl
          · rfl
        · rw [decide_eq_false hT] at htr
          have HJ2 : ∀ j, 1 ≤ j → j < k + 1 → tryR s.data.toList F T j = false := fun j h1 h2 => by
            by_cases e : j = k
            · rw [e, htr]
            · exact HJ.out j h1 (by omega)
          have HJ3 := Lib.hid HJ2
          have hne : ¬ bytA (textT k F.toNat T.toNat) = s := by intro h; apply hT; rw [← h, bytA_list]
          have hne2 : (((bytA (textT k F.toNat T.toNat)).toList == s.toList)) = false := by rw [strEq, decide_eq_false_iff_not]; exact hne
          unfold StrW at htx
          generalize bytA (textT k F.toNat T.toNat) = Y at *
          clear hA htr HJ2 HJ hT
          go_wp2_with (first
            | (go_at_call 18; (with_reducible refine hrt.mono ?_); rintro e w6 ⟨rfl, hb6⟩; obtain ⟨e0, e1, e2, e3⟩ := (hg2.call hb6).cells4)
            | (go_at_call 22; (with_reducible refine (htx _).mono ?_); rintro e w7 ⟨rfl, hb7⟩; have hb67 := bthen hb6 hb7))
          go_roundg gg
          case measure => omega
          case rel => exact ⟨k + 1, _, by omega, by omega, by go_num, HJ3, hg2.call hb67, hr2.call hb67, bthen hb2 hb67⟩
end Go.Proofs.YtekcmgajjbdmgabDoor
