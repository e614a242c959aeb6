/- The contract of hours.Text. -/
import Derived.Test.YtekcmgajjbdmgabDoorHrsE
import Derived.Test.YtekcmgajjbdmgabDoorOwnS
namespace Go.Proofs.YtekcmgajjbdmgabDoor
open Go.RowKit

theorem namesT_succ (d k : Nat) : namesT d (k + 1) = if hasT d k then namesT d k ++ [nameT k] else namesT d k := by
  unfold namesT
  rw [List.range_succ, List.filter_append, List.map_append]
  cases h : hasT d k <;> simp [h]
theorem namesT_len (d : Nat) : ∀ k, (namesT d k).length ≤ k := by
  intro k
  unfold namesT
  rw [List.length_map]
  exact Nat.le_trans (List.length_filter_le _ _) (by simp)
theorem namesT_ne : ∀ d, d < 128 → 1 ≤ d → namesT d 7 ≠ [] := by decide +kernel
theorem joinH_any (xs : List Bs) (W : World) (a : Option Addr) (c : Nat) (h : HasStrs W a c (xs.map bytA)) (hne : xs ≠ []) (hlen : (Lib.join xs [44]).length ≤ 100) (hx : xs.length ≤ 7) :
    Calls Tryd.prog 32 #[.slice a xs.length c, .string ⟨#[44]⟩] W (StrW (Lib.join xs [44]) W) := by
  obtain ⟨h1, h2, h3, h4⟩ := h
  have hm : (xs.map bytA).map (·.data.toList) = xs := by rw [List.map_map]; exact (List.map_congr_left fun x _ => bytA_list x).trans (List.map_id _)
  have hl : (xs.map bytA).length = xs.length := by simp
  rcases h4 with h4 | ⟨b, off, rfl, hb, hc⟩
  · exact absurd (List.map_eq_nil_iff.1 h4) hne
  · have := Tryd.strings_Join b off c (xs.map bytA) ⟨#[44]⟩ W (fun j x hj => by
      obtain ⟨hl, rfl⟩ := List.getElem?_eq_some_iff.1 hj
      exact hc j hl) hb (by rw [hl]; omega) h1 (by rw [hm]; exact Nat.le_trans hlen (by omega))
    rw [hm, hl] at this
    exact this
def TextP (r : Bs × Int) (w : World) (e : Ending) (w' : World) : Prop := e = .returned (.tuple #[.string (bytA r.1), .int .i64 r.2]) ∧ Below w.heap.size w w'
def textI (n : Bs) (d f t : Int) : Bs × Int := if bwC n && spanC d f t then (textT d.toNat f.toNat t.toNat, 0) else ([], 1)

set_option maxHeartbeats 3200000 in
set_option maxRecDepth 100000 in
theorem hText_any (n : ByteArray) (d f t : Int) (w : World) (hn : n.size ≤ maxLen) (hw : HW w) :
    Calls Tryd.prog 14 #[.agg #[.string n, .int .i64 d, .int .i64 f, .int .i64 t]] w (TextP (textI n.data.toList d f t) w) := by
  have hR := fun W => hRight_any n d f t W hn
  have hb0 := (Below.refl w.heap.size w).alloc (Nat.le_refl _) (.cells #[.string n, .int .i64 d, .int .i64 f, .int .i64 t] 33)
  unfold textI
  cases hr : bwC n.data.toList && spanC d f t with
  | false =>
    rw [hr] at hR
    rw [if_neg (by simp)]
    clear hr
    go_enter Tryd.func14, Tryd.ntmps14
    go_wp2_with (go_at_call 17; refine (hR _).mono ?_; rintro e w2 ⟨rfl, hb2⟩)
    go_ret2
    exact ⟨rfl, bthen hb0 hb2⟩
  | true =>
    rw [hr] at hR
    rw [Bool.and_eq_true] at hr
    have hs := hr.2
    unfold spanC at hs
    rw [decide_eq_true_eq] at hs
    rw [if_pos rfl]
    obtain ⟨d, rfl⟩ := Int.eq_ofNat_of_zero_le (show 0 ≤ d by omega)
    obtain ⟨f, rfl⟩ := Int.eq_ofNat_of_zero_le (show 0 ≤ f by omega)
    obtain ⟨t, rfl⟩ := Int.eq_ofNat_of_zero_le (show 0 ≤ t by omega)
    simp only [Int.toNat_natCast]
    have hd : d < 128 := by omega
    have hd1 : 1 ≤ d := by omega
    have hK := fun W => clock_any f W (by omega)
    have hK2 := fun W => clock_any t W (by omega)
    have hD := fun W k hk => hDay_any n d k f t W hd hk
    obtain ⟨-, -, -, hjl⟩ := days_back d hd
    obtain ⟨-, -, fl⟩ := clock_back f (by omega)
    obtain ⟨-, -, tl⟩ := clock_back t (by omega)
    have HK := Lib.hid hK
    have HK2 := Lib.hid hK2
    have HD := Lib.hid hD
    have HL := Lib.hid (And.intro hjl (And.intro fl tl))
    clear hr hs hK hK2 hD hjl fl tl
    obtain ⟨i0, hi, hz0, hz1, hz2⟩ := info_parts Tryd.infoS
    go_enter Tryd.func14, Tryd.ntmps14
    go_upto_region 4 with (go_at_call 17; refine (hR _).mono ?_; rintro e w2 ⟨rfl, hb2⟩)
    obtain ⟨c0, c1, c2, c3, c4, c5, c6⟩ := names7 (hw.call (bthen hb0 hb2))
    go_upto_region 5 with fail
    clear c0 c1 c2 c3 c4 c5 c6 hR
    obtain ⟨B, hB⟩ : ∃ B, (w.alloc (.cells #[.string n, .int .i64 (d : Int), .int .i64 (f : Int), .int .i64 (t : Int)] 33)).heap.size = B := ⟨_, rfl⟩
    have hBw : w.heap.size ≤ B := by rw [← hB]; simp
    go_loopg [11, 4, 5, 6] 7 (fun gg iv u _ _ wr => ∃ (k : Nat) (u' : Value), u' = u ∧ k + gg = 7 ∧ iv = .int .i64 (k : Int) ∧ OwnS 9 wr B u' ((namesT d k).map bytA) ∧ Below (w.alloc (.cells #[.string n, .int .i64 (d : Int), .int .i64 (f : Int), .int .i64 (t : Int)] 33)).heap.size (w.alloc (.cells #[.string n, .int .i64 (d : Int), .int .i64 (f : Int), .int .i64 (t : Int)] 33)) wr)
    case atStart => exact ⟨0, _, rfl, rfl, rfl, OwnS.nil _ _ _, hb2⟩
    case round =>
      obtain ⟨k, u, rfl, hkg, rfl, hown, hwr⟩ := hrel
      obtain ⟨k0, k1, k2, k3⟩ := box4 hwr
      have hnl := namesT_len d k
      cases gk with
      | zero =>
        obtain rfl : k = 7 := by omega
        obtain ⟨a, c, rfl, hS⟩ := hown.strs (fun s hs => by
          obtain ⟨x, hx, rfl⟩ := List.mem_map.1 hs
          obtain ⟨i, _, rfl⟩ := List.mem_map.1 hx
          rw [bytA_size]
          unfold nameT maxLen
          rw [List.getD_eq_getElem?_getD]
          have : ∀ y ∈ ([[109, 111, 110], [116, 117, 101], [119, 101, 100], [116, 104, 117], [102, 114, 105], [115, 97, 116], [115, 117, 110]] : List Bs), y.length ≤ 3 := by decide
          cases hg : ([[109, 111, 110], [116, 117, 101], [119, 101, 100], [116, 104, 117], [102, 114, 105], [115, 97, 116], [115, 117, 110]] : List Bs)[i]? with
          | none => simp
          | some y => have := this y (List.mem_of_getElem? hg); simp; omega)
        obtain ⟨l1, l2, l3⟩ := HL.out
        have hJ := fun xq => calls_later (joinH_any (namesT d 7) (later wr xq) a c (hS.call (later_below wr xq)) (namesT_ne d hd hd1) (by unfold daysT at l1; omega) hnl)
        have hK := fun xq => calls_later (HK.out (later wr xq))
        have hK2 := fun xq => calls_later (HK2.out (later wr xq))
        have hfin : bytA (textT d f t) = bytA (daysT d) ++ ⟨#[32]⟩ ++ bytA (clockT f) ++ ⟨#[45]⟩ ++ bytA (clockT t) := by
          unfold textT
          simp only [bytA_app, ByteArray.append_assoc]
          rfl
        rw [List.length_map]
        have e1 : Lib.join (namesT d 7) [44] = daysT d := rfl
        rw [e1] at hJ
        have s1 := bytA_size (daysT d)
        have s2 := bytA_size (clockT f)
        have s3 := bytA_size (clockT t)
        have HF := Lib.hid hfin
        clear hfin e1 hown hnl hS
        generalize bytA (daysT d) = X at *
        generalize bytA (clockT f) = Y at *
        generalize bytA (clockT t) = Z at *
        generalize (namesT d 7).length = N at *
        have p1 : ¬ 9223372036854775807 < X.size + 1 := by omega
        have p2 : ¬ 9223372036854775807 < X.size + 1 + Y.size := by omega
        have p3 : ¬ 9223372036854775807 < X.size + 1 + Y.size + 1 := by omega
        have p4 : ¬ 9223372036854775807 < X.size + 1 + Y.size + 1 + Z.size := by omega
        have HJ := Lib.hid hJ
        have HKK := Lib.hid hK
        have HKK2 := Lib.hid hK2
        have q1 := fun xq => later_cell k0 xq
        have q2 := fun xq => later_cell k1 xq
        have q3 := fun xq => later_cell k2 xq
        have q4 := fun xq => later_cell k3 xq
        clear s1 s2 s3 l1 l2 l3 hJ hK hK2 HK HK2 k0 k1 k2 k3
        go_upto_region 10 with fail
        refine wp_region_later (by kernel_rfl) (by kernel_rfl) ?_
        repeat (go_big_quiet_step (first | (go_at_call 32; with_reducible exact HJ.out _) | (go_at_call 33; first | (with_reducible exact HKK.out _) | (with_reducible exact HKK2.out _))))
        refine wpQuiet_nil ?_
        rintro _ ⟨xq, rfl⟩
        have hbx := bthen hb0 (hwr.trans ((later_below wr xq).mono hwr.size))
        clear q1 q2 q3 q4 HJ HKK HKK2
        generalize later wr xq = w5 at *
        go_wp2_with fail
        go_ret2
        exact ⟨by rw [HF.out]; rfl, hbx⟩
      | succ g =>
        have hk : k < 7 := by omega
        have hx := index7 k hk
        have hns := namesT_succ d k
        have hD := fun W => HD.out W k hk
        have hBr : B ≤ wr.heap.size := by rw [← hB]; exact hwr.size
        have HOW := Lib.hid hown
        generalize hX : nameB k = X at *
        cases hc : hasT d k with
        | false =>
          rw [hc] at hD hns
          rw [if_neg (by simp)] at hns
          have HNS := Lib.hid hns
          clear hns hc hnl hown hX
          go_wp2_with (go_at_call 31; (with_reducible refine (hD _).mono ?_); rintro e w3 ⟨rfl, hb3⟩)
          go_roundg g
          case measure => omega
          case rel => exact ⟨k + 1, _, rfl, by omega, by go_num, by rw [HNS.out]; exact HOW.out.call hb3, bthen hwr hb3⟩
        | true =>
          rw [hc] at hD hns
          rw [if_pos rfl] at hns
          have HNS := Lib.hid hns
          have HX := Lib.hid hX
          have hnl2 : ((namesT d k).map bytA).length ≤ 7 := by rw [List.length_map]; omega
          clear hns hc hnl hown hX
          generalize hZ : (namesT d k).map bytA = Z at *
          have HZ := Lib.hid hZ
          clear hZ
          go_upto_region 8 with (go_at_call 31; (with_reducible refine (hD _).mono ?_); rintro e w3 ⟨rfl, hb3⟩)
          have hB3 : B ≤ w3.heap.size := Nat.le_trans hBr hb3.size
          have hw3 := bthen hwr hb3
          go_wp2_with (at_builtin; refine (wpList_push w3 rfl _ _ 54 rfl B 9 i0 (.string ⟨#[]⟩) 16 Tryd.underlying54 hi hz0 hz1 hz2 rfl u Z.length (strsV Z) rfl (HOW.out.call hb3) (.string X) rfl rfl (by unfold maxLen; omega) (by omega) hB3 ?_); intro g3 c3 w4 hown4 hg4)
          go_roundg g
          case measure => omega
          case rel => exact ⟨k + 1, _, rfl, by omega, by go_num, by rw [HNS.out, List.map_append, HZ.out]; unfold OwnS; rw [List.map_cons, List.map_nil, ← strsV_push, List.length_append, ← HX.out] at *; exact hown4, hw3.grown hg4 hw3.size (fun q hq => by have := (World.ownsRow.lt HOW.out q hq).1; omega)⟩
end Go.Proofs.YtekcmgajjbdmgabDoor
