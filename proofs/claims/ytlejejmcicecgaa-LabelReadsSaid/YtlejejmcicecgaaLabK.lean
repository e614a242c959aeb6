/- The contracts of the document's own Same, Get, Keep, and of label.Keep. -/
import Derived.Test.YtlejejmcicecgaaLabR
import Derived.Test.YtlejejmcicecgaaLabN
namespace Go.Proofs.Ytlejejmcicecgaa
open Go.RowKit
open Go.WideShapes (bytes_inj)

theorem HasLabs.some {w : World} {a : Option Addr} {c : Nat} {ls : List Lab} (h : HasLabs w a c ls) (k : Nat) (hk : k < ls.length) :
    ∃ b off, a = some ⟨b, off, none⟩ ∧ b < w.heap.size ∧ ∀ i (h : i < ls.length), w.cell? ⟨b, off + i * 2, none⟩ = some (.string ls[i].1) ∧ w.cell? ⟨b, off + i * 2 + 1, none⟩ = some (.string ls[i].2) := by
  obtain ⟨_, _, _, h4⟩ := h
  rcases h4 with rfl | h4
  · exact absurd hk (by simp)
  · exact h4

set_option maxHeartbeats 1600000 in
set_option maxRecDepth 100000 in
theorem rSame_some (b off c b' off' c' : Nat) (ls ms : List Lab) (w : World) (hlc : ls.length ≤ c) (hcm : c ≤ maxLen) (hlc' : ms.length ≤ c') (_hcm' : c' ≤ maxLen) (_hb : b < w.heap.size) (_hb' : b' < w.heap.size)
    (hcell : ∀ i (h : i < ls.length), w.cell? ⟨b, off + i * 2, none⟩ = some (.string ls[i].1) ∧ w.cell? ⟨b, off + i * 2 + 1, none⟩ = some (.string ls[i].2))
    (hcell' : ∀ i (h : i < ms.length), w.cell? ⟨b', off' + i * 2, none⟩ = some (.string ms[i].1) ∧ w.cell? ⟨b', off' + i * 2 + 1, none⟩ = some (.string ms[i].2)) (hl : ls.length = ms.length) :
    Calls Try.prog 16 #[.slice (some ⟨b, off, none⟩) ls.length c, .slice (some ⟨b', off', none⟩) ms.length c'] w (BoolB (decide (ls = ms)) w) := by
  unfold maxLen at hcm _hcm'
  have HC := Lib.hid hcell
  have HC' := Lib.hid hcell'
  have hlen : ((ls.length : Int) != (ms.length : Int)) = false := by rw [hl]; simp
  have hlb : ms.length ≤ ls.length := by omega
  have hlb' : ls.length ≤ ms.length := by omega
  have HL := Lib.hid hl
  clear hcell hcell' hl
  go_enter Try.func16, Try.ntmps16
  go_wp2
  go_loopw [13] (fun i wr => ∃ k : Nat, k ≤ ls.length ∧ i = .int .i64 k ∧ ls.take k = ms.take k ∧ Below w.heap.size w wr) (fun i _ => ls.length - (intOf i).toNat)
  case atStart => exact ⟨0, Nat.zero_le _, rfl, rfl, Below.refl _ _⟩
  case round =>
    obtain ⟨k, hk, rfl, he, hbl⟩ := hrel
    have HE := Lib.hid he
    clear he
    by_cases hkl : k < ls.length
    · have hkm : k < ms.length := by omega
      have hc1 := cellLater hbl (HC.out k hkl).1
      have hc2 := cellLater hbl (HC.out k hkl).2
      have hd1 := cellLater hbl (HC'.out k hkm).1
      have hd2 := cellLater hbl (HC'.out k hkm).2
      have hne := fun W => run_neq_lab ls[k] (ms[k]'hkm) W
      by_cases hq : ls[k] = ms[k]'hkm
      · have htk : ls.take (k + 1) = ms.take (k + 1) := by
          rw [List.take_succ_eq_append_getElem hkl, List.take_succ_eq_append_getElem hkm, HE.out, hq]
        have HT := Lib.hid htk
        rw [decide_eq_true hq] at hne
        clear htk hq
        go_wp2_with fail
        go_quiet (fail)
        go_wp2
        go_roundw
        case rel => exact ⟨k + 1, by omega, by go_num, HT.out, below_drewN hbl _⟩
        case measure => simp [intOf]; omega
      · have hf : decide (ls = ms) = false := by
          rw [decide_eq_false_iff_not]
          intro e
          subst e
          exact hq rfl
        have HF := Lib.hid hf
        rw [decide_eq_false hq] at hne
        clear hq hf
        go_wp2_with fail
        go_quiet (fail)
        go_wp2
        go_ret
        rw [HF.out]
        exact ⟨rfl, below_drewN hbl _⟩
    · have ht : decide (ls = ms) = true := by
        have := HE.out
        rw [List.take_of_length_le (by omega), List.take_of_length_le (by omega)] at this
        rw [decide_eq_true_iff]; exact this
      go_wp2
      go_ret
      rw [ht]
      exact ⟨rfl, hbl⟩

theorem rSame_any (a a' : Option Addr) (c c' : Nat) (ls ms : List Lab) (w : World) (h : HasLabs w a c ls) (h' : HasLabs w a' c' ms) :
    Calls Try.prog 16 #[.slice a ls.length c, .slice a' ms.length c'] w (BoolB (decide (ls = ms)) w) := by
  obtain ⟨h1, h2, h3, h4⟩ := h
  obtain ⟨g1, g2, g3, g4⟩ := h'
  unfold maxLen at h2 g2
  by_cases hl : ls.length = ms.length
  · rcases h4 with rfl | ⟨b, off, rfl, hb, hc⟩
    · obtain rfl : ms = [] := List.eq_nil_of_length_eq_zero hl.symm
      go_enter Try.func16, Try.ntmps16
      go_wp2
      refine wp_loop_rounds 1 ?_
      rw [rounds_succ]
      go_wp2
      go_ret
      exact ⟨rfl, Below.refl _ _⟩
    · rcases g4 with rfl | ⟨b', off', rfl, hb', hc'⟩
      · obtain rfl : ls = [] := List.eq_nil_of_length_eq_zero hl
        go_enter Try.func16, Try.ntmps16
        go_wp2
        refine wp_loop_rounds 1 ?_
        rw [rounds_succ]
        go_wp2
        go_ret
        exact ⟨rfl, Below.refl _ _⟩
      · exact rSame_some b off c b' off' c' ls ms w h1 (by unfold maxLen; omega) g1 (by unfold maxLen; omega) hb hb' hc hc' hl
  · have hlen : ((ls.length : Int) != (ms.length : Int)) = true := by rw [bne_iff_ne]; omega
    have hf : decide (ls = ms) = false := by
      rw [decide_eq_false_iff_not]
      intro e
      exact hl (by rw [e])
    rw [hf]
    clear hl hf h3 h4 g3 g4
    go_enter Try.func16, Try.ntmps16
    go_wp2
    go_ret
    exact ⟨rfl, Below.refl _ _⟩

set_option maxHeartbeats 1600000 in
theorem rGet_any (a : Option Addr) (c : Nat) (ls : List Lab) (s : ByteArray) (w : World) (h : HasLabs w a c ls) :
    Calls Try.prog 18 #[.slice a ls.length c, .string s] w (StrB (getL ls s) w) := by
  have h2 := h.2.1
  have h1 := h.1
  have HL := Lib.hid h
  unfold maxLen at h2
  clear h
  obtain ⟨J, hJ, hok, hend⟩ : ∃ J, J ≤ ls.length ∧ (∀ k (_h : k < J) (_h2 : k < ls.length), (ls[k].1.toList == s.toList) = false) ∧ (J = ls.length ∧ getL ls s = ⟨#[]⟩ ∨ ∃ hj : J < ls.length, (ls[J].1.toList == s.toList) = true ∧ getL ls s = ls[J].2) := by
    rcases get_cases ls s with ⟨j, hj, g1, g2, g3⟩ | ⟨g1, g2⟩
    · exact ⟨j, by omega, fun k hk _ => by rw [toList_eq_iff]; exact decide_eq_false (g2 k hk), .inr ⟨hj, by rw [toList_eq_iff]; exact decide_eq_true g1, g3⟩⟩
    · exact ⟨ls.length, Nat.le_refl _, fun k hk h => by rw [toList_eq_iff]; exact decide_eq_false (g1 k h), .inl ⟨rfl, g2⟩⟩
  have HOK := Lib.hid hok
  have HE := Lib.hid hend
  clear hok hend
  go_enter Try.func18, Try.ntmps18
  go_wp2
  go_loopw [9] (fun i wr => ∃ k : Nat, k ≤ J ∧ i = .int .i64 k ∧ Below w.heap.size w wr) (fun i _ => ls.length - (intOf i).toNat)
  case atStart => exact ⟨0, Nat.zero_le _, rfl, Below.refl _ _⟩
  case round =>
    obtain ⟨k, hk, rfl, hbl⟩ := hrel
    by_cases hkl : k < ls.length
    · obtain ⟨b, off, rfl, hbb, hcell⟩ := (HL.out.call hbl).some k hkl
      obtain ⟨hc1, hc2⟩ := hcell k hkl
      clear hcell
      by_cases hkJ : k = J
      · rcases HE.out with ⟨he, _⟩ | ⟨hj, hq, hg⟩
        · omega
        · subst hkJ
          have HG := Lib.hid hg
          clear hg
          go_wp2
          go_ret
          exact ⟨by rw [HG.out]; rfl, hbl.alloc hbl.size _⟩
      · have hq := HOK.out k (by omega) hkl
        go_wp2
        go_roundw
        case rel => exact ⟨k + 1, by omega, by go_num, hbl.alloc hbl.size _⟩
        case measure => simp [intOf]; omega
    · rcases HE.out with ⟨he, hg⟩ | ⟨hj, _⟩
      · have HG := Lib.hid hg
        clear hg he
        go_wp2
        go_ret
        exact ⟨by rw [HG.out]; rfl, hbl⟩
      · omega

def inB (x : ByteArray) (ss : List ByteArray) : Bool := ss.any fun s => decide (s = x)
theorem inB_iff (x : ByteArray) (ss : List ByteArray) : inB x ss = true ↔ x ∈ ss := by
  simp only [inB, List.any_eq_true, decide_eq_true_eq]
  exact ⟨fun ⟨s, h, e⟩ => e ▸ h, fun h => ⟨x, h, rfl⟩⟩
theorem contains_any (a : Option Addr) (c : Nat) (ss : List ByteArray) (x : ByteArray) (w : World) (h : HasStrs w a c ss) :
    Calls Try.prog 42 #[.slice a ss.length c, .string x] w fun e w' => e = .returned (.bool (inB x ss)) ∧ w = w' := by
  obtain ⟨h1, h2, h3, h4⟩ := h
  unfold maxLen at h2
  rcases h4 with rfl | ⟨b, off, rfl, hb, hc⟩
  · exact (Try.slices_Contains_string_empty a c x w).mono fun e w' ⟨he, hw⟩ => ⟨he, hw.symm⟩
  · refine (Try.slices_Contains_string b off ss.length c ss x w (Nat.le_refl _) (by omega) (fun j hj => ?_)).mono fun e w' ⟨he, hw⟩ => ⟨?_, hw.symm⟩
    · rw [hc j hj]; simp [List.getD, hj]
    · rw [he, List.take_length]
      congr 2
      rw [Bool.eq_iff_iff, Lib.containsS_iff, inB_iff]

def keepL (ls : List Lab) (ns : List ByteArray) : List Lab := ls.filter fun l => inB l.1 ns
theorem keepL_take (ls : List Lab) (ns : List ByteArray) (k : Nat) (h : k < ls.length) : keepL (ls.take (k + 1)) ns = keepL (ls.take k) ns ++ (if inB ls[k].1 ns = true then [ls[k]] else []) := by
  rw [List.take_succ_eq_append_getElem h, keepL, List.filter_append]
  congr 1
  by_cases hq : inB ls[k].1 ns = true <;> simp [hq]
theorem keepL_sub (ls : List Lab) (ns : List ByteArray) (P : Lab → Prop) (h : ∀ l ∈ ls, P l) : ∀ l ∈ keepL ls ns, P l := fun l hl => h l (List.mem_filter.1 hl).1
theorem keepL_len (ls : List Lab) (ns : List ByteArray) : (keepL ls ns).length ≤ ls.length := List.length_filter_le _ _
def LabsE (ls : List Lab) (n : Int) (w : World) (e : Ending) (w' : World) : Prop := ∃ a c, e = .returned (.tuple #[.slice a ls.length c, .int .i64 n]) ∧ HasLabs w' a c ls ∧ Below w.heap.size w w'
theorem labsE_nil {n : Int} {w w' : World} (hb : Below w.heap.size w w') : LabsE [] n w (.returned (.tuple #[.slice none 0 0, .int .i64 n])) w' := ⟨none, 0, rfl, HasLabs.nil _ _ _ (by unfold maxLen; omega), hb⟩

set_option maxHeartbeats 3200000 in
set_option maxRecDepth 100000 in
theorem keep_ok (a a' : Option Addr) (c c' : Nat) (ls : List Lab) (ns : List ByteArray) (w : World) (h : HasLabs w a c ls) (h' : HasStrs w a' c' ns) (hr : rightC ls = true) :
    Calls Try.prog 25 #[.slice a ls.length c, .slice a' ns.length c'] w (LabsE (keepL ls ns) 0 w) := by
  obtain ⟨i0, hi, hz0, hz1, hz2⟩ := info_partsL Try.infoL
  have hri := fun W (hW : HasLabs W a c ls) => right_any a c ls W hW
  rw [hr] at hri
  have HRI := Lib.hid hri
  have HL := Lib.hid h
  have HN := Lib.hid h'
  have h2 := h.2.1
  have h1 := h.1
  have HS := Lib.hid h.2.2.1
  have h8 := (rightC_okAt hr).1
  unfold maxLen at h2
  clear hri h h' hr
  go_enter Try.func25, Try.ntmps25
  go_upto_region 3 with (go_at_call 14; refine (HRI.out _ HL.out).mono ?_; rintro e w1 ⟨rfl, hb1⟩)
  have hz1' := hb1.size
  go_wp2_with fail
  go_loopw [6, 14] (fun v i wr => ∃ k : Nat, k ≤ ls.length ∧ i = .int .i64 k ∧ OwnL 49 wr w.heap.size v (keepL (ls.take k) ns) ∧ Below w.heap.size w wr ∧ w.heap.size ≤ wr.heap.size) (fun _ i _ => ls.length - (intOf i).toNat)
  case atStart => exact ⟨0, Nat.zero_le _, rfl, OwnL.nil _ _ _, hb1, hz1'⟩
  case round =>
    clear hb1 hz1'
    obtain ⟨k, hk, rfl, hown, hb, hz⟩ := hrel
    by_cases hkl : k < ls.length
    · obtain ⟨b, off, rfl, hbb, hcell⟩ := (HL.out.call hb).some k hkl
      obtain ⟨hc1, hc2⟩ := hcell k hkl
      have hlen : (keepL (ls.take k) ns).length ≤ 1000000 := by have := keepL_len (ls.take k) ns; rw [List.length_take] at this; omega
      have htk := keepL_take ls ns k hkl
      obtain ⟨M, HM⟩ : ∃ M, Hid (keepL (ls.take k) ns = M) := ⟨_, Lib.hid rfl⟩
      rw [HM.out] at hown hlen htk
      obtain ⟨X, hX⟩ : ∃ X, ls[k] = X := ⟨_, rfl⟩
      rw [hX] at hc1 hc2 htk
      have HTK := Lib.hid htk
      have hownW := hown.alloc (.cells #[.string X.1, .string X.2] 49)
      have hbW := hb.alloc hz (.cells #[.string X.1, .string X.2] 49)
      have hzW := hbW.size
      have hbx := Blk.new wr 49 #[.string X.1, .string X.2]
      have HNW := Lib.hid (HN.out.call hbW)
      clear hX htk hcell hown hb
      go_upto_region 7 with fail
      generalize wr.alloc (.cells #[.string X.1, .string X.2] 49) = W at *
      generalize wr.heap.size = B at *
      have q1 : W.cell? ⟨B, 0, none⟩ = some (.string X.1) := hbx.cell 0
      have q2 : W.cell? ⟨B, 1, none⟩ = some (.string X.2) := hbx.cell 1
      have hct := fun (hW : HasStrs W a' c' ns) => contains_any a' c' ns X.1 W hW
      by_cases hq : inB X.1 ns = true
      · rw [hq] at hct
        have HCT := Lib.hid hct
        have HK : Hid (M ++ [X] = keepL (ls.take (k + 1)) ns) := Lib.hid (by rw [HTK.out, if_pos hq])
        clear hct hq
        go_wp2_with (first
          | (go_at_call 42; refine (HCT.out HNW.out).mono ?_; rintro e w2 ⟨rfl, rfl⟩)
          | (at_builtin; refine (wpList_pushL W rfl _ _ 22 rfl w.heap.size 49 i0 (.agg #[.string ⟨#[]⟩, .string ⟨#[]⟩]) Try.underlying22 hi hz0 hz1 hz2 rfl u6 M X rfl hownW [.string X.1, .string X.2] rfl rfl hlen hzW ?_)))
        intro v2 w2 hown2 hg2
        have hb2 := hownW.grown hbW hzW hg2
        have hz2' := Nat.le_trans hzW hg2.size
        clear hownW hbW hzW hg2 hbx q1 q2
        go_wp2
        go_roundw
        case rel => exact ⟨k + 1, by omega, by go_num, by rw [← HK.out]; exact hown2, hb2, hz2'⟩
        case measure => simp [intOf]; omega
      · rw [Bool.not_eq_true _ |>.mp hq] at hct
        have HCT := Lib.hid hct
        have HK : Hid (M = keepL (ls.take (k + 1)) ns) := Lib.hid (by rw [HTK.out, if_neg hq, List.append_nil])
        clear hct hq
        go_wp2_with (first
          | (go_at_call 42; refine (HCT.out HNW.out).mono ?_; rintro e w2 ⟨rfl, rfl⟩))
        go_roundw
        case rel => exact ⟨k + 1, by omega, by go_num, by rw [← HK.out]; exact hownW, hbW, hzW⟩
        case measure => simp [intOf]; omega
    · have hfl : keepL (ls.take k) ns = keepL ls ns := by rw [List.take_of_length_le (by omega)]
      rw [hfl] at hown
      obtain ⟨a2, c2, rfl, hh⟩ := hown.labs (keepL_sub ls ns _ HS.out)
      have HH := Lib.hid hh
      clear hfl hown hh
      go_wp2
      go_ret2
      exact ⟨a2, c2, rfl, HH.out, hb⟩
theorem keep_bad (a a' : Option Addr) (c c' : Nat) (ls : List Lab) (ns : List ByteArray) (w : World) (h : HasLabs w a c ls) (hr : rightC ls = false) :
    Calls Try.prog 25 #[.slice a ls.length c, .slice a' ns.length c'] w (LabsE [] 1 w) := by
  have hri := fun W (hW : HasLabs W a c ls) => right_any a c ls W hW
  rw [hr] at hri
  have HRI := Lib.hid hri
  have HL := Lib.hid h
  clear hri h hr
  go_enter Try.func25, Try.ntmps25
  go_wp2_with (go_at_call 14; refine (HRI.out _ HL.out).mono ?_; rintro e w1 ⟨rfl, hb1⟩)
  go_ret2
  exact labsE_nil hb1
def keepP (ls : List Lab) (ns : List ByteArray) : List Lab × Int := if rightC ls = true then (keepL ls ns, 0) else ([], 1)
theorem keep_any (a a' : Option Addr) (c c' : Nat) (ls : List Lab) (ns : List ByteArray) (w : World) (h : HasLabs w a c ls) (h' : HasStrs w a' c' ns) :
    Calls Try.prog 25 #[.slice a ls.length c, .slice a' ns.length c'] w (LabsE (keepP ls ns).1 (keepP ls ns).2 w) := by
  cases hr : rightC ls with
  | true =>
    have e : keepP ls ns = (keepL ls ns, 0) := by rw [keepP, if_pos hr]
    rw [e]; exact keep_ok a a' c c' ls ns w h h' hr
  | false =>
    have e : keepP ls ns = ([], 1) := by rw [keepP, if_neg (by rw [hr]; simp)]
    rw [e]; exact keep_bad a a' c c' ls ns w h hr
end Go.Proofs.Ytlejejmcicecgaa
