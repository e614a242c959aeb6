/- The contract of label.With. -/
import Derived.Test.YtdlhmjdjoadioabGreatDoorMg1
import Derived.Test.YtdlhmjdjoadioabGreatDoorZLabW
namespace Go.Proofs.YtdlhmjdjoadioabGreatDoor
open Go.RowKit

/-- a row of labels, as what an append is handed -/
theorem src_labs {P : Program} {t e : Nat} {w : World} {a : Option Addr} {c : Nat} {ls : List Lab} (hk : P.underlying t = some (.slice e)) (h : HasLabs w a c ls) : Src P 2 t (.slice a ls.length c) ls.length (labsV ls) w := by
  obtain ⟨h1, h2, h3, h4⟩ := h
  rcases h4 with rfl | ⟨b, off, rfl, hb, hc⟩
  · cases a with
    | none => exact Src.ofNil w hk c
    | some a => exact Src.ofSlice w hk a 0 c [] (by simp) (fun j u hu => by simp at hu) (fun u hu => by cases hu)
  · refine Src.ofSlice w hk ⟨b, off, none⟩ ls.length c (labsV ls) (by rw [labsV_len]) (fun j u hu => ?_) (labsV_one _)
    have hj : j < ls.length * 2 := by
      have := (List.getElem?_eq_some_iff.1 hu).1
      rwa [labsV_len] at this
    have e0 : (⟨b, off, none⟩ : Addr).add j = ⟨b, off + j, none⟩ := by unfold Addr.add; split <;> simp_all
    rw [e0]
    obtain ⟨g1, g2⟩ := labsV_get ls (j / 2) (by omega)
    obtain ⟨k1, k2⟩ := hc (j / 2) (by omega)
    rcases Nat.mod_two_eq_zero_or_one j with hm | hm
    · rw [show j / 2 * 2 = j by omega] at g1 k1
      rw [k1, ← g1]; exact hu
    · rw [show j / 2 * 2 + 1 = j by omega] at g2
      rw [show off + j / 2 * 2 + 1 = off + j by omega] at k2
      rw [k2, ← g2]; exact hu

theorem wpList_appL {P : Program} (w : World) {ops : Array Oper} {rest : List Oper} {o : Oper} {a : Act} {Q : Exit → Act → World → Prop} (hgd : o.guard = none) (s x : Operand) (t : TypeId)
    (ho : o.op = .call { callee := .builtin .append, args := #[s, x], argTypes := #[t, t] })
    (base : Nat) (e : TypeId) (i : TypeInfo) (z : Value) (ht : P.underlying t = some (.slice e)) (hi : P.info? e = some i) (hz : i.zero = some z) (hsize : i.size = 2) (hby : i.bytes = 32) (hzs : z.cells.size = 2)
    (v : Value) (ls : List Lab) (hs : a.eval s = v) (hown : OwnL e w base v ls) (b : Option Addr) (c : Nat) (ms : List Lab) (hx : a.eval x = .slice b ms.length c) (hL : HasLabs w b c ms)
    (h63 : ls.length + ms.length ≤ 1000000) (hbase : base ≤ w.heap.size)
    (h : ∀ (v' : Value) (w' : World), OwnL e w' base v' (ls ++ ms) → w.grownBy w' v.ownBlock → wpList P ops Q rest (a.put o.dst v') w') : wpList P ops Q (o :: rest) a w := by
  refine wpList_append_src w hgd s x t t ho base e i z 2 32 ht hi hz hsize hby hzs v ls.length (labsV ls) hs hown (.slice b ms.length c) ms.length (labsV ms) hx (src_labs ht hL) (by unfold maxLen; omega) (by omega) hbase ?_
  intro v' w' hown' hg
  refine h v' w' ?_ hg
  unfold OwnL
  rw [labsV_app, List.length_append]
  exact hown'

theorem seek_has (a : Option Addr) (c : Nat) (ms : List Lab) (s : ByteArray) (w : World) (h : HasLabs w a c ms) (hq : hasN ms s = true) :
    Calls Tryz.prog 68 #[.slice a ms.length c, .string s, .func (.func 69) #[] #[]] w fun e w' => (∃ n : Nat, e = .returned (.int .i64 (n : Int))) ∧ Below w.heap.size w w' :=
  (seek_any a c ms s w h).mono fun e w' ⟨n, he, hb, hn⟩ => ⟨by
    rcases hn with ⟨j, hj, rfl, _⟩ | ⟨_, hno, _⟩
    · exact ⟨j, he⟩
    · obtain ⟨m, hm, e1⟩ := (hasN_iff ms s).1 hq
      exact absurd e1 (hno m hm), hb⟩
theorem seek_no (a : Option Addr) (c : Nat) (ms : List Lab) (s : ByteArray) (w : World) (h : HasLabs w a c ms) (hq : hasN ms s = false) :
    Calls Tryz.prog 68 #[.slice a ms.length c, .string s, .func (.func 69) #[] #[]] w fun e w' => e = .returned (.int .i64 (-1)) ∧ Below w.heap.size w w' :=
  (seek_any a c ms s w h).mono fun e w' ⟨n, he, hb, hn⟩ => ⟨by
    rcases hn with ⟨j, hj, rfl, e1, _⟩ | ⟨rfl, _, _⟩
    · have : hasN ms s = true := (hasN_iff ms s).2 ⟨_, List.getElem_mem hj, e1⟩
      rw [hq] at this; cases this
    · exact he, hb⟩
theorem with_bad1 (a a' : Option Addr) (c c' : Nat) (ls ms : List Lab) (w : World) (h : HasLabs w a c ls) (hr : rightC ls = false) :
    Calls Tryz.prog 51 #[.slice a ls.length c, .slice a' ms.length c'] w (LabsE [] 1 w) := by
  have hri := fun W (hW : HasLabs W a c ls) => right_any a c ls W hW
  rw [hr] at hri
  have HRI := Lib.hid hri
  have HL := Lib.hid h
  clear hri h hr
  go_enter Tryz.func51, Tryz.ntmps51
  go_wp2_with (go_at_call 39; refine (HRI.out _ HL.out).mono ?_; rintro e w1 ⟨rfl, hb1⟩)
  go_ret2
  exact labsE_nil hb1
theorem with_bad2 (a a' : Option Addr) (c c' : Nat) (ls ms : List Lab) (w : World) (h : HasLabs w a c ls) (h' : HasLabs w a' c' ms) (hr : rightC ls = true) (hr' : rightC ms = false) :
    Calls Tryz.prog 51 #[.slice a ls.length c, .slice a' ms.length c'] w (LabsE [] 1 w) := by
  have hri := fun W (hW : HasLabs W a c ls) => right_any a c ls W hW
  have hri' := fun W (hW : HasLabs W a' c' ms) => right_any a' c' ms W hW
  rw [hr] at hri
  rw [hr'] at hri'
  have HRI := Lib.hid hri
  have HRI' := Lib.hid hri'
  have HL := Lib.hid h
  have HM := Lib.hid h'
  clear hri h hr hri' hr' h'
  go_enter Tryz.func51, Tryz.ntmps51
  go_wp2_with (go_at_call 39; first | ((with_reducible refine (HRI.out _ HL.out).mono ?_); rintro e w1 ⟨rfl, hb1⟩) | ((with_reducible refine (HRI'.out _ (HM.out.call hb1)).mono ?_); rintro e w2 ⟨rfl, hb2⟩))
  go_ret2
  exact labsE_nil (bthen hb1 hb2)

set_option maxHeartbeats 3200000 in
set_option maxRecDepth 100000 in
theorem with_ok (a a' : Option Addr) (c c' : Nat) (ls ms : List Lab) (w : World) (h : HasLabs w a c ls) (h' : HasLabs w a' c' ms) (hr : rightC ls = true) (hr' : rightC ms = true) :
    Calls Tryz.prog 51 #[.slice a ls.length c, .slice a' ms.length c'] w (LabsE (newP (restL ls ms ++ ms)).1 (newP (restL ls ms ++ ms)).2 w) := by
  obtain ⟨i0, hi, hz0, hz1, hz2⟩ := info_partsL Tryz.infoL
  have hri := fun W (hW : HasLabs W a c ls) => right_any a c ls W hW
  have hri' := fun W (hW : HasLabs W a' c' ms) => right_any a' c' ms W hW
  rw [hr] at hri
  rw [hr'] at hri'
  have HRI := Lib.hid hri
  have HRI' := Lib.hid hri'
  have HL := Lib.hid h
  have HM := Lib.hid h'
  have h1 := h.1
  have h2 := h.2.1
  have HS := Lib.hid h.2.2.1
  have HS' := Lib.hid h'.2.2.1
  have h8 := (rightC_okAt hr).1
  have h8' := (rightC_okAt hr').1
  unfold maxLen at h2
  clear hri h hr hri' hr' h'
  go_enter Tryz.func51, Tryz.ntmps51
  go_upto_region 4 with (go_at_call 39; first | ((with_reducible refine (HRI.out _ HL.out).mono ?_); rintro e w1 ⟨rfl, hb1⟩) | ((with_reducible refine (HRI'.out _ (HM.out.call hb1)).mono ?_); rintro e w2 ⟨rfl, hb2⟩))
  have hbA := bthen hb1 hb2
  have hzA := hbA.size
  clear hb1 hb2
  go_wp2_with fail
  go_loopw [6, 19] (fun v i wr => ∃ k : Nat, k ≤ ls.length ∧ i = .int .i64 k ∧ OwnL 60 wr w.heap.size v (restL (ls.take k) ms) ∧ Below w.heap.size w wr ∧ w.heap.size ≤ wr.heap.size) (fun _ i _ => ls.length - (intOf i).toNat)
  case atStart => exact ⟨0, Nat.zero_le _, rfl, OwnL.nil _ _ _, hbA, hzA⟩
  case round =>
    clear hbA hzA
    obtain ⟨k, hk, rfl, hown, hb, hz⟩ := hrel
    by_cases hkl : k < ls.length
    · obtain ⟨b, off, rfl, hbb, hcell⟩ := (HL.out.call hb).some k hkl
      obtain ⟨hc1, hc2⟩ := hcell k hkl
      have hlen : (restL (ls.take k) ms).length ≤ 1000000 := by have := restL_len (ls.take k) ms; rw [List.length_take] at this; omega
      have htk := restL_take ls ms k hkl
      obtain ⟨M, HMM⟩ : ∃ M, Hid (restL (ls.take k) ms = M) := ⟨_, Lib.hid rfl⟩
      rw [HMM.out] at hown hlen htk
      obtain ⟨X, hX⟩ : ∃ X, ls[k] = X := ⟨_, rfl⟩
      rw [hX] at hc1 hc2 htk
      have HTK := Lib.hid htk
      have hownW := hown.alloc (.cells #[.string X.1, .string X.2] 60)
      have hbW := hb.alloc hz (.cells #[.string X.1, .string X.2] 60)
      have hzW := hbW.size
      have hbx := Blk.new wr 60 #[.string X.1, .string X.2]
      have HMW := Lib.hid (HM.out.call hbW)
      clear hX htk hcell hown hb
      go_upto_region 7 with fail
      generalize wr.alloc (.cells #[.string X.1, .string X.2] 60) = W at *
      generalize wr.heap.size = B at *
      have q1 : W.cell? ⟨B, 0, none⟩ = some (.string X.1) := hbx.cell 0
      have q2 : W.cell? ⟨B, 1, none⟩ = some (.string X.2) := hbx.cell 1
      cases hq : hasN ms X.1 with
      | true =>
        have hsk := fun V (hV : HasLabs V a' c' ms) => seek_has a' c' ms X.1 V hV hq
        have HSK := Lib.hid hsk
        have HK : Hid (M = restL (ls.take (k + 1)) ms) := Lib.hid (by rw [HTK.out, if_pos hq, List.append_nil])
        clear hsk hq
        go_wp2_with (go_at_call 68; refine (HSK.out _ HMW.out).mono ?_; rintro e w2 ⟨⟨n, rfl⟩, hb2⟩)
        have hown2 := hownW.call hb2
        have hbW2 := hbW.trans (hb2.mono hzW)
        go_roundw
        case rel => exact ⟨k + 1, by omega, by go_num, by rw [← HK.out]; exact hown2, hbW2, hbW2.size⟩
        case measure => simp [intOf]; omega
      | false =>
        have hsk := fun V (hV : HasLabs V a' c' ms) => seek_no a' c' ms X.1 V hV hq
        have HSK := Lib.hid hsk
        have HK : Hid (M ++ [X] = restL (ls.take (k + 1)) ms) := Lib.hid (by rw [HTK.out, if_neg (by rw [hq]; simp)])
        clear hsk hq
        go_upto_region 8 with (go_at_call 68; refine (HSK.out _ HMW.out).mono ?_; rintro e w2 ⟨rfl, hb2⟩)
        have hown2 := hownW.call hb2
        have hbx2 := hbx.call hb2
        have hbW2 := hbW.trans (hb2.mono hzW)
        have hzW2 := hbW2.size
        clear hownW hbx hbW q1 q2 hzW
        have q1 : w2.cell? ⟨B, 0, none⟩ = some (.string X.1) := hbx2.cell 0
        have q2 : w2.cell? ⟨B, 1, none⟩ = some (.string X.2) := hbx2.cell 1
        go_wp2_with (at_builtin; refine (wpList_pushL w2 rfl _ _ 22 rfl w.heap.size 60 i0 (.agg #[.string ⟨#[]⟩, .string ⟨#[]⟩]) Tryz.underlying22 hi hz0 hz1 hz2 rfl u6 M X rfl hown2 [.string X.1, .string X.2] rfl rfl hlen hzW2 ?_))
        intro v3 w3 hown3 hg3
        have hb3 := hown2.grown hbW2 hzW2 hg3
        have hz3 := Nat.le_trans hzW2 hg3.size
        clear hown2 hbx2 hbW2 hzW2 hg3 q1 q2 hb2
        go_wp2
        go_roundw
        case rel => exact ⟨k + 1, by omega, by go_num, by rw [← HK.out]; exact hown3, hb3, hz3⟩
        case measure => simp [intOf]; omega
    · have htk : ls.take k = ls := List.take_of_length_le (by omega)
      rw [htk] at hown
      have hlen : (restL ls ms).length ≤ 8 := Nat.le_trans (restL_len ls ms) h8
      have hszR : ∀ l ∈ restL ls ms ++ ms, l.1.size ≤ maxLen ∧ l.2.size ≤ maxLen := fun l hl => by
        rcases List.mem_append.1 hl with hl | hl
        · exact HS.out l (List.mem_filter.1 hl).1
        · exact HS'.out l hl
      have HSR := Lib.hid hszR
      obtain ⟨R, HRR⟩ : ∃ R, Hid (restL ls ms = R) := ⟨_, Lib.hid rfl⟩
      rw [HRR.out] at hown hlen
      have hsum : R.length + ms.length ≤ 1000000 := by omega
      have HMW := Lib.hid (HM.out.call hb)
      clear htk hszR hk
      go_wp2_with (at_builtin; refine (wpList_appL wr rfl _ _ 22 rfl w.heap.size 60 i0 (.agg #[.string ⟨#[]⟩, .string ⟨#[]⟩]) Tryz.underlying22 hi hz0 hz1 hz2 rfl u6 R rfl hown a' c' ms rfl HMW.out hsum hz ?_))
      intro v3 w3 hown3 hg3
      have hb3 := hown.grown hb hz hg3
      have hz3 := hb3.size
      obtain ⟨N, HNN⟩ : ∃ N, Hid (R ++ ms = N) := ⟨_, Lib.hid rfl⟩
      have hszN := HSR.out
      rw [HRR.out, HNN.out] at hszN
      rw [HNN.out] at hown3
      obtain ⟨a2, c2, rfl, hh⟩ := hown3.labs hszN
      have HH := Lib.hid hh
      have hnw := new_any a2 c2 N w3 hh
      obtain ⟨⟨P1, P2⟩, hPP⟩ : ∃ P, newP N = P := ⟨_, rfl⟩
      rw [hPP] at hnw
      have HPP : Hid (newP (restL ls ms ++ ms) = (P1, P2)) := Lib.hid (by rw [HRR.out, HNN.out, hPP])
      clear hPP
      have HNW := Lib.hid hnw
      clear hown hown3 hb hz hg3 hszN hh hnw
      go_wp2_with (go_at_call 70; refine HNW.out.mono ?_; rintro e w4 ⟨a4, c4, rfl, hL4, hb4⟩)
      have HL4 := Lib.hid hL4
      clear hL4
      go_ret2
      rw [HPP.out]
      exact ⟨a4, c4, rfl, HL4.out, hb3.trans (hb4.mono hz3)⟩
theorem with_any (a a' : Option Addr) (c c' : Nat) (ls ms : List Lab) (w : World) (h : HasLabs w a c ls) (h' : HasLabs w a' c' ms) :
    Calls Tryz.prog 51 #[.slice a ls.length c, .slice a' ms.length c'] w (LabsE (withP ls ms).1 (withP ls ms).2 w) := by
  cases hr : rightC ls with
  | false =>
    have e : withP ls ms = ([], 1) := by rw [withP, if_neg (by rw [hr]; simp)]
    rw [e]; exact with_bad1 a a' c c' ls ms w h hr
  | true =>
    cases hr' : rightC ms with
    | false =>
      have e : withP ls ms = ([], 1) := by rw [withP, if_pos hr, if_neg (by rw [hr']; simp)]
      rw [e]; exact with_bad2 a a' c c' ls ms w h h' hr hr'
    | true =>
      have e : withP ls ms = newP (restL ls ms ++ ms) := by rw [withP, if_pos hr, if_pos hr']
      rw [e]; exact with_ok a a' c c' ls ms w h h' hr hr'
end Go.Proofs.YtdlhmjdjoadioabGreatDoor
