/- The contract of the document's own With of layer 3. -/
import Derived.Test.YtjigdmmlgddgpabLabG
namespace Go.Proofs.Ytjigdmmlgddgpab
open Go.RowKit

set_option maxHeartbeats 3200000 in
set_option maxRecDepth 100000 in
theorem rWith_few (a a' : Option Addr) (c c' : Nat) (ls ms : List Lab) (w : World) (h : HasLabs w a c ls) (h' : HasLabs w a' c' ms) (h8 : ls.length ≤ 100) (hr' : rightC ms = true) :
    Calls Try.prog 17 #[.slice a ls.length c, .slice a' ms.length c'] w (SortedPost (ms ++ restL ls ms) w) := by
  obtain ⟨i0, hi, hz0, hz1, hz2⟩ := info_partsL Try.infoL
  have h8' := (rightC_okAt hr').1
  obtain ⟨_, b2, b3⟩ := (rightC_iff ms).1 hr'
  have HG := Lib.hid (fun s => getL_has b3.dis b2 s)
  have HL := Lib.hid h
  have HM := Lib.hid h'
  have h2 := h.2.1
  have h1 := h.1
  have HS := Lib.hid h.2.2.1
  have HS' := Lib.hid h'.2.2.1
  have hE : OwnL 37 (w.alloc (.cells #[] 37)) w.heap.size (.slice (some ⟨w.heap.size, 0, none⟩) 0 0) [] := OwnL.empty _ w
  have hbE : Below w.heap.size w (w.alloc (.cells #[] 37)) := (Below.refl _ _).alloc (Nat.le_refl _) _
  have hzE := hbE.size
  have hME := h'.call hbE
  unfold maxLen at h2
  clear h h' hr' b2 b3
  go_enter Try.func17, Try.ntmps17
  go_wp2_with (at_builtin; refine (wpList_appL (w.alloc (.cells #[] 37)) rfl _ _ 22 rfl w.heap.size 37 i0 (.agg #[.string ⟨#[]⟩, .string ⟨#[]⟩]) Try.underlying22 hi hz0 hz1 hz2 rfl (.slice (some ⟨w.heap.size, 0, none⟩) 0 0) [] rfl hE a' c' ms rfl hME (by simp; omega) hzE ?_))
  intro v1 w1 hown1 hg1
  try rw [List.nil_append] at hown1
  have hb1 := hE.grown hbE hzE hg1
  have hz1' := hb1.size
  clear hE hbE hzE hME hg1
  go_wp2_with fail
  go_loopw [5, 14] (fun v i wr => ∃ k : Nat, k ≤ ls.length ∧ i = .int .i64 k ∧ OwnL 37 wr w.heap.size v (ms ++ restL (ls.take k) ms) ∧ Below w.heap.size w wr ∧ w.heap.size ≤ wr.heap.size) (fun _ i _ => ls.length - (intOf i).toNat)
  case atStart => exact ⟨0, Nat.zero_le _, rfl, by simpa [restL] using hown1, hb1, hz1'⟩
  case round =>
    clear hown1 hb1 hz1'
    obtain ⟨k, hk, rfl, hown, hb, hz⟩ := hrel
    by_cases hkl : k < ls.length
    · obtain ⟨b, off, rfl, hbb, hcell⟩ := (HL.out.call hb).some k hkl
      obtain ⟨hc1, hc2⟩ := hcell k hkl
      have hlen : (ms ++ restL (ls.take k) ms).length ≤ 1000000 := by
        have := restL_len (ls.take k) ms
        rw [List.length_take] at this
        rw [List.length_append]; omega
      have htk : ms ++ restL (ls.take (k + 1)) ms = ms ++ restL (ls.take k) ms ++ (if hasN ms ls[k].1 = true then [] else [ls[k]]) := by rw [restL_take ls ms k hkl, List.append_assoc]
      obtain ⟨M, HMM⟩ : ∃ M, Hid (ms ++ restL (ls.take k) ms = M) := ⟨_, Lib.hid rfl⟩
      rw [HMM.out] at hown hlen htk
      obtain ⟨X, hX⟩ : ∃ X, ls[k] = X := ⟨_, rfl⟩
      rw [hX] at hc1 hc2 htk
      have HTK := Lib.hid htk
      have hownW := hown.alloc (.cells #[.string X.1, .string X.2] 37)
      have hbW := hb.alloc hz (.cells #[.string X.1, .string X.2] 37)
      have hzW := hbW.size
      have hbx := Blk.new wr 37 #[.string X.1, .string X.2]
      have HMW := Lib.hid (HM.out.call hbW)
      have hgt := fun V (hV : HasLabs V a' c' ms) => rGet_any a' c' ms X.1 V hV
      have hem := str_empty (getL ms X.1)
      have HGT := Lib.hid hgt
      clear hX htk hcell hown hb hgt
      go_upto_region 6 with fail
      generalize wr.alloc (.cells #[.string X.1, .string X.2] 37) = W at *
      generalize wr.heap.size = B at *
      have q1 : W.cell? ⟨B, 0, none⟩ = some (.string X.1) := hbx.cell 0
      have q2 : W.cell? ⟨B, 1, none⟩ = some (.string X.2) := hbx.cell 1
      cases hq : hasN ms X.1 with
      | true =>
        have hne : ¬ getL ms X.1 = ⟨#[]⟩ := fun e => by rw [(HG.out X.1).1 e] at hq; cases hq
        rw [decide_eq_false hne] at hem
        have HK : Hid (M = ms ++ restL (ls.take (k + 1)) ms) := Lib.hid (by rw [HTK.out, if_pos hq, List.append_nil])
        obtain ⟨G, hG⟩ : ∃ G, getL ms X.1 = G := ⟨_, rfl⟩
        rw [hG] at HGT hem
        clear hq hne hG
        go_wp2_with (go_at_call 30; (with_reducible refine (HGT.out _ HMW.out).mono ?_); rintro e w2 ⟨rfl, hb2⟩)
        have hown2 := hownW.call hb2
        have hbW2 := hbW.trans (hb2.mono hzW)
        go_roundw
        case rel => exact ⟨k + 1, by omega, by go_num, by rw [← HK.out]; exact hown2, hbW2, hbW2.size⟩
        case measure => simp [intOf]; omega
      | false =>
        have he := (HG.out X.1).2 hq
        rw [decide_eq_true he] at hem
        have HK : Hid (M ++ [X] = ms ++ restL (ls.take (k + 1)) ms) := Lib.hid (by rw [HTK.out, if_neg (by rw [hq]; simp)])
        obtain ⟨G, hG⟩ : ∃ G, getL ms X.1 = G := ⟨_, rfl⟩
        rw [hG] at HGT hem
        clear hq he hG
        go_upto_region 7 with (go_at_call 30; (with_reducible refine (HGT.out _ HMW.out).mono ?_); rintro e w2 ⟨rfl, hb2⟩)
        have hown2 := hownW.call hb2
        have hbx2 := hbx.call hb2
        have hbW2 := hbW.trans (hb2.mono hzW)
        have hzW2 := hbW2.size
        clear hownW hbx hbW q1 q2 hzW
        have q1 : w2.cell? ⟨B, 0, none⟩ = some (.string X.1) := hbx2.cell 0
        have q2 : w2.cell? ⟨B, 1, none⟩ = some (.string X.2) := hbx2.cell 1
        go_wp2_with (at_builtin; refine (wpList_pushL w2 rfl _ _ 22 rfl w.heap.size 37 i0 (.agg #[.string ⟨#[]⟩, .string ⟨#[]⟩]) Try.underlying22 hi hz0 hz1 hz2 rfl u5 M X rfl hown2 [.string X.1, .string X.2] rfl rfl hlen hzW2 ?_))
        intro v3 w3 hown3 hg3
        have hb3 := hown2.grown hbW2 hzW2 hg3
        have hz3 := Nat.le_trans hzW2 hg3.size
        clear hown2 hbx2 hbW2 hzW2 hg3 q1 q2 hb2
        go_wp2
        go_roundw
        case rel => exact ⟨k + 1, by omega, by go_num, by rw [← HK.out]; exact hown3, hb3, hz3⟩
        case measure => simp [intOf]; omega
    · have htk : ls.take k = ls := List.take_of_length_le (by omega)
      rw [htk] at hown
      have hl1 : (ms ++ restL ls ms).length ≤ 1000 := by have := restL_len ls ms; rw [List.length_append]; omega
      have hszR : ∀ l ∈ ms ++ restL ls ms, l.1.size ≤ maxLen ∧ l.2.size ≤ maxLen := fun l hl => by
        rcases List.mem_append.1 hl with hl | hl
        · exact HS'.out l hl
        · exact HS.out l (List.mem_filter.1 hl).1
      obtain ⟨N0, HNN⟩ : ∃ N0, Hid (ms ++ restL ls ms = N0) := ⟨_, Lib.hid rfl⟩
      rw [HNN.out] at hown hl1 hszR
      obtain ⟨a2, c2, rfl, hh⟩ := hown.labs hszR
      have hso := rSorted_any a2 c2 N0 wr hh hl1
      have HSO := Lib.hid hso
      clear htk hown hh hso hszR
      go_wp2_with (go_at_call 31; (with_reducible refine HSO.out.mono ?_); rintro e w4 ⟨out, a4, c4, rfl, hL4, hp, hws, hb4⟩)
      have HL4 := Lib.hid hL4
      have HP := Lib.hid hp
      have HW := Lib.hid hws
      clear hL4 hp hws
      go_ret
      exact ⟨out, a4, c4, rfl, HL4.out, by rw [HNN.out]; exact HP.out, HW.out, hb.trans (hb4.mono hz)⟩
theorem rWith_any (a a' : Option Addr) (c c' : Nat) (ls ms : List Lab) (w : World) (h : HasLabs w a c ls) (h' : HasLabs w a' c' ms) (hr : rightC ls = true) (hr' : rightC ms = true) :
    Calls Try.prog 17 #[.slice a ls.length c, .slice a' ms.length c'] w (SortedPost (ms ++ restL ls ms) w) := rWith_few a a' c c' ls ms w h h' (by have := (rightC_okAt hr).1; omega) hr'
end Go.Proofs.Ytjigdmmlgddgpab
