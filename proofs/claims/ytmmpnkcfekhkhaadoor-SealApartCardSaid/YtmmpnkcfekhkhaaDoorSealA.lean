/- The contracts of package seal's check and Close. -/
import Derived.Test.YtmmpnkcfekhkhaaDoorShaF
import Derived.Test.YtmmpnkcfekhkhaaDoorSeal
import Derived.Test.YtmmpnkcfekhkhaaDoorCrc
namespace Go.Proofs.YtmmpnkcfekhkhaaDoor
open Go.RowKit

theorem HasStrs.new2 (W : World) (x y : ByteArray) (e : Nat) (hx : x.size ≤ maxLen) (hy : y.size ≤ maxLen) : HasStrs (W.alloc (.cells #[.string x, .string y] e)) (some ⟨W.heap.size, 0, none⟩) 2 [x, y] := by
  refine ⟨Nat.le_refl _, by unfold maxLen; omega, ?_, .inr ⟨W.heap.size, 0, rfl, by simp, ?_⟩⟩
  · intro s hs
    simp only [List.mem_cons, List.not_mem_nil, or_false] at hs
    rcases hs with rfl | rfl
    · exact hx
    · exact hy
  · intro i hi
    rw [Nat.zero_add, World.cell?_alloc_mark W #[.string x, .string y] e (0, 0) i]
    match i, hi with
    | 0, _ => rfl
    | 1, _ => rfl
theorem le4V {x : Nat} (h : x < 4294967296) : bytesV (le4 x) = [.int .u8 ((x : Int) % 256), .int .u8 ((x : Int) / 256 % 256), .int .u8 ((x : Int) / 65536 % 256), .int .u8 ((x : Int) / 16777216)] := by
  simp [bytesV, le4]; omega

set_option maxHeartbeats 800000 in
set_option maxRecDepth 100000 in
theorem check_any (s : ByteArray) (w : World) (hs : s.size ≤ maxLen) :
    Calls Tryd.prog 37 #[.string s] w fun e w' => e = .returned (.string (checkS s)) ∧ Below w.heap.size w w' := by
  have hlt := crcN_lt s.data.toList
  have hV := le4V hlt
  have hc : checkS s = ⟨(le4 (crcN s.data.toList)).toArray⟩ := rfl
  have HC := Lib.hid hc
  have hcrc := fun W => crc_any s W hs
  clear hc
  generalize crcN s.data.toList = x at *
  have hcv : ∀ W : World, _ := fun W => OwnsM.str (P := Tryd.prog) (src := 41) (dst := 9) (l := le4 x) (w := W.alloc (.cells (bytesV (le4 x)).toArray 5)) (base := W.heap.size) (v := .slice (some ⟨W.heap.size, 0, none⟩) 4 4)
    (by have := OwnsM.new W (bytesV (le4 x)) 5 (by rw [bytesV_len]; unfold maxLen; simp [le4]); rw [bytesV_len] at this; exact this) Tryd.underlying41 Tryd.underlying5 Tryd.underlying9
  rw [hV] at hcv
  have HV := Lib.hid hV
  have HCR := Lib.hid hcrc
  clear hcrc hV
  go_enter Tryd.func37, Tryd.ntmps37
  go_wp2_with ((with_reducible refine (HCR.out _).mono ?_); rintro e w2 ⟨rfl, hb2⟩)
  go_ret
  rw [HC.out]
  exact ⟨rfl, hb2.alloc hb2.size _⟩

set_option maxHeartbeats 1600000 in
set_option maxRecDepth 100000 in
theorem close_ok (a : Option Addr) (c : Nat) (ss : List ByteArray) (w : World) (h : HasStrs w a c ss) (hm : mayC ss = true) (hT : Tabs w) :
    Calls Tryd.prog 19 #[.slice a ss.length c] w fun e w' => e = .returned (.tuple #[.string ⟨(closeL ss).toArray⟩, .int .i64 0]) ∧ Below w.heap.size w w' := by
  obtain ⟨i0, hi, hz0, hz1, hz2⟩ := info_parts Tryd.infoS
  obtain ⟨h1, h2, h3, h4⟩ := h
  obtain ⟨hl, hs⟩ := mayC_true hm
  have hfr := mayB_frames hm
  have hbl := bodyL_len hm
  unfold maxLen at h2
  have HT := Lib.hid hT
  have HS := Lib.hid hs
  have HCELL : Hid (∀ i (hi : i < ss.length), ∃ b off, a = some ⟨b, off, none⟩ ∧ b < w.heap.size ∧ w.cell? ⟨b, off + i, none⟩ = some (.string ss[i])) := Lib.hid (by
    intro i hi
    rcases h4 with rfl | ⟨b, off, ha, hb, hc⟩
    · exact absurd hi (by simp)
    · exact ⟨b, off, ha, hb, hc i hi⟩)
  have HFR := Lib.hid hfr
  clear hs h4 h3 hfr
  go_enter Tryd.func19, Tryd.ntmps19
  go_wp2_with fail
  go_loopw [4, 17] (fun v i wr => ∃ k : Nat, k ≤ ss.length ∧ i = .int .i64 k ∧ wr.ownsRow w.heap.size 9 1 v k (strsV ((ss.take k).map frameS)) ∧ Below w.heap.size w wr) (fun _ i _ => ss.length - (intOf i).toNat)
  case atStart => exact ⟨0, Nat.zero_le _, rfl, World.ownsRow_nil _ _ _ _, Below.refl _ _⟩
  case round =>
    obtain ⟨k, hk, rfl, hown, hB⟩ := hrel
    by_cases hkl : k < ss.length
    · obtain ⟨b, off, rfl, hb, hcell⟩ := HCELL.out k hkl
      have hc := (hB.cell (p := ⟨b, off + k, none⟩) hb).trans hcell
      have hsz := HS.out ss[k] (List.getElem_mem _)
      have hp : mayB [ss[k], checkS ss[k]] = true := mayB_pair (by omega)
      have htk : (ss.take (k + 1)).map frameS = (ss.take k).map frameS ++ [frameS ss[k]] := by
        rw [List.take_succ_eq_append_getElem hkl, List.map_append]; rfl
      have hbd := fun a c W (hw : HasStrs W a c [ss[k], checkS ss[k]]) => bind_ok a c [ss[k], checkS ss[k]] W hw hp
      have hbd : ∀ a c W, HasStrs W a c [ss[k], checkS ss[k]] → Calls Tryd.prog 36 #[.slice a 2 c] W fun e w' => e = .returned (.tuple #[.string (frameS ss[k]), .int .i64 0]) ∧ Below W.heap.size W w' := hbd
      have hck := fun W => check_any ss[k] W (by unfold maxLen; omega)
      have hx1 : ss[k].size ≤ maxLen := by unfold maxLen; omega
      have hx2 : (checkS ss[k]).size ≤ maxLen := by rw [checkS_size]; unfold maxLen; omega
      have HTK := Lib.hid htk
      have HBD := Lib.hid hbd
      have HCK := Lib.hid hck
      have HH := fun W => HasStrs.new2 W ss[k] (checkS ss[k]) 9 hx1 hx2
      have HH2 := Lib.hid HH
      clear htk hbd hck hp hcell hx1 hx2 HH
      generalize frameS ss[k] = F at *
      generalize checkS ss[k] = C at *
      go_wp2_with (first
        | (go_at_call 37; refine (HCK.out _).mono ?_; rintro e w2 ⟨rfl, hb2⟩)
        | (go_at_call 36; refine (HBD.out _ _ _ (HH2.out _)).mono ?_; rintro e w3 ⟨rfl, hb3⟩; have hb4 : Below wr.heap.size wr w3 := ((hb2.alloc hb2.size _).trans (hb3.mono (by simp; have := hb2.size; omega))); have hown3 := owns_call hown hb4; have hB3 := bthen hB hb4; have hs3 := hB3.size)
        | (at_builtin; refine wpList_push _ rfl _ _ 29 rfl w.heap.size 9 i0 (.string ⟨#[]⟩) 16 Tryd.underlying29 hi hz0 hz1 hz2 rfl _ _ _ rfl hown3 _ rfl rfl ?c1 ?c2 ?c3 ?_))
      case c1 => unfold maxLen; omega
      case c2 => omega
      case c3 => exact hs3
      intro g c2 w5 hown5 hg5
      go_wp2
      go_roundw
      case rel => exact ⟨k + 1, by omega, by go_num, by rw [HTK.out, ← strsV_push, List.map_take]; exact hown5, hB3.grown hg5 hs3 (fun k hk => (hown3.lt k hk).1)⟩
      case measure => simp [intOf]; omega
    · have hall : (ss.take k).map frameS = ss.map frameS := by rw [List.take_of_length_le (by omega)]
      have hkl2 : k = (ss.map frameS).length := by simp; omega
      rw [hall, hkl2] at hown
      obtain ⟨a', c', rfl, hh⟩ := strs_of_own (w := wr) (base := w.heap.size) (e := 9) hown (fun s hs => by
        have := (mayB_true HFR.out).2 s hs
        unfold maxLen; omega)
      obtain ⟨B, hBd⟩ : ∃ B : ByteArray, B = ⟨(bindL (ss.map frameS)).toArray⟩ := ⟨_, rfl⟩
      have hbd := bind_ok a' c' (ss.map frameS) wr hh HFR.out
      rw [← hBd] at hbd
      have hbl2 : B.data.toList = bindL (ss.map frameS) := by rw [hBd]
      have hY : (⟨#[115, 101, 97, 108]⟩ ++ B : ByteArray).data.toList = bodyL ss := by rw [data_app, hbl2]; rfl
      have hYs : (⟨#[115, 101, 97, 108]⟩ ++ B : ByteArray).size ≤ 300000 := by rw [size_list, hY]; exact hbl
      have hBs : B.size ≤ 300000 := by rw [ByteArray.size_append] at hYs; omega
      obtain ⟨S, hS⟩ : ∃ S : ByteArray, S = ⟨(shaL (bodyL ss)).toArray⟩ := ⟨_, rfl⟩
      have hSl : S.data.toList = shaL (bodyL ss) := by rw [hS]
      have hSs : S.size ≤ 32 := by rw [size_list, hSl, shaL_len]; omega
      have hsm := fun W hW => sum_any (⟨#[115, 101, 97, 108]⟩ ++ B) W (by omega) hW
      rw [hY, ← hS] at hsm
      have hfin : (⟨#[115, 101, 97, 108]⟩ ++ B) ++ S = (⟨(closeL ss).toArray⟩ : ByteArray) := ba_of_list (by rw [data_app, hY, hSl]; rfl)
      have HF := Lib.hid hfin
      have HSM := Lib.hid hsm
      have HBD := Lib.hid hbd
      have hw2 := HT.out.1
      have hTr := Lib.hid (HT.out.call hB hw2 hB.size)
      have hln : ((ss.map frameS).length : Int) = (ss.length : Int) := by simp
      clear hall hown hbd hbl2 hY hS hSl hsm hfin hBd hh HS HCELL hm
      generalize (ss.map frameS).length = n at *
      go_wp2_with (first
        | (go_at_call 36; refine HBD.out.mono ?_; rintro e w2 ⟨rfl, hb2⟩)
        | (go_at_call 10; refine (HSM.out _ (Tabs.after hTr.out hb2)).mono ?_; rintro e w3 ⟨rfl, hb3⟩))
      go_ret2
      rw [← HF.out]
      exact ⟨rfl, bthen (bthen hB hb2) hb3⟩
set_option maxHeartbeats 1600000 in
set_option maxRecDepth 100000 in
theorem close_bad (a : Option Addr) (c : Nat) (ss : List ByteArray) (w : World) (h : HasStrs w a c ss) (hm : mayC ss = false) :
    Calls Tryd.prog 19 #[.slice a ss.length c] w fun e w' => e = .returned (.tuple #[.string ⟨#[]⟩, .int .i64 2]) ∧ Below w.heap.size w w' := by
  obtain ⟨i0, hi, hz0, hz1, hz2⟩ := info_parts Tryd.infoS
  obtain ⟨h1, h2, h3, h4⟩ := h
  unfold maxLen at h2
  by_cases hl : ss.length ≤ 64
  case neg =>
    have hl' : 64 < ss.length := by omega
    clear h3 h4 hm hl
    go_enter Tryd.func19, Tryd.ntmps19
    go_wp2
    go_ret2
    exact ⟨rfl, Below.refl _ _⟩
  obtain ⟨j, hj, hbad, hs⟩ : ∃ j, ∃ hj : j < ss.length, ¬ ss[j].size ≤ 4096 ∧ ∀ k (hk : k < j), (ss[k]'(by omega)).size ≤ 4096 := by
    refine first_bad (fun s => s.size ≤ 4096) ss fun hall => ?_
    rw [mayC_mk hl hall] at hm
    cases hm
  have h3j := h3 ss[j] (List.getElem_mem _)
  unfold maxLen at h3j
  have HS := Lib.hid hs
  have HCELL : Hid (∀ i (hi : i < ss.length), ∃ b off, a = some ⟨b, off, none⟩ ∧ b < w.heap.size ∧ w.cell? ⟨b, off + i, none⟩ = some (.string ss[i])) := Lib.hid (by
    intro i hi
    rcases h4 with rfl | ⟨b, off, ha, hb, hc⟩
    · exact absurd hi (by simp)
    · exact ⟨b, off, ha, hb, hc i hi⟩)
  clear hs h4 h3 hm
  go_enter Tryd.func19, Tryd.ntmps19
  go_wp2_with fail
  go_loopw [4, 17] (fun v i wr => ∃ k : Nat, k ≤ j ∧ i = .int .i64 k ∧ wr.ownsRow w.heap.size 9 1 v k (strsV ((ss.take k).map frameS)) ∧ Below w.heap.size w wr) (fun _ i _ => ss.length - (intOf i).toNat)
  case atStart => exact ⟨0, Nat.zero_le _, rfl, World.ownsRow_nil _ _ _ _, Below.refl _ _⟩
  case round =>
    obtain ⟨k, hk, rfl, hown, hB⟩ := hrel
    by_cases hkl : k < j
    · obtain ⟨b, off, rfl, hb, hcell⟩ := HCELL.out k (by omega)
      have hc := (hB.cell (p := ⟨b, off + k, none⟩) hb).trans hcell
      have hsz := HS.out k hkl
      have hp : mayB [ss[k], checkS ss[k]] = true := mayB_pair (by omega)
      have htk : (ss.take (k + 1)).map frameS = (ss.take k).map frameS ++ [frameS ss[k]] := by
        rw [List.take_succ_eq_append_getElem (by omega), List.map_append]; rfl
      have hbd := fun a c W (hw : HasStrs W a c [ss[k], checkS ss[k]]) => bind_ok a c [ss[k], checkS ss[k]] W hw hp
      have hbd : ∀ a c W, HasStrs W a c [ss[k], checkS ss[k]] → Calls Tryd.prog 36 #[.slice a 2 c] W fun e w' => e = .returned (.tuple #[.string (frameS ss[k]), .int .i64 0]) ∧ Below W.heap.size W w' := hbd
      have hck := fun W => check_any ss[k] W (by unfold maxLen; omega)
      have hx1 : ss[k].size ≤ maxLen := by unfold maxLen; omega
      have hx2 : (checkS ss[k]).size ≤ maxLen := by rw [checkS_size]; unfold maxLen; omega
      have HTK := Lib.hid htk
      have HBD := Lib.hid hbd
      have HCK := Lib.hid hck
      have HH := fun W => HasStrs.new2 W ss[k] (checkS ss[k]) 9 hx1 hx2
      have HH2 := Lib.hid HH
      clear htk hbd hck hp hcell hx1 hx2 HH
      generalize frameS ss[k] = F at *
      generalize checkS ss[k] = C at *
      go_wp2_with (first
        | (go_at_call 37; refine (HCK.out _).mono ?_; rintro e w2 ⟨rfl, hb2⟩)
        | (go_at_call 36; refine (HBD.out _ _ _ (HH2.out _)).mono ?_; rintro e w3 ⟨rfl, hb3⟩; have hb4 : Below wr.heap.size wr w3 := ((hb2.alloc hb2.size _).trans (hb3.mono (by simp; have := hb2.size; omega))); have hown3 := owns_call hown hb4; have hB3 := bthen hB hb4; have hs3 := hB3.size)
        | (at_builtin; refine wpList_push _ rfl _ _ 29 rfl w.heap.size 9 i0 (.string ⟨#[]⟩) 16 Tryd.underlying29 hi hz0 hz1 hz2 rfl _ _ _ rfl hown3 _ rfl rfl ?c1 ?c2 ?c3 ?_))
      case c1 => unfold maxLen; omega
      case c2 => omega
      case c3 => exact hs3
      intro g c2 w5 hown5 hg5
      go_wp2
      go_roundw
      case rel => exact ⟨k + 1, by omega, by go_num, by rw [HTK.out, ← strsV_push, List.map_take]; exact hown5, hB3.grown hg5 hs3 (fun k hk => (hown3.lt k hk).1)⟩
      case measure => simp [intOf]; omega
    · obtain rfl : k = j := by omega
      obtain ⟨b, off, rfl, hb, hcell⟩ := HCELL.out k hj
      have hc := (hB.cell (p := ⟨b, off + k, none⟩) hb).trans hcell
      clear hown hcell hkl
      go_wp2
      go_ret2
      exact ⟨rfl, hB⟩

theorem close_any (a : Option Addr) (c : Nat) (ss : List ByteArray) (w : World) (h : HasStrs w a c ss) (hT : Tabs w) :
    Calls Tryd.prog 19 #[.slice a ss.length c] w fun e w' => e = .returned (.tuple #[.string (closeS ss), .int .i64 (closeE ss)]) ∧ Below w.heap.size w w' := by
  cases hm : mayC ss with
  | true =>
    have e1 : closeS ss = ⟨(closeL ss).toArray⟩ := by rw [closeS, if_pos hm]
    have e2 : closeE ss = 0 := by rw [closeE, if_pos hm]
    rw [e1, e2]
    exact close_ok a c ss w h hm hT
  | false =>
    have hm' : ¬ mayC ss = true := by rw [hm]; simp
    have e1 : closeS ss = ⟨#[]⟩ := by rw [closeS, if_neg hm']
    have e2 : closeE ss = 2 := by rw [closeE, if_neg hm']
    rw [e1, e2]
    exact close_bad a c ss w h hm
end Go.Proofs.YtmmpnkcfekhkhaaDoor
