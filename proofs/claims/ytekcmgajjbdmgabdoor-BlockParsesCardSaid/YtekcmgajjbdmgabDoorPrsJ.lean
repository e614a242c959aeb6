/- The contract of block.Parse. -/
import Derived.Test.YtekcmgajjbdmgabDoorPrsH
import Derived.Test.YtekcmgajjbdmgabDoorPrsI
namespace Go.Proofs.YtekcmgajjbdmgabDoor
open Go.RowKit

/-- where piece k of a text leads -/
def pieceS (s : Bs) (k : Nat) (st : PSt) : Option PSt := match (linesB s).1[k]? with | some l => stepL st l | none => restS st (linesB s).2

theorem read_piece (rb B : Nat) (s : ByteArray) (k : Nat) (st : PSt) (w : World) (h : RdS w rb B (lookV st.2) st.1) (hm : MaxC w) (hg : Good st) (hs : s.size ≤ 8192) (hk : k < (piecesB 1 s).length) :
    Calls Tryd.prog 26 #[.pointer (some ⟨rb, 0, none⟩), .string (piecesB 1 s)[k]] w (ReadP rb B (pieceS s.data.toList k st) w) := by
  have hsz := pieces_size 1 (Nat.le_refl _) s _ (List.getElem_mem hk)
  obtain ⟨n1, n2⟩ := linesB_none s.data.toList
  rw [pieces_len] at hk
  by_cases hkl : k < (linesB s.data.toList).1.length
  · have e : (piecesB 1 s)[k]'(by rw [pieces_len]; exact hk) = bytesA ((linesB s.data.toList).1[k] ++ [10]) := by
      unfold piecesB
      rw [List.getElem_append_left (by simpa using hkl)]
      simp
    have e2 : pieceS s.data.toList k st = stepL st (linesB s.data.toList).1[k] := by unfold pieceS; rw [List.getElem?_eq_getElem hkl]
    rw [e] at hsz ⊢
    rw [e2]
    have hn := n1 _ (List.getElem_mem hkl)
    generalize (linesB s.data.toList).1[k] = l at *
    have hl : (bytesA (l ++ [10])).data.toList = l ++ [10] := rfl
    unfold stepL
    cases hb : blankL l with
    | true =>
      rw [if_pos rfl]
      exact read_left rb B st _ w h (by omega) (by rw [hl, leftD_line, hb])
    | false =>
      rw [if_neg (by simp)]
      exact read_said rb B st.2 st.1 _ _ w h (by omega) (by rw [hl, leftD_line, hb]) (fun W hW => look_line rb B st _ l W (h.call hW) (hm.call hW) hg (by omega) hl hn)
  · have hkm : k = (linesB s.data.toList).1.length := by omega
    have e : (piecesB 1 s)[k]'(by rw [pieces_len]; exact hk) = bytesA (linesB s.data.toList).2 := by
      unfold piecesB
      rw [List.getElem_append_right (by simp; omega)]
      simp
    have e2 : pieceS s.data.toList k st = restS st (linesB s.data.toList).2 := by unfold pieceS; rw [List.getElem?_eq_none (by omega)]
    rw [e] at hsz ⊢
    rw [e2]
    exact read_said rb B st.2 st.1 _ _ w h (by omega) (leftD_rest _ n2) (fun W hW => look_rest rb B st _ W (h.call hW) (hm.call hW) hg (by omega) n2)
theorem good_piece {s : Bs} {k : Nat} {st st' : PSt} (h : Good st) (hs : pieceS s k st = some st') : Good st' := by
  unfold pieceS at hs
  split at hs
  · exact good_step h hs
  · unfold restS at hs
    split at hs
    · cases hs
    · obtain rfl := Option.some.inj hs; exact h
/-- what is known of a reader that has read k pieces -/
def RunInv (s : Bs) (k : Nat) (st : PSt) : Prop := runN ([], false) 1 (linesB s).1 = runN st (k + 1) ((linesB s).1.drop k) ∧ ((linesB s).1.length < k → (linesB s).2 = [] ∧ st.2 = false)
theorem run_start (s : Bs) : RunInv s 0 ([], false) := ⟨rfl, fun h => absurd h (by omega)⟩
theorem run_some {s : Bs} {k : Nat} {st st' : PSt} (h : RunInv s k st) (hk : k ≤ (linesB s).1.length) (hs : pieceS s k st = some st') : RunInv s (k + 1) st' := by
  obtain ⟨h1, _⟩ := h
  unfold pieceS at hs
  by_cases hkl : k < (linesB s).1.length
  · rw [List.getElem?_eq_getElem hkl] at hs
    refine ⟨?_, fun h => absurd h (by omega)⟩
    rw [h1, List.drop_eq_getElem_cons hkl]
    simp only [runN]
    simp only at hs
    rw [hs]
  · rw [List.getElem?_eq_none (by omega)] at hs
    simp only [restS] at hs
    split at hs
    · cases hs
    · rename_i hh
      obtain rfl := Option.some.inj hs
      simp only [not_or, Bool.not_eq_true] at hh
      refine ⟨?_, fun _ => ⟨by have := hh.1; simpa using this, hh.2⟩⟩
      rw [h1, List.drop_eq_nil_of_le (by omega), List.drop_eq_nil_of_le (by omega)]
      rfl
theorem run_none {s : Bs} {k : Nat} {st : PSt} (hs8 : s.length ≤ 8192) (h : RunInv s k st) (hk : k ≤ (linesB s).1.length) (hs : pieceS s k st = none) : parseB s = ([], 250, (k : Int) + 1) := by
  obtain ⟨h1, _⟩ := h
  unfold parseB
  rw [if_neg (by omega), h1]
  unfold pieceS at hs
  by_cases hkl : k < (linesB s).1.length
  · rw [List.getElem?_eq_getElem hkl] at hs
    rw [List.drop_eq_getElem_cons hkl]
    simp only [runN]
    simp only at hs
    rw [hs]
    simp [endP]
  · rw [List.getElem?_eq_none (by omega)] at hs
    rw [List.drop_eq_nil_of_le (by omega)]
    simp only [restS] at hs
    split at hs
    · rename_i hh
      simp only [runN, endP]
      rw [if_pos hh]
      have : k = (linesB s).1.length := by omega
      rw [this]
    · cases hs
theorem run_end {s : Bs} {k : Nat} {st : PSt} (hs8 : s.length ≤ 8192) (h : RunInv s k st) (hk : (linesB s).1.length < k) : parseB s = (st.1, 0, 0) := by
  obtain ⟨h1, h2⟩ := h
  obtain ⟨e1, e2⟩ := h2 hk
  unfold parseB
  rw [if_neg (by omega), h1, List.drop_eq_nil_of_le (by omega)]
  simp only [runN, endP]
  rw [if_neg (by rw [e1, e2]; simp)]

def ParseP (r : List Dfn × Int × Int) (w : World) (e : Ending) (w' : World) : Prop :=
  ∃ a c, e = .returned (.tuple #[.slice a r.1.length c, .int .i64 r.2.1, .int .i64 r.2.2]) ∧ HasDefs w' a c r.1 ∧ Below w.heap.size w w'

set_option maxHeartbeats 3200000 in
set_option maxRecDepth 100000 in
theorem parse_any (s : ByteArray) (w : World) (hm : MaxC w) (hs : s.size ≤ maxLen) : Calls Tryd.prog 9 #[.string s] w (ParseP (parseB s.data.toList) w) := by
  unfold maxLen at hs
  have hl := lenB s
  by_cases h8 : s.size ≤ 8192
  case neg =>
    have hp : parseB s.data.toList = ([], 2, 0) := by unfold parseB; rw [if_pos (by omega)]
    rw [hp]
    clear hp hl hm
    go_enter Tryd.func9, Tryd.ntmps9
    go_wp2
    go_ret3
    exact ⟨none, 0, rfl, HasDefs.nil _ _ _ (by unfold maxLen; omega), Below.refl _ _⟩
  have hb1 := (Below.refl w.heap.size w).alloc (Nat.le_refl _) (.cells #[.slice none 0 0, outV] 53)
  have hk1 := Blk.new w 53 #[.slice none 0 0, outV]
  have hsp := splitAfter_any s _ (hm.call hb1) (by omega)
  have hz1 : (w.alloc (.cells #[.slice none 0 0, outV] 53)).heap.size = w.heap.size + 1 := by simp
  have hpl : (piecesB 1 s).length = (linesB s.data.toList).1.length + 1 := pieces_len 1 s
  have hll := (lines_len s.data.toList).2.2
  have hcl : s.data.toList.count 10 ≤ s.data.toList.length := List.count_le_length
  have hss := hasStrs_row (w.alloc (.cells #[.slice none 0 0, outV] 53)) (piecesB 1 s) 9 (fun x hx => by have := pieces_size 1 (Nat.le_refl _) s x hx; unfold maxLen; omega) (by unfold maxLen; omega)
  have hb2 := hb1.alloc hb1.size (.cells ((piecesB 1 s).map Value.string).toArray 9)
  have hk2 := hk1.alloc (.cells ((piecesB 1 s).map Value.string).toArray 9)
  rw [hz1] at hss hsp
  have hw0 := hm.lt2
  have hm2 := hm.call hb2
  have HSP := Lib.hid hsp
  generalize hW2 : (w.alloc (.cells #[.slice none 0 0, outV] 53)).alloc (.cells ((piecesB 1 s).map Value.string).toArray 9) = W2 at *
  have hzW2 : W2.heap.size = w.heap.size + 2 := by rw [← hW2]; simp
  have hrd := RdS.start (B := W2.heap.size) hk2 (by omega) (Nat.le_refl _)
  have HSS := Lib.hid hss
  have HB2 := Lib.hid hb2
  have HM2 := Lib.hid hm2
  have HRD := Lib.hid hrd
  have HZ := Lib.hid hzW2
  have HPL := Lib.hid hpl
  obtain ⟨m, hml⟩ : ∃ m, (linesB s.data.toList).1.length = m := ⟨_, rfl⟩
  have HML := Lib.hid hml
  have hp0 : (piecesB 1 s).length ≤ 8193 := by omega
  obtain ⟨P, hP⟩ : ∃ P, piecesB 1 s = P := ⟨_, rfl⟩
  have HP := Lib.hid hP
  rw [hP] at HSP HSS HPL hp0
  have HRP := Lib.hid (fun W k st (hW : RdS W w.heap.size W2.heap.size (lookV st.2) st.1) (hmW : MaxC W) (hg : Good st) (hk : k < (piecesB 1 s).length) => read_piece w.heap.size W2.heap.size s k st W hW hmW hg h8 hk)
  rw [hP] at HRP
  have HS8 := Lib.hid (show s.data.toList.length ≤ 8192 by omega)
  obtain ⟨R, hR⟩ : ∃ R, parseB s.data.toList = R := ⟨_, rfl⟩
  rw [hR]
  have HR := Lib.hid hR
  clear hsp hb1 hk1 hz1 hll hcl hss hb2 hk2 hm2 hW2 hrd hzW2 hpl hml hP hR hl hm
  go_enter Tryd.func9, Tryd.ntmps9
  go_wp2_with (go_at_call 25; refine HSP.out.mono ?_; rintro e w2 ⟨rfl, rfl⟩)
  go_loopg [15, 6, 7] (P.length + 1) (fun gg iv _ _ wr => ∃ (k : Nat) (st : PSt), k + gg = P.length + 1 ∧ iv = .int .i64 (k : Int) ∧ k ≤ P.length ∧ RunInv s.data.toList k st ∧ Good st ∧ RdS wr w.heap.size W2.heap.size (lookV st.2) st.1 ∧ Fr w.heap.size W2.heap.size W2 wr)
  case atStart => exact ⟨0, ([], false), by omega, rfl, Nat.zero_le _, run_start _, good_nil, HRD.out, Fr.refl _ _ _⟩
  case round =>
    obtain ⟨k, st, hkg, rfl, hkp, hinv, hgood, hrd, hfr⟩ := hrel
    have HINV := Lib.hid hinv
    have HG := Lib.hid hgood
    have HRD2 := Lib.hid hrd
    have HFR := Lib.hid hfr
    clear hinv hgood hrd hfr HRD
    by_cases hkl : k < P.length
    · have hc := (HFR.out.strs HSS.out (by have := HZ.out; omega) (by omega)).at k hkl
      rw [Nat.zero_add] at hc
      have hread := HRP.out wr k st HRD2.out (HFR.out.maxC HM2.out (by have := HZ.out; omega) (by omega)) HG.out hkl
      obtain ⟨X, hX⟩ : ∃ X, P[k] = X := ⟨_, rfl⟩
      rw [hX] at hc hread
      have hkm : k ≤ (linesB s.data.toList).1.length := by have := HPL.out; omega
      cases ho : pieceS s.data.toList k st with
      | none =>
        rw [ho] at hread
        have HREAD := Lib.hid hread
        have hres := run_none HS8.out HINV.out hkm ho
        rw [HR.out] at hres
        subst hres
        have hw1 : IntKind.i64.wrap ((k : Int) + 1) = (k : Int) + 1 := IntWalk.i64_in _ (by omega)
        clear hread ho hX hkm
        go_wp2_with (go_at_call 26; refine HREAD.out.mono ?_; rintro e w5 ⟨rfl, hfr5⟩)
        go_ret3
        exact ⟨none, 0, rfl, HasDefs.nil _ _ _ (by unfold maxLen; omega), HB2.out.trans ((HFR.out.trans hfr5).below (Nat.le_refl _) HB2.out.size)⟩
      | some st' =>
        rw [ho] at hread
        have HREAD := Lib.hid hread
        have HI2 := Lib.hid (run_some HINV.out hkm ho)
        have HG2 := Lib.hid (good_piece HG.out ho)
        clear hread ho hX hkm
        cases gk with
        | zero => omega
        | succ gg =>
          go_wp2_with (go_at_call 26; refine HREAD.out.mono ?_; rintro e w5 ⟨⟨rfl, hrd5⟩, hfr5⟩)
          go_roundg gg
          case measure => omega
          case rel => exact ⟨k + 1, st', by omega, by go_num, by omega, HI2.out, HG2.out, hrd5, HFR.out.trans hfr5⟩
    · have hkk : (linesB s.data.toList).1.length < k := by have := HPL.out; omega
      have hres := run_end HS8.out HINV.out hkk
      rw [HR.out] at hres
      subst hres
      obtain ⟨a, c, hc0, hds⟩ := HRD2.out.defs
      have HDS := Lib.hid hds
      clear hkk hds
      go_wp2_with fail
      go_ret3
      exact ⟨a, c, rfl, HDS.out, HB2.out.trans (HFR.out.below (Nat.le_refl _) HB2.out.size)⟩
end Go.Proofs.YtekcmgajjbdmgabDoor
