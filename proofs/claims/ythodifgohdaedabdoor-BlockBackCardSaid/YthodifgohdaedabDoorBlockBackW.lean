/- The walk of the statement BlockBack: what is printed is parsed; what is parsed of any text in which no line is left out, printed, is the text. -/
import Derived.Test.YthodifgohdaedabDoorBlkF
import Derived.Test.YthodifgohdaedabDoorBlkS
import Derived.Test.YthodifgohdaedabDoorBlkT
import Derived.Test.YthodifgohdaedabDoorBlkN
import Derived.Test.YthodifgohdaedabDoorPrsJ
import Derived.Test.YthodifgohdaedabDoorPrtC
import Derived.Test.YthodifgohdaedabDoorDefsArg
import Derived.Deep.CutBlock
import Derived.Outline
import Derived.IntWalk
namespace Go.Proofs.YthodifgohdaedabDoor
open Go.RowKit

theorem printE_casesB (D : List Dfn) : printE D = 0 ∧ defsC D = true ∧ (defsT D).length ≤ 8192 ∧ printT D = ⟨(defsT D).toArray⟩ ∨ printE D = 1 ∨ printE D = 2 := by
  unfold printE printT
  by_cases h : defsC D = true
  · by_cases h2 : (defsT D).length ≤ 8192
    · simp [h, h2]
    · simp [h, h2]
  · simp [h]
theorem parse_errs (s : Bs) : (parseB s).2.1 = 0 ∨ (parseB s).2.1 = 250 ∨ (parseB s).2.1 = 2 := by
  by_cases h : s.length ≤ 8192
  · rcases parse_err s h with e | e
    · exact .inl e
    · exact .inr (.inl e)
  · right; right
    unfold parseB
    rw [if_pos (by omega)]
/-- what is written of what is read -/
theorem back_facts (S : ByteArray) (h : (parseB S.data.toList).2.1 = 0) : ∃ U : ByteArray, printT (parseB S.data.toList).1 = U ∧ printE (parseB S.data.toList).1 = 0 ∧ defsC (parseB S.data.toList).1 = true ∧ U.size ≤ 8192 ∧ S.size ≤ 8192 ∧ (S.size = 0 → U = ⟨#[]⟩) ∧
    (S.size ≠ 0 → ∃ rows : List ByteArray, piecesB 0 (bytesA (Lib.trimSuffix S.data.toList [10])) = rows ∧ (∀ x ∈ rows, x.size ≤ 8192) ∧ rows.length ≤ 8193 ∧
      ((∃ k, ∃ h : k < rows.length, blankL rows[k].data.toList = true) → U.size < S.size) ∧ ((∀ k (h : k < rows.length), blankL rows[k].data.toList = false) → U = S)) := by
  obtain ⟨hc, ht, hs, h8⟩ := parse_back h
  have hl := lenB S
  have hle := unL_len_le (linesB S.data.toList).1 (fun l => !blankL l)
  have hU8 : (defsT (parseB S.data.toList).1).length ≤ 8192 := by
    rw [ht]
    have := hle.1
    rw [← hs] at this
    omega
  refine ⟨bytesA (unL ((linesB S.data.toList).1.filter fun l => !blankL l)), ?_, ?_, hc, ?_, by omega, ?_, ?_⟩
  · unfold printT
    rw [if_pos ⟨hc, hU8⟩, ht]
    rfl
  · unfold printE
    rw [if_pos hc, if_pos hU8]
  · rw [bytesA_size, ← ht]
    exact hU8
  · intro h0
    have h1 : S.data.toList = [] := List.eq_nil_of_length_eq_zero (by omega)
    rw [h1]
    rfl
  · intro h0
    have hne : S.data.toList ≠ [] := fun e => by rw [e] at hl; simp at hl; omega
    have hrows := rows_of hne hs
    have hp : piecesB 0 (bytesA (Lib.trimSuffix S.data.toList [10])) = (linesB S.data.toList).1.map bytesA := by
      rw [← hrows]
      unfold piecesB
      rw [bytesA_list]
      simp
    refine ⟨(linesB S.data.toList).1.map bytesA, hp, ?_, ?_, ?_, ?_⟩
    · intro x hx
      obtain ⟨l, hl2, rfl⟩ := List.mem_map.1 hx
      have := (lines_len S.data.toList).1 l hl2
      rw [bytesA_size]
      omega
    · rw [List.length_map, (lines_len S.data.toList).2.2]
      have : S.data.toList.count 10 ≤ S.data.toList.length := List.count_le_length
      omega
    · rintro ⟨k, hk, hb⟩
      rw [List.length_map] at hk
      rw [List.getElem_map, bytesA_list] at hb
      have := hle.2 ⟨(linesB S.data.toList).1[k], List.getElem_mem hk, by rw [hb]; rfl⟩
      rw [← hs] at this
      rw [bytesA_size]
      omega
    · intro hall
      have hf : (linesB S.data.toList).1.filter (fun l => !blankL l) = (linesB S.data.toList).1 := by
        rw [List.filter_eq_self]
        intro l hl2
        obtain ⟨k, hk, rfl⟩ := List.getElem_of_mem hl2
        have := hall k (by rw [List.length_map]; exact hk)
        rw [List.getElem_map, bytesA_list] at this
        rw [this]
        rfl
      rw [hf, ← hs]
      exact bytesA_of S

set_option maxHeartbeats 6400000 in
set_option maxRecDepth 100000 in
theorem blockBack_walk {w : World} (a0 : Option Addr) (len0 cap0 : Nat) (ds0 : List Dfn) (w0 : ds0.length = len0 ∧ HasDefs w a0 cap0 ds0) (s0 : ByteArray) (ws : s0.size ≤ maxLen) (hm : MaxC w) :
    Calls Tryd.prog 4 #[.slice a0 len0 cap0, .string s0] w (BoolW true w) := by
  unfold maxLen at ws
  obtain ⟨rfl, h0⟩ := w0
  have HF0 := Lib.hid (fun W (h : Below w.heap.size w W) => few_any a0 cap0 ds0 W (h0.call h))
  clear h0
  generalize fewD ds0 = D at *
  have hm1 : ∀ W (t : TypeId) (ts : Array TypeId), (Builtin.min_ ts t #[.int .i64 (s0.size : Int), .int .i64 8200]).run Tryd.prog W = .ok (.int .i64 ((min s0.size 8200 : Nat) : Int)) W := fun W t ts => run_minN W ts t s0.size 8200
  have hs1 := fun W => run_cutN (P := Tryd.prog) W 9 8200 s0 Tryd.underlying9
  have l1 := cutN_size 8200 s0
  generalize cutN 8200 s0 = S at *
  generalize min s0.size 8200 = m1 at *
  have hPS := fun W (h : Below w.heap.size w W) => parse_any S W (hm.call h) (by unfold maxLen; omega)
  have hE := parse_errs S.data.toList
  have hBF := back_facts S
  have hNL := parse_noL S.data.toList
  have HPS0 := Lib.hid hPS
  have HE0 := Lib.hid hE
  have HBF0 := Lib.hid hBF
  have HNL0 := Lib.hid hNL
  obtain ⟨R, hR⟩ : ∃ R, bytesA (Lib.trimSuffix S.data.toList [10]) = R := ⟨_, rfl⟩
  have HR := Lib.hid hR
  have hRs : R.size ≤ 8200 := by
    rw [← hR, bytesA_size]
    have := trimSuf_len S.data.toList [10]
    rw [lenB] at this
    omega
  have HTS := Lib.hid (show ∀ W, Calls Tryd.prog 16 #[.string S, .string ⟨#[10]⟩] W (fun e w' => e = .returned (.string R) ∧ W = w') from fun W => by
    rw [← hR]
    exact trimSuf_any S ⟨#[10]⟩ W (by unfold maxLen; omega))
  have HSP := Lib.hid (fun W (h : Below w.heap.size w W) => split_any R W (hm.call h) (by omega))
  clear hPS hE hBF hNL hR
  generalize parseB S.data.toList = r at *
  obtain ⟨L, EV, AT⟩ := r
  have HPS := Lib.hid (show ∀ W, Below w.heap.size w W → Calls Tryd.prog 8 #[.string S] W fun e w' => ∃ a c, e = .returned (.tuple #[.slice a L.length c, .int .i64 EV, .int .i64 AT]) ∧ HasDefs w' a c L ∧ Below W.heap.size W w' from HPS0.out)
  have HE := Lib.hid (show EV = 0 ∨ EV = 250 ∨ EV = 2 from HE0.out)
  have HNL := Lib.hid (show EV ≠ 0 → L = [] from HNL0.out)
  have HBF := Lib.hid (show EV = 0 → ∃ U : ByteArray, printT L = U ∧ printE L = 0 ∧ defsC L = true ∧ U.size ≤ 8192 ∧ S.size ≤ 8192 ∧ (S.size = 0 → U = ⟨#[]⟩) ∧
    (S.size ≠ 0 → ∃ rows : List ByteArray, piecesB 0 R = rows ∧ (∀ x ∈ rows, x.size ≤ 8192) ∧ rows.length ≤ 8193 ∧
      ((∃ k, ∃ h : k < rows.length, blankL rows[k].data.toList = true) → U.size < S.size) ∧ ((∀ k (h : k < rows.length), blankL rows[k].data.toList = false) → U = S)) from fun h => by
    rw [← HR.out]
    exact HBF0.out h)
  clear HPS0 HE0 HBF0 HNL0 HR hRs
  have HM := Lib.hid hm
  clear hm
  go_enter Tryd.func4, Tryd.ntmps4
  go_wp2_with fail
  go_region_with (go_at_call 12; (with_reducible refine (HF0.out _ (by repeat (first | assumption | exact Below.refl _ _ | refine Below.drew ?_))).mono ?_); rintro e w2 ⟨a, c, rfl, hD, hb2⟩)
  all_goals
    have HB2 : Hid (Below w.heap.size w w2) := Lib.hid (by first | exact hb2 | exact bthen (Below.refl _ _).drew hb2 | exact bthen ((Below.refl _ _).drew).drew hb2)
    have FD := Lib.hid (fun W (h : Below w2.heap.size w2 W) => hD.call h)
    have HP := Lib.hid (fun W (h : Below w2.heap.size w2 W) => bPrint_any a c D W (hD.call h))
    have hcD : D.length ≤ c ∧ c ≤ maxLen := ⟨hD.1, hD.2.1⟩
    obtain ⟨hc1, hc2⟩ := hcD
    unfold maxLen at hc2
    clear hD hb2 HF0 hm1 hs1
    have HPD := Lib.hid (printE_casesB D)
    go_upto_region 3 with (go_at_call 13; (with_reducible refine (HP.out _ (by repeat (first | assumption | exact Below.refl _ _ | refine Below.drew ?_))).mono ?_); rintro e w3 ⟨rfl, hb3⟩)
    have HB3 : Hid (Below w2.heap.size w2 w3) := Lib.hid (by first | exact hb3 | exact bthen (Below.refl _ _).drew hb3 | exact bthen ((Below.refl _ _).drew).drew hb3)
    clear hb3 HP
    generalize printT D = T at *
    generalize printE D = PE at *
    rcases HPD.out with ⟨rfl, hCD, hLD, hTD⟩ | rfl | rfl
    case' inl =>
      have hTd : T.data.toList = defsT D := by rw [hTD]
      have hTs : T.size = (defsT D).length := by rw [← hTd, lenB]
      have hpp := parse_print hCD hLD
      have HX := Lib.hid (fun W (h : Below w2.heap.size w2 W) => show Calls Tryd.prog 8 #[.string T] W fun e w' => ∃ a c, e = .returned (.tuple #[.slice a D.length c, .int .i64 0, .int .i64 0]) ∧ HasDefs w' a c D ∧ Below W.heap.size W w' from by
        have := parse_any T W (HM.out.call (bthen HB2.out h)) (by unfold maxLen; omega)
        rw [hTd, hpp] at this
        exact this)
      have HLK := Lib.hid (show ∀ a' c' W, Below w2.heap.size w2 W → HasDefs W a' c' D → Calls Tryd.prog 11 #[.slice a D.length c, .slice a' D.length c'] W (BoolW true W) from fun a' c' W h hd => by
        have := rLike_any a a' c c' D D W (FD.out _ h) hd
        rw [(likeDs_iff _ _).2 rfl] at this
        exact this)
      clear hCD hLD hTD hTd hTs hpp
      go_upto_region 7 with (first
        | (go_at_call 8; (with_reducible refine (HX.out _ HB3.out).mono ?_); rintro e w4 ⟨a4, c4, rfl, hd4, hb4⟩)
        | (go_at_call 11; (with_reducible refine (HLK.out _ _ _ (bthen HB3.out hb4) hd4).mono ?_); rintro e w5 ⟨rfl, hb5⟩))
      have HBX := Lib.hid (bthen HB3.out (bthen hb4 hb5))
      clear hb4 hb5 hd4 HX HLK HB3
      obtain ⟨WX, rfl⟩ : ∃ W, W = w5 := ⟨_, rfl⟩
    case' inr.inl =>
      go_upto_region 7 with fail
      have HBX := HB3
      clear HB3
      obtain ⟨WX, rfl⟩ : ∃ W, W = w3 := ⟨_, rfl⟩
    case' inr.inr =>
      go_upto_region 7 with fail
      have HBX := HB3
      clear HB3
      obtain ⟨WX, rfl⟩ : ∃ W, W = w3 := ⟨_, rfl⟩
    all_goals
      clear HPD FD
      go_upto_region 8 with (go_at_call 8; (with_reducible refine (HPS.out _ (bthen HB2.out HBX.out)).mono ?_); rintro e w6 ⟨a6, c6, rfl, hd6, hb6⟩)
      have HB6 := Lib.hid (bthen HB2.out (bthen HBX.out hb6))
      have FX := Lib.hid (fun W (h : Below w6.heap.size w6 W) => hd6.call h)
      clear hd6 hb6 HBX
      rcases HE.out with rfl | rfl | rfl
      case inr.inl =>
        have hL0 : ((L.length : Int) == 0) = true := by rw [HNL.out (by decide)]; rfl
        clear HNL
        go_wp2_with (go_at_call 10; (with_reducible refine (alive_any _).mono ?_); rintro e w7 ⟨rfl, hb7⟩)
        go_ret
        exact ⟨rfl, bthen HB6.out hb7⟩
      case inr.inr =>
        have hL0 : ((L.length : Int) == 0) = true := by rw [HNL.out (by decide)]; rfl
        clear HNL
        go_wp2_with (go_at_call 10; (with_reducible refine (alive_any _).mono ?_); rintro e w7 ⟨rfl, hb7⟩)
        go_ret
        exact ⟨rfl, bthen HB6.out hb7⟩
      obtain ⟨U, hUT, hUE, hLC, hU8, hS8, hU0, hrows⟩ := HBF.out rfl
      have HQ := Lib.hid (show ∀ W, Below w6.heap.size w6 W → Calls Tryd.prog 13 #[.slice a6 L.length c6] W fun e w' => e = .returned (.tuple #[.string U, .int .i64 0]) ∧ Below W.heap.size W w' from fun W h => by
        have := bPrint_any a6 c6 L W (FX.out _ h)
        unfold PrintP at this
        rw [hUT, hUE] at this
        exact this)
      have HRT := Lib.hid (show ∀ W, Below w6.heap.size w6 W → Calls Tryd.prog 14 #[.slice a6 L.length c6] W (BoolW true W) from fun W h => by
        have := bRight_any a6 c6 L W (FX.out _ h)
        rw [hLC] at this
        exact this)
      have HU0 := Lib.hid hU0
      have HROWS := Lib.hid hrows
      clear hUT hUE hLC hU0 hrows HNL HBF
      go_upto_region 13 with (first
        | (go_at_call 13; (with_reducible refine (HQ.out _ (Below.refl _ _)).mono ?_); rintro e w7 ⟨rfl, hb7⟩)
        | (go_at_call 14; (with_reducible refine (HRT.out _ hb7).mono ?_); rintro e w8 ⟨rfl, hb8⟩)
        | (go_at_call 10; (with_reducible refine (alive_any _).mono ?_); rintro e w9 ⟨rfl, hb9⟩))
      have HB9 := Lib.hid (bthen HB6.out (bthen hb7 (bthen hb8 hb9)))
      clear hb7 hb8 hb9 HQ HRT HB6
      by_cases hS0 : S.size = 0
      case pos =>
        obtain rfl := HU0.out hS0
        have e1 : S.toList.isEmpty = true := by
          rw [List.isEmpty_iff, ByteArray.toList_eq]
          exact List.eq_nil_of_length_eq_zero (by rw [lenB]; exact hS0)
        go_wp2_with fail
        go_ret
        exact ⟨rfl, HB9.out⟩
      have e1 : S.toList.isEmpty = false := strNe S hS0
      obtain ⟨rows, hpc, hrs, hrl, hlt, heq⟩ := HROWS.out hS0
      have HSQ := Lib.hid (show ∀ W, Below w.heap.size w W → Calls Tryd.prog 15 #[.string R, .string ⟨#[10]⟩] W fun e w' => e = .returned (.slice (some ⟨W.heap.size, 0, none⟩) rows.length rows.length) ∧ W.alloc (.cells (rows.map Value.string).toArray 9) = w' from fun W h => by
        have := HSP.out W h
        rw [hpc] at this
        exact this)
      have HRS := Lib.hid hrs
      have HLT := Lib.hid hlt
      have HEQ := Lib.hid heq
      have HRW := Lib.hid (hasStrs_row w9 rows 9 (fun x hx => Nat.le_trans (hrs x hx) (by decide)) (Nat.le_trans hrl (by decide)))
      clear hpc hrs hlt heq HSP HROWS HU0
      go_wp2_with (first
        | (go_at_call 16; (with_reducible refine (HTS.out _).mono ?_); rintro e wt ⟨rfl, rfl⟩)
        | (go_at_call 15; (with_reducible refine (HSQ.out _ HB9.out).mono ?_); rintro e w10 ⟨rfl, hw10⟩))
      have HB10 : Hid (Below w.heap.size w w10) := Lib.hid (by
        rw [← hw10]
        exact bthen HB9.out ((Below.refl _ _).alloc (Nat.le_refl _) _))
      rw [hw10] at HRW
      clear hw10 HSQ HTS
      go_loopg [83, 16] rows.length (fun gg iv _ wr => ∃ k : Nat, k + gg = rows.length ∧ iv = .int .i64 (k : Int) ∧ w10 = wr ∧ ∀ j (h : j < rows.length), j < k → blankL rows[j].data.toList = false)
      case atStart => exact ⟨0, by omega, rfl, rfl, fun j _ h => absurd h (Nat.not_lt_zero _)⟩
      case round =>
        obtain ⟨k, hkg, rfl, rfl, hall⟩ := hrel
        have HALL := Lib.hid hall
        clear hall
        cases gk with
        | zero =>
          obtain rfl : k = rows.length := by omega
          clear hkg
          obtain rfl := HEQ.out (fun j h => HALL.out j h h)
          have hself : (U.toList == U.toList) = true := by simp
          go_wp2_with fail
          go_ret
          exact ⟨rfl, HB10.out⟩
        | succ gg =>
          have hkl : k < rows.length := by omega
          have e2 := HRW.out.at k hkl
          rw [Nat.zero_add] at e2
          have HXS := Lib.hid (HRS.out _ (List.getElem_mem hkl))
          have HB := Lib.hid (fun h : blankL rows[k].data.toList = true => HLT.out ⟨k, hkl, h⟩)
          have HN := Lib.hid (fun h : blankL rows[k].data.toList = false => show ∀ j (h : j < rows.length), j < k + 1 → blankL rows[j].data.toList = false from fun j hj hjk => by
            by_cases e : j = k
            · subst e; exact h
            · exact HALL.out j hj (by omega))
          obtain ⟨X, hX⟩ : ∃ X, rows[k] = X := ⟨_, rfl⟩
          rw [hX] at e2 HXS HB HN
          have hbk := rBlank_any X w10 (Nat.le_trans HXS.out (by decide))
          clear hX
          cases hB : blankL X.data.toList with
          | true =>
            rw [hB] at hbk
            have HBK := Lib.hid hbk
            have hUS := HB.out hB
            clear hbk hB HB HN
            go_wp2_with (go_at_call 17; (with_reducible refine HBK.out.mono ?_); rintro e w11 ⟨rfl, rfl⟩)
            go_ret
            exact ⟨rfl, HB10.out⟩
          | false =>
            rw [hB] at hbk
            have HBK := Lib.hid hbk
            have HN2 := Lib.hid (HN.out hB)
            clear hbk hB HB HN
            go_wp2_with (go_at_call 17; (with_reducible refine HBK.out.mono ?_); rintro e w11 ⟨rfl, rfl⟩)
            go_roundg gg
            case measure => omega
            case rel => exact ⟨k + 1, by omega, by go_num, rfl, HN2.out⟩
end Go.Proofs.YthodifgohdaedabDoor
