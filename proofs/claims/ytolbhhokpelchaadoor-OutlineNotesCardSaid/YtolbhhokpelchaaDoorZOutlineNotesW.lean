/- The walk of the statement OutlineNotes: a line that is left out, put in anywhere between a text's lines, changes nothing of what it is read as, but the number of a line that is not as it must be. -/
import Derived.Test.YtolbhhokpelchaaDoorOtnM
import Derived.Test.YtolbhhokpelchaaDoorOtlL
import Derived.Test.YtolbhhokpelchaaDoorLikN
import Derived.Test.YtolbhhokpelchaaDoorMg2
import Derived.Deep.RegionLaw
import Derived.RegionTactic
import Derived.BigRegion
import Derived.Deep.CutBlock
import Derived.Outline
import Derived.IntWalk
namespace Go.Proofs.YtolbhhokpelchaaDoor
open Go.RowKit

/-- what the statement's text asks -/
theorem notes_factsN (S N : ByteArray) (hS : S.size ≤ 6000) (hN : N.size ≤ 40) (hs : Lib.hasSuffix S.data.toList [10] = true) (hn : ∀ c ∈ N.data.toList, c ≠ 10) :
    ∃ rows : List ByteArray, piecesB 0 (bytesA (Lib.trimSuffix S.data.toList [10])) = rows ∧ (∀ x ∈ rows, x.size ≤ 6000) ∧ rows.length ≤ 6001 ∧
      ∀ (M : ByteArray), M = ⟨#[32, 32, 35]⟩ → ∀ k, k ≤ rows.length →
        (M ++ N).size ≤ 43 ∧ (Lib.join ((rows.take k ++ [M ++ N] ++ rows.drop k).map (·.data.toList)) [10]).length ≤ 6100 ∧
        parseN (Lib.join ((rows.take k ++ [M ++ N] ++ rows.drop k).map (·.data.toList)) [10] ++ [10]) = ((parseN S.data.toList).1, (parseN S.data.toList).2.1, bumpI k (parseN S.data.toList).2.2) := by
  obtain ⟨hne, hsu⟩ := ended hs
  have hl := lenB S
  have hrows := rows_of hne hsu
  have hp : piecesB 0 (bytesA (Lib.trimSuffix S.data.toList [10])) = (linesB S.data.toList).1.map bytesA := by
    rw [← hrows]
    unfold piecesB
    rw [bytesA_list]
    simp
  have hno := (linesB_none S.data.toList).1
  obtain ⟨hll1, _, hll⟩ := lines_len S.data.toList
  refine ⟨(linesB S.data.toList).1.map bytesA, hp, ?_, ?_, ?_⟩
  · intro x hx
    obtain ⟨l, hl2, rfl⟩ := List.mem_map.1 hx
    have := hll1 l hl2
    rw [bytesA_size]
    omega
  · rw [List.length_map, hll]
    have : S.data.toList.count 10 ≤ S.data.toList.length := List.count_le_length
    omega
  · intro M hM k hk
    rw [List.length_map] at hk
    have hMs : M.size = 3 := by rw [hM]; rfl
    have hXs : (M ++ N).size ≤ 43 := by rw [ByteArray.size_append]; omega
    have hXd : (M ++ N).data.toList = M.data.toList ++ N.data.toList := by simp [ByteArray.data_append]
    have hblank : tokR (M ++ N).data.toList = none := by
      rw [hXd, hM]
      exact tokR_note _
    have hX10 : ∀ c ∈ (M ++ N).data.toList, c ≠ 10 := by
      rw [hXd]
      intro c hc
      rw [List.mem_append] at hc
      rcases hc with hc | hc
      · rw [hM] at hc
        have : c = 32 ∨ c = 35 := by simpa using hc
        rcases this with rfl | rfl <;> decide
      · exact hn c hc
    have hmap : (((linesB S.data.toList).1.map bytesA).take k ++ [M ++ N] ++ ((linesB S.data.toList).1.map bytesA).drop k).map (·.data.toList) = (linesB S.data.toList).1.take k ++ (M ++ N).data.toList :: (linesB S.data.toList).1.drop k := by
      rw [← List.map_take, ← List.map_drop]
      simp only [List.map_append, List.map_map, List.map_cons, List.map_nil]
      have e : ((fun x : ByteArray => x.data.toList) ∘ bytesA) = id := rfl
      rw [e, List.map_id, List.map_id]
      simp
    rw [hmap]
    have hj := join_un ((linesB S.data.toList).1.take k ++ (M ++ N).data.toList :: (linesB S.data.toList).1.drop k) (by simp)
    have hcat : (linesB S.data.toList).1.take k ++ (linesB S.data.toList).1.drop k = (linesB S.data.toList).1 := List.take_append_drop _ _
    have hlen : (unL ((linesB S.data.toList).1.take k ++ (M ++ N).data.toList :: (linesB S.data.toList).1.drop k)).length = S.data.toList.length + (M ++ N).data.toList.length + 1 := by
      conv => rhs; rw [hsu, ← hcat, unL_app]
      rw [unL_app]
      have e : unL ((M ++ N).data.toList :: (linesB S.data.toList).1.drop k) = (M ++ N).data.toList ++ [10] ++ unL ((linesB S.data.toList).1.drop k) := by simp [unL]
      rw [e]
      simp only [List.length_append, List.length_singleton]
      omega
    simp only [lenB] at hlen
    refine ⟨hXs, ?_, ?_⟩
    · have := congrArg List.length hj
      rw [List.length_append, hlen, List.length_singleton] at this
      omega
    · rw [hj]
      have hnp := notes_parseN ((linesB S.data.toList).1.take k) ((linesB S.data.toList).1.drop k) (M ++ N).data.toList hblank (fun l hl c hc => by
        rw [List.mem_append, List.mem_cons] at hl
        rcases hl with hl | rfl | hl
        · exact hno l (List.mem_of_mem_take hl) c hc
        · exact hX10 c hc
        · exact hno l (List.mem_of_mem_drop hl) c hc) (by rw [hcat, ← hsu]; omega) (by omega)
      rw [hnp, hcat, ← hsu, List.length_take, Nat.min_eq_left hk]
set_option maxHeartbeats 6400000 in
set_option maxRecDepth 100000 in
theorem outlineNotes_walk {w : World} (s0 : ByteArray) (_ws : s0.size ≤ maxLen) (n0 : ByteArray) (_wn : n0.size ≤ maxLen) (at0 : Int) (_wa : (Lit.int .i64 at0).wf = true) (hm : MaxC w) :
    Calls Tryd.prog 5 #[.string s0, .string n0, .int .i64 at0] w (BoolW true w) := by
  have hm1 : ∀ W (t : TypeId) (ts : Array TypeId), (Builtin.min_ ts t #[.int .i64 (s0.size : Int), .int .i64 6000]).run Tryd.prog W = .ok (.int .i64 ((min s0.size 6000 : Nat) : Int)) W := fun W t ts => run_minN W ts t s0.size 6000
  have hm2 : ∀ W (t : TypeId) (ts : Array TypeId), (Builtin.min_ ts t #[.int .i64 (n0.size : Int), .int .i64 40]).run Tryd.prog W = .ok (.int .i64 ((min n0.size 40 : Nat) : Int)) W := fun W t ts => run_minN W ts t n0.size 40
  have hs1 := fun W => run_cutN (P := Tryd.prog) W 9 6000 s0 Tryd.underlying9
  have hs2 := fun W => run_cutN (P := Tryd.prog) W 9 40 n0 Tryd.underlying9
  have l1 := cutN_size 6000 s0
  have l2 := cutN_size 40 n0
  generalize cutN 6000 s0 = S at *
  generalize cutN 40 n0 = N at *
  generalize min s0.size 6000 = m1 at *
  generalize min n0.size 40 = m2 at *
  have HCT := Lib.hid (fun W => (Tryd.strings_Contains_one N 10 W).mono (fun _ _ h => show _ ∧ W = _ from ⟨h.1, h.2.symm⟩))
  have HHS := Lib.hid (fun W => hasSuf_any S ⟨#[10]⟩ W (by unfold maxLen; omega))
  have hNF := fun (h : decide (0 ≤ Lib.indexByte N.data.toList 10) = false) (h2 : Lib.hasSuffix S.data.toList [10] = true) => notes_factsN S N l1 l2 h2 (fun c hc e => by
    subst e
    obtain ⟨j, hj, e2⟩ := List.getElem_of_mem hc
    have h3 : Lib.indexByte N.data.toList 10 = -1 := by
      have := Lib.indexByte_ge N.data.toList 10
      have h4 : ¬ 0 ≤ Lib.indexByte N.data.toList 10 := by simpa using h
      omega
    exact Lib.indexByte_none h3 j (by rw [List.getElem?_eq_getElem hj, e2]))
  have hPS := fun W (h : Below w.heap.size w W) => oParse_any S W (hm.call h)
  have hPT := fun (T : ByteArray) W (h : Below w.heap.size w W) => oParse_any T W (hm.call h)
  have HAL := Lib.hid (fun W (h : Below w.heap.size w W) => alive_any W (hm.call h))
  have hat : 0 ≤ (parseN S.data.toList).2.2 ∧ (parseN S.data.toList).2.2 ≤ (S.size : Int) + 1 := by
    have h1 := parseN_at S.data.toList
    have h2 : (linesB S.data.toList).1.length ≤ S.data.toList.length := by rw [(lines_len _).2.2]; exact List.count_le_length
    rw [lenB] at h2
    omega
  unfold ParseP at hPS hPT
  have HAT0 := Lib.hid hat
  have HPS0 := Lib.hid hPS
  have HNF0 := Lib.hid hNF
  have HPT := Lib.hid hPT
  obtain ⟨R, hR⟩ : ∃ R, bytesA (Lib.trimSuffix S.data.toList [10]) = R := ⟨_, rfl⟩
  have HR := Lib.hid hR
  have hRs : R.size ≤ 6000 := by
    rw [← hR, bytesA_size]
    have := trimSuf_len S.data.toList [10]
    rw [lenB] at this
    omega
  have HTS := Lib.hid (show ∀ W, Calls Tryd.prog 19 #[.string S, .string ⟨#[10]⟩] W (fun e w' => e = .returned (.string R) ∧ W = w') from fun W => by
    rw [← hR]
    exact trimSuf_any S ⟨#[10]⟩ W (by unfold maxLen; omega))
  have HSP := Lib.hid (fun W (h : Below w.heap.size w W) => split_any R W (hm.call h) (by omega))
  clear hPS hNF hPT hR hat hm
  generalize parseN S.data.toList = r at *
  obtain ⟨L, EV, AT⟩ := r
  have HPS := Lib.hid (show ∀ W, Below w.heap.size w W → Calls Tryd.prog 17 #[.string S] W fun e w' => ∃ q : NdAt, q.n = L ∧ q.ok w' ∧ e = .returned (.tuple #[.agg (nCells q), .int .i64 EV, .int .i64 AT]) ∧ Below W.heap.size W w' from fun W h => (HPS0.out W h).mono fun e w' ⟨h1, q, h2, h3, h4⟩ => ⟨q, h2, h3, h4, h1⟩)
  have hat : 0 ≤ AT ∧ AT ≤ (S.size : Int) + 1 := HAT0.out
  obtain ⟨hat1, hat2⟩ := hat
  unfold BoolS at HHS
  rw [show (⟨#[10]⟩ : ByteArray).data.toList = [10] from rfl] at HHS
  generalize decide (0 ≤ Lib.indexByte N.data.toList 10) = BC at *
  generalize Lib.hasSuffix S.data.toList [10] = BS at *
  have HNF := Lib.hid (show BC = false → BS = true → ∃ rows : List ByteArray, piecesB 0 R = rows ∧ (∀ x ∈ rows, x.size ≤ 6000) ∧ rows.length ≤ 6001 ∧
      ∀ (M : ByteArray), M = ⟨#[32, 32, 35]⟩ → ∀ k, k ≤ rows.length →
        (M ++ N).size ≤ 43 ∧ (Lib.join ((rows.take k ++ [M ++ N] ++ rows.drop k).map (·.data.toList)) [10]).length ≤ 6100 ∧
        parseN (Lib.join ((rows.take k ++ [M ++ N] ++ rows.drop k).map (·.data.toList)) [10] ++ [10]) = (L, EV, bumpI k AT) from fun h h2 => by
    rw [← HR.out]
    exact HNF0.out h h2)
  clear HPS0 HNF0 HAT0 HR hRs
  go_enter Tryd.func5, Tryd.ntmps5
  go_wp2_with fail
  go_region
  all_goals
    cases BC with
    | true =>
      go_wp2_with (first
        | (go_at_call 21; (with_reducible refine (HCT.out _).mono ?_); rintro e w2 ⟨rfl, rfl⟩)
        | (go_at_call 10; (with_reducible refine (HAL.out _ (by repeat (first | assumption | exact Below.refl _ _ | refine Below.drew ?_))).mono ?_); rintro e w3 ⟨rfl, hb3⟩))
      go_ret
      exact ⟨rfl, bthen (Below.refl _ _).drew hb3⟩
    | false =>
    cases BS with
    | false =>
      go_wp2_with (first
        | (go_at_call 21; (with_reducible refine (HCT.out _).mono ?_); rintro e w2 ⟨rfl, rfl⟩)
        | (go_at_call 22; (with_reducible refine (HHS.out _).mono ?_); rintro e w4 ⟨rfl, rfl⟩)
        | (go_at_call 10; (with_reducible refine (HAL.out _ (by repeat (first | assumption | exact Below.refl _ _ | refine Below.drew ?_))).mono ?_); rintro e w3 ⟨rfl, hb3⟩))
      go_ret
      exact ⟨rfl, bthen (Below.refl _ _).drew hb3⟩
    | true =>
      obtain ⟨rows, hpc, hrs, hrl, hfacts⟩ := HNF.out rfl rfl
      have HFA := Lib.hid hfacts
      have HRS := Lib.hid hrs
      have HSQ := Lib.hid (show ∀ W, Below w.heap.size w W → Calls Tryd.prog 18 #[.string R, .string ⟨#[10]⟩] W fun e w' => ∃ b off, e = .returned (.slice (some ⟨b, off, none⟩) rows.length rows.length) ∧ HasStrs w' (some ⟨b, off, none⟩) rows.length rows ∧ Below W.heap.size W w' from fun W h => by
        have := HSP.out W h
        rw [hpc] at this
        refine this.mono fun e w' ⟨h1, h2⟩ => ?_
        refine ⟨W.heap.size, 0, h1, ?_, ?_⟩
        · rw [← h2]
          exact hasStrs_row W rows _ (fun x hx => Nat.le_trans (hrs x hx) (by decide)) (Nat.le_trans hrl (by decide))
        · rw [← h2]
          exact (Below.refl _ _).alloc (Nat.le_refl _) _)
      clear hpc hrs hfacts HSP HNF
      go_upto_region 5 with (first
        | (go_at_call 21; (with_reducible refine (HCT.out _).mono ?_); rintro e w2 ⟨rfl, rfl⟩)
        | (go_at_call 22; (with_reducible refine (HHS.out _).mono ?_); rintro e w4 ⟨rfl, rfl⟩)
        | (go_at_call 19; (with_reducible refine (HTS.out _).mono ?_); rintro e wt ⟨rfl, rfl⟩)
        | (go_at_call 18; (with_reducible refine (HSQ.out _ (by repeat (first | assumption | exact Below.refl _ _ | refine Below.drew ?_))).mono ?_); rintro e w5 ⟨b, off, rfl, hrow, hb5⟩))
      have HB5 : Hid (Below w.heap.size w w5) := Lib.hid (by first | exact hb5 | exact bthen (Below.refl _ _).drew hb5)
      have HRW := Lib.hid (fun W (h : Below w5.heap.size w5 W) => hrow.call h)
      clear hb5 hrow HSQ HCT HHS HTS
      have hmo := Int.tmod_lt_of_pos at0 (show (0 : Int) < (rows.length : Int) + 1 by omega)
      have hmo2 : -((rows.length : Int) + 1) < at0.tmod ((rows.length : Int) + 1) := by
        have := Int.tmod_lt_of_pos (-at0) (show (0 : Int) < (rows.length : Int) + 1 by omega)
        rw [Int.neg_tmod] at this
        omega
      go_cut [2] (fun x wx => ∃ A : Nat, x = .int .i64 (A : Int) ∧ A ≤ rows.length ∧ w5 = wx)
      case first =>
        go_wp2_with fail
        go_meet
        refine ⟨((at0.tmod (rows.length + 1) + rows.length + 1) % (rows.length + 1)).toNat, ?_, ?_, rfl⟩
        · have := Int.emod_nonneg (at0.tmod (rows.length + 1) + rows.length + 1) (show (rows.length : Int) + 1 ≠ 0 by omega)
          congr 1; omega
        · have := Int.emod_lt_of_pos (at0.tmod (rows.length + 1) + rows.length + 1) (show (0 : Int) < (rows.length : Int) + 1 by omega)
          omega
      case rest =>
      obtain ⟨A, rfl, hA, rfl⟩ := hcut
      clear hmo hmo2
      go_upto_region 6 with fail
      obtain ⟨M, hMe⟩ : ∃ M : ByteArray, (⟨#[32, 32, 35]⟩ : ByteArray) = M := ⟨_, rfl⟩
      rw [hMe]
      have hM : M = ⟨#[32, 32, 35]⟩ := hMe.symm
      clear hMe
      all_goals
        have hMs : M.size = 3 := by rw [hM]; rfl
        obtain ⟨hXs, hJl, hPJ⟩ := HFA.out M hM A hA
        have hXl : (M ++ N).size = M.size + N.size := ByteArray.size_append
        have pst : ¬ 9223372036854775807 < M.size + N.size := by omega
        clear hM HFA
        have HPJ := Lib.hid hPJ
        have HJL := Lib.hid hJl
        clear hPJ hJl
        obtain ⟨i0, hi, hz0, hz1, hz2⟩ := info_parts Tryd.infoS
        have hdr : ∀ W, HasStrs W (some ⟨b, off, none⟩) rows.length rows → HasStrs W (if rows.length = A then some ⟨b, off, none⟩ else some ⟨b, off + A, none⟩) (rows.length - A) (rows.drop A) := fun W hW => by
          split
          · rename_i hc
            rw [List.drop_of_length_le (by omega)]
            exact HasStrs.nil _ _ _ (by unfold maxLen; omega)
          · exact hasStrs_drop hW A hA rfl
        have HDR := Lib.hid hdr
        obtain ⟨X, hX⟩ : ∃ X, (if rows.length = A then some (⟨b, off, none⟩ : Addr) else some ⟨b, off + A, none⟩) = X := ⟨_, rfl⟩
        rw [hX] at HDR
        have e2 : (A : Int) ≤ (rows.length : Int) := by omega
        have HTL := Lib.hid (show A = (rows.take A).length by rw [List.length_take]; omega)
        have HLD := Lib.hid (show rows.length - A = (rows.drop A).length by rw [List.length_drop])
        have HL0 := Lib.hid (show ([] : List ByteArray).length + (rows.take A).length ≤ 1000000 by simp; omega)
        have HL1 := Lib.hid (show ([] ++ rows.take A).length ≤ 1000000 by simp; omega)
        have HL2 := Lib.hid (show ([] ++ rows.take A ++ [M ++ N]).length + (rows.drop A).length ≤ 1000000 by simp; omega)
        have HSZ5 := Lib.hid (fun W (h : Below w5.heap.size w5 W) => h.size)
        have HGR := Lib.hid (fun (W1 : World) (v1 : Value) (ss : List ByteArray) (w8 : World) (hb : Below w5.heap.size w5 W1) (ho : OwnS 9 W1 w5.heap.size v1 ss) (hg : W1.grownBy w8 v1.ownBlock) => OwnS.grown ho hb (Nat.le_refl _) hb.size hg)
        have hszm : ∀ s ∈ ([] ++ rows.take A ++ [M ++ N]) ++ rows.drop A, s.size ≤ maxLen := fun s hs => by
          simp only [List.nil_append, List.mem_append, List.mem_singleton] at hs
          rcases hs with (hs | rfl) | hs
          · exact Nat.le_trans (HRS.out s (List.mem_of_mem_take hs)) (by decide)
          · exact Nat.le_trans hXs (by decide)
          · exact Nat.le_trans (HRS.out s (List.mem_of_mem_drop hs)) (by decide)
        have HSZM := Lib.hid hszm
        have hlm : (([] ++ rows.take A ++ [M ++ N]) ++ rows.drop A).length = rows.length + 1 := by simp; omega
        have HLM := Lib.hid hlm
        clear hdr hszm hlm hXs hXl hMs
        go_cut [8] (fun v wx => ∃ p q, v = .slice p (rows.length + 1) q ∧ HasStrs wx p q (([] ++ rows.take A ++ [M ++ N]) ++ rows.drop A) ∧ Below w5.heap.size w5 wx)
        case first =>
          go_region_law (first
            | (refine step_appS _ (by rfl) (.tmp 49) (.tmp 52) 22 (by rfl) w5.heap.size 9 i0 (.string ⟨#[]⟩) Tryd.underlying22 hi hz0 hz1 hz2 rfl (.slice (some ⟨w5.heap.size, 0, none⟩) 0 0) [] (by rfl) ?_ (some ⟨b, off, none⟩) A rows.length (rows.take A) (by rfl) HTL.out ?_ HL0.out ?_ ?_; (first | exact OwnS.made _ w5.drew | exact (OwnS.made _ w5.drew).alloc _ | exact OwnS.made2 _ w5.drew _); (refine hasStrs_take (HRW.out _ ?_) A hA; focus ((repeat (first | refine Below.drew ?_ | refine bal2 ?_ | exact Below.refl _ _)); done)); (refine HSZ5.out _ ?_; focus ((repeat (first | refine Below.drew ?_ | refine bal2 ?_ | exact Below.refl _ _)); done)); intro v8 w8 hown8 hg8; have HO8 := Lib.hid hown8; have HG8 := Lib.hid hg8; have HB8 := Lib.hid (HGR.out _ _ _ _ (by (repeat (first | refine Below.drew ?_ | refine bal2 ?_ | exact Below.refl _ _))) (by (first | exact OwnS.made _ w5.drew | exact (OwnS.made _ w5.drew).alloc _ | exact OwnS.made2 _ w5.drew _)) hg8); clear hown8 hg8)
            | (refine step_appS _ (by rfl) (.tmp 49) (.tmp 52) 22 (by rfl) w5.heap.size 9 i0 (.string ⟨#[]⟩) Tryd.underlying22 hi hz0 hz1 hz2 rfl (.slice (some ⟨w5.heap.size + 1, 0, none⟩) 0 0) [] (by rfl) ?_ (some ⟨b, off, none⟩) A rows.length (rows.take A) (by rfl) HTL.out ?_ HL0.out ?_ ?_; (first | exact OwnS.made _ w5.drew | exact (OwnS.made _ w5.drew).alloc _ | exact OwnS.made2 _ w5.drew _); (refine hasStrs_take (HRW.out _ ?_) A hA; focus ((repeat (first | refine Below.drew ?_ | refine bal2 ?_ | exact Below.refl _ _)); done)); (refine HSZ5.out _ ?_; focus ((repeat (first | refine Below.drew ?_ | refine bal2 ?_ | exact Below.refl _ _)); done)); intro v8 w8 hown8 hg8; have HO8 := Lib.hid hown8; have HG8 := Lib.hid hg8; have HB8 := Lib.hid (HGR.out _ _ _ _ (by (repeat (first | refine Below.drew ?_ | refine bal2 ?_ | exact Below.refl _ _))) (by (first | exact OwnS.made _ w5.drew | exact (OwnS.made _ w5.drew).alloc _ | exact OwnS.made2 _ w5.drew _)) hg8); clear hown8 hg8)
            | (refine step_appT2 _ (by rfl) (.tmp 53) (.tmp 56) 22 (by rfl) w5.heap.size 9 i0 (.string ⟨#[]⟩) Tryd.underlying22 hi hz0 hz1 hz2 rfl v8 ([] ++ rows.take A) (M ++ N) (by rfl) ?_ ?_ HL1.out ?_ ?_; (refine OwnS.call HO8.out ?_; focus ((repeat (first | refine Below.drew ?_ | refine bal2 ?_ | exact Below.refl _ _)); done)); (first | exact ⟨_, rfl, new0 _ _ _⟩ | exact ⟨_, rfl, cell_new2 HG8.out (by simp [Value.ownBlock]) (new1 _ _ _ _)⟩ | exact ⟨_, rfl, cell_new2 HG8.out (by simp [Value.ownBlock]) (new0s _ _ _ _)⟩); (refine HSZ5.out _ (bthen HB8.out ?_); focus ((repeat (first | refine Below.drew ?_ | refine bal2 ?_ | exact Below.refl _ _)); done)); intro v9 w9 hown9 hg9; have HO9 := Lib.hid hown9; have HB9 := Lib.hid (HGR.out _ _ _ _ (bthen HB8.out (by (repeat (first | refine Below.drew ?_ | refine bal2 ?_ | exact Below.refl _ _)))) (OwnS.call HO8.out (by (repeat (first | refine Below.drew ?_ | refine bal2 ?_ | exact Below.refl _ _)))) hg9); clear hown9 hg9)
            | (refine step_appS _ (by rfl) (.tmp 57) (.tmp 60) 22 (by rfl) w5.heap.size 9 i0 (.string ⟨#[]⟩) Tryd.underlying22 hi hz0 hz1 hz2 rfl v9 ([] ++ rows.take A ++ [M ++ N]) (by rfl) ?_ X (rows.length - A) (rows.length - A) (rows.drop A) (by rfl) HLD.out ?_ HL2.out ?_ ?_; (refine OwnS.call HO9.out ?_; focus ((repeat (first | refine Below.drew ?_ | refine bal2 ?_ | exact Below.refl _ _)); done)); (refine HDR.out _ (HRW.out _ (bthen HB9.out ?_)); focus ((repeat (first | refine Below.drew ?_ | refine bal2 ?_ | exact Below.refl _ _)); done)); (refine HSZ5.out _ (bthen HB9.out ?_); focus ((repeat (first | refine Below.drew ?_ | refine bal2 ?_ | exact Below.refl _ _)); done)); intro v10 w10 hown10 hg10; have HO10 := Lib.hid hown10; have HB10 := Lib.hid (HGR.out _ _ _ _ (bthen HB9.out (by (repeat (first | refine Below.drew ?_ | refine bal2 ?_ | exact Below.refl _ _)))) (OwnS.call HO9.out (by (repeat (first | refine Below.drew ?_ | refine bal2 ?_ | exact Below.refl _ _)))) hg10); clear hown10 hg10))
          all_goals
            go_wp2_with fail
            go_meet
            obtain ⟨p, q, e9, hs9⟩ := HO10.out.strs HSZM.out
            rw [HLM.out] at e9
            exact ⟨p, q, e9, hs9, HB10.out⟩
        case rest =>
        obtain ⟨p, q, rfl, hmore, hb6⟩ := hcut
        have HB6 := Lib.hid (bthen HB5.out hb6)
        have HMO := Lib.hid (fun W (h : Below wc.heap.size wc W) => hmore.call h)
        obtain ⟨J, hJ⟩ : ∃ J, bytesA (Lib.join ((rows.take A ++ [M ++ N] ++ rows.drop A).map (·.data.toList)) [10]) = J := ⟨_, rfl⟩
        have hJs : J.size ≤ 6100 := by
          rw [← hJ, bytesA_size]
          exact HJL.out
        have hJc : (J ++ ⟨#[10]⟩ : ByteArray).data.toList = Lib.join ((rows.take A ++ [M ++ N] ++ rows.drop A).map (·.data.toList)) [10] ++ [10] := by
          rw [← hJ]
          simp [ByteArray.data_append, bytesA]
        have HJO := Lib.hid (show ∀ W, HasStrs W p q (([] ++ rows.take A ++ [M ++ N]) ++ rows.drop A) → Calls Tryd.prog 23 #[.slice p (rows.length + 1) q, .string ⟨#[10]⟩] W fun e w' => e = .returned (.string J) ∧ Below W.heap.size W w' from fun W h => by
          have := join_any (([] ++ rows.take A ++ [M ++ N]) ++ rows.drop A) W p q h (by simp) HJL.out (by rw [HLM.out]; omega)
          rw [HLM.out] at this
          rw [← hJ]
          exact this)
        have HPT2 := Lib.hid (show ∀ W, Below w.heap.size w W → Calls Tryd.prog 17 #[.string (J ++ ⟨#[10]⟩)] W fun e w' => ∃ q : NdAt, q.n = L ∧ q.ok w' ∧ e = .returned (.tuple #[.agg (nCells q), .int .i64 EV, .int .i64 (bumpI A AT)]) ∧ Below W.heap.size W w' from fun W h => by
          have := HPT.out (J ++ ⟨#[10]⟩) W h
          rw [hJc, HPJ.out] at this
          exact this.mono fun e w' ⟨h1, q, h2, h3, h4⟩ => ⟨q, h2, h3, h4, h1⟩)
        have pst2 : ¬ 9223372036854775807 < J.size + 1 := by omega
        have pst3 : ¬ 9223372036854775807 < J.size + (⟨#[10]⟩ : ByteArray).size := by show ¬ 9223372036854775807 < J.size + 1; omega
        have hwA : IntKind.i64.wrap (AT + 1) = AT + 1 := IntWalk.i64_in _ (by omega)
        clear hmore hb6 hJ hJc hX e2 pst HPJ HJL HLM HSZM HGR HSZ5 HTL HLD HL0 HL1 HL2 HDR HPT HRW HRS HB5
        have HBW := Lib.hid HB6.out
        go_upto_region 8 with (go_at_call 17; (with_reducible refine (HPS.out _ HB6.out).mono ?_); rintro e w6 ⟨⟨n, na, nc, ia, ic⟩, hqn, hqo, rfl, hb7⟩)
        try dsimp only at hqn
        subst hqn
        have hB6 := Blk.new w6 25 #[.int .i64 n.kind, .string n.word, .slice na n.names.length nc, .slice ia n.items.length ic]
        have hb8 := below_al (o := .cells #[.int .i64 n.kind, .string n.word, .slice na n.names.length nc, .slice ia n.items.length ic] 25) (Below.refl w6.heap.size w6)
        have HQ6 := Lib.hid (hqo.call hb8)
        have HB8 := Lib.hid (bthen HB6.out (bthen hb7 hb8))
        have HM7 := Lib.hid (HMO.out _ (bthen hb7 hb8))
        generalize w6.alloc (.cells #[.int .i64 n.kind, .string n.word, .slice na n.names.length nc, .slice ia n.items.length ic] 25) = w7 at *
        obtain ⟨g9, hg9⟩ : ∃ g, w6.heap.size = g := ⟨_, rfl⟩
        rw [hg9] at hB6 ⊢
        clear hg9 hb7 hb8 hqo HMO HPS
        go_upto_region 9 with (first
          | (go_at_call 23; (with_reducible refine (HJO.out _ HM7.out).mono ?_); rintro e w8 ⟨rfl, hb9⟩)
          | (go_at_call 17; (with_reducible refine (HPT2.out _ (bthen HB8.out hb9)).mono ?_); rintro e w9 ⟨⟨m, ma, mc, ja, jc⟩, hqm, hqp, rfl, hb10⟩))
        try dsimp only at hqm
        subst hqm
        have hB9 := Blk.new w9 25 #[.int .i64 m.kind, .string m.word, .slice ma m.names.length mc, .slice ja m.items.length jc]
        have hb11 := below_al (o := .cells #[.int .i64 m.kind, .string m.word, .slice ma m.names.length mc, .slice ja m.items.length jc] 25) (Below.refl w9.heap.size w9)
        have HQ9 := Lib.hid (hqp.call hb11)
        have hb12 := bthen hb9 (bthen hb10 hb11)
        have HQ6b := Lib.hid (HQ6.out.call hb12)
        have hB6b := hB6.call hb12
        have HB12 := Lib.hid (bthen HB8.out hb12)
        generalize w9.alloc (.cells #[.int .i64 m.kind, .string m.word, .slice ma m.names.length mc, .slice ja m.items.length jc] 25) = w10 at *
        obtain ⟨g12, hg12⟩ : ∃ g, w9.heap.size = g := ⟨_, rfl⟩
        rw [hg12] at hB9 ⊢
        clear hg12 hb9 hb10 hb11 hb12 hqp hB6 HM7 HJO HPT2 HQ6 HB8
        have HLK := Lib.hid (show ∀ W, Below w10.heap.size w10 W → Calls Tryd.prog 15 #[.agg #[.int .i64 m.kind, .string m.word, .slice na m.names.length nc, .slice ia m.items.length ic], .agg #[.int .i64 m.kind, .string m.word, .slice ma m.names.length mc, .slice ja m.items.length jc]] W (BoolW true W) from fun W h => by
          have := rLikeN_any (HQ6b.out.call h) ⟨m, ma, mc, ja, jc⟩ W (HQ9.out.call h) (Below.refl _ _)
          rw [likeN_yes rfl] at this
          exact this)
        by_cases hb : (A : Int) < AT
        case pos =>
          rw [bump_yes hb]
          go_wp2_with (first
            | (go_at_call 10; (with_reducible refine (HAL.out _ HB12.out).mono ?_); rintro e w11 ⟨rfl, hb13⟩; obtain ⟨c0, c1, c2, c3⟩ := (hB6b.call hb13).cells4; obtain ⟨d0, d1, d2, d3⟩ := (hB9.call hb13).cells4)
            | (go_at_call 15; (with_reducible refine (HLK.out _ hb13).mono ?_); rintro e w12 ⟨rfl, hb14⟩))
          go_ret
          exact ⟨rfl, bthen HB12.out (bthen hb13 hb14)⟩
        case neg =>
          rw [bump_no hb]
          clear hwA
          go_wp2_with (first
            | (go_at_call 10; (with_reducible refine (HAL.out _ HB12.out).mono ?_); rintro e w11 ⟨rfl, hb13⟩; obtain ⟨c0, c1, c2, c3⟩ := (hB6b.call hb13).cells4; obtain ⟨d0, d1, d2, d3⟩ := (hB9.call hb13).cells4)
            | (go_at_call 15; (with_reducible refine (HLK.out _ hb13).mono ?_); rintro e w12 ⟨rfl, hb14⟩))
          go_ret
          exact ⟨rfl, bthen HB12.out (bthen hb13 hb14)⟩
end Go.Proofs.YtolbhhokpelchaaDoor
