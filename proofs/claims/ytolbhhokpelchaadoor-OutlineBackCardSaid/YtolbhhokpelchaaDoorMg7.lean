/- Bytes and lists of bytes: small facts. Mathematics alone. -/
import Derived.Test.YtolbhhokpelchaaDoorMg1
import Derived.Test.YtolbhhokpelchaaDoorBlkG
import Derived.Test.YtolbhhokpelchaaDoorStrs
import Derived.Lib.IndexLaws
import Derived.Test.YtolbhhokpelchaaDoorMaxC
import Derived.Test.YtolbhhokpelchaaDoorShelf
import Derived.Test.YtolbhhokpelchaaDoorZOtbM
import Derived.Test.YtolbhhokpelchaaDoorSlcS
namespace Go.Proofs.YtolbhhokpelchaaDoor

theorem bytesA_list (l : Bs) : (bytesA l).data.toList = l := rfl
theorem bytesA_size (l : Bs) : (bytesA l).size = l.length := List.size_toArray
theorem bytesA_of (s : ByteArray) : bytesA s.data.toList = s := bytes_ext rfl
theorem leftT_len (l : Bs) : (leftT l).length ≤ l.length := (List.dropWhile_suffix _).length_le
theorem trimSuf_len (l p : Bs) : (Lib.trimSuffix l p).length ≤ l.length := by
  unfold Lib.trimSuffix
  split
  · rw [List.length_take]; omega
  · exact Nat.le_refl _
theorem trimPre_len (l p : Bs) : (Lib.trimPrefix l p).length ≤ l.length := by
  unfold Lib.trimPrefix
  split
  · rw [List.length_drop]; omega
  · exact Nat.le_refl _
end Go.Proofs.YtolbhhokpelchaaDoor
/- A text that is split at its bytes 10: the library's cut and the lines are the same. -/
namespace Go.Proofs.YtolbhhokpelchaaDoor
open Go.RowKit

theorem splitK_lines (sv : Nat) (hsv : sv ≤ 1) : ∀ (k : Nat) (s : Bs), s.count 10 = k → Lib.splitK [10] sv k s = (linesB s).1.map (fun l => l ++ ([10] : Bs).take sv) ++ [(linesB s).2]
  | 0, s, h => by
    rw [linesB_plain s (fun c hc e => by subst e; exact absurd (List.count_pos_iff.2 hc) (by omega))]
    rfl
  | k + 1, s, h => by
    have hm : (10 : UInt8) ∈ s := List.count_pos_iff.1 (by omega)
    have hix : ∃ i : Nat, Lib.indexByte s 10 = i := by
      have h1 := Lib.indexByte_ge s 10
      rcases (by omega : Lib.indexByte s 10 = -1 ∨ 0 ≤ Lib.indexByte s 10) with e | e
      · obtain ⟨j, hj, e2⟩ := List.getElem_of_mem hm
        exact absurd (by rw [List.getElem?_eq_getElem hj, e2]) (Lib.indexByte_none e j)
      · exact ⟨(Lib.indexByte s 10).toNat, by omega⟩
    obtain ⟨i, hi⟩ := hix
    obtain ⟨h1, h2⟩ := Lib.indexByte_some hi
    obtain ⟨hil, hie⟩ := List.getElem?_eq_some_iff.1 h1
    have hsplit : s = s.take i ++ 10 :: s.drop (i + 1) := by
      conv => lhs; rw [← List.take_append_drop i s]
      rw [List.drop_eq_getElem_cons hil, hie]
    have ha : ∀ c ∈ s.take i, c ≠ 10 := by
      intro c hc e
      subst e
      obtain ⟨j, hj, e2⟩ := List.getElem_of_mem hc
      have hji : j < i := by rw [List.length_take] at hj; omega
      refine h2 j hji ?_
      rw [List.getElem?_eq_getElem (by omega)]
      rw [List.getElem_take] at e2
      rw [e2]
    have hc : (s.drop (i + 1)).count 10 = k := by
      rw [hsplit, List.count_append, List.count_cons_self] at h
      have : (s.take i).count 10 = 0 := List.count_eq_zero.2 (fun hm => ha 10 hm rfl)
      omega
    have ih := splitK_lines sv hsv k (s.drop (i + 1)) hc
    have hidx : Lib.index s [10] = (i : Int) := by rw [Lib.index_one, hi]
    unfold Lib.splitK
    rw [if_neg (by rw [hidx]; simp), hidx]
    simp only [Int.toNat_natCast, List.length_singleton]
    rw [ih]
    have e2 : linesB s = (s.take i :: (linesB (s.drop (i + 1))).1, (linesB (s.drop (i + 1))).2) := by
      conv => lhs; rw [hsplit]
      exact linesB_cut _ _ ha
    have e3 : s.take (i + sv) = s.take i ++ ([10] : Bs).take sv := by
      rcases (by omega : sv = 0 ∨ sv = 1) with rfl | rfl
      · simp
      · rw [List.take_succ_eq_append_getElem hil, hie]; rfl
    rw [e2, e3]
    rfl

/-- a text's pieces, each ended line with what ends it, or without -/
def piecesB (sv : Nat) (s : ByteArray) : List ByteArray := ((linesB s.data.toList).1.map fun l => bytesA (l ++ ([10] : Bs).take sv)) ++ [bytesA (linesB s.data.toList).2]
theorem splitB_lines (sv : Nat) (hsv : sv ≤ 1) (s : ByteArray) : Lib.splitB ⟨#[10]⟩ sv (s.data.toList.count 10) s = piecesB sv s := by
  have h := Lib.splitB_data ⟨#[10]⟩ sv (s.data.toList.count 10) s
  rw [show (⟨#[10]⟩ : ByteArray).data.toList = [10] from rfl, splitK_lines sv hsv _ _ rfl] at h
  have h2 : (piecesB sv s).map (·.data.toList) = (linesB s.data.toList).1.map (fun l => l ++ ([10] : Bs).take sv) ++ [(linesB s.data.toList).2] := by
    unfold piecesB
    rw [List.map_append, List.map_map]
    rfl
  rw [← h2] at h
  have inj : ∀ (a b : List ByteArray), a.map (·.data.toList) = b.map (·.data.toList) → a = b := by
    intro a
    induction a with
    | nil => intro b e; cases b with | nil => rfl | cons _ _ => cases e
    | cons x a ih =>
      intro b e
      cases b with
      | nil => cases e
      | cons y b =>
        simp only [List.map_cons, List.cons.injEq] at e
        rw [bytes_ext e.1, ih b e.2]
  exact inj _ _ h
theorem pieces_len (sv : Nat) (s : ByteArray) : (piecesB sv s).length = (linesB s.data.toList).1.length + 1 := by simp [piecesB]
theorem lines_len : ∀ (s : Bs), (∀ l ∈ (linesB s).1, l.length + 1 ≤ s.length) ∧ (linesB s).2.length ≤ s.length ∧ (linesB s).1.length = s.count 10 := by
  intro s
  obtain ⟨t, rfl⟩ : ∃ t : Bs, s = t.reverse := ⟨s.reverse, by simp⟩
  induction t with
  | nil => exact ⟨(fun l hl => by cases hl), Nat.le_refl _, rfl⟩
  | cons c s ih =>
    obtain ⟨h1, h2, h3⟩ := ih
    rw [List.reverse_cons, linesB_snoc]
    unfold lnStep
    by_cases hc : c = 10
    · rw [if_pos hc]
      refine ⟨fun l hl => ?_, by simp, by simp [h3, hc]⟩
      rw [List.mem_append, List.mem_singleton] at hl
      rcases hl with hl | rfl
      · have := h1 l hl; simp at this ⊢; omega
      · simp at h2 ⊢; omega
    · rw [if_neg hc]
      refine ⟨fun l hl => ?_, by simp at h2 ⊢; omega, by rw [h3, List.count_append]; simp [hc]⟩
      have := h1 l hl; simp at this ⊢; omega
theorem hasStrs_row (W : World) (ss : List ByteArray) (T : TypeId) (h : ∀ s ∈ ss, s.size ≤ maxLen) (hl : ss.length ≤ maxLen) : HasStrs (W.alloc (.cells (ss.map Value.string).toArray T)) (some ⟨W.heap.size, 0, none⟩) ss.length ss := by
  refine ⟨Nat.le_refl _, hl, h, .inr ⟨W.heap.size, 0, rfl, by simp, fun i hi => ?_⟩⟩
  rw [Nat.zero_add, World.cell?_alloc_mark W _ T (0, 0) i]
  simp [hi]
theorem pieces_size (sv : Nat) (hsv : sv ≤ 1) (s : ByteArray) : ∀ x ∈ piecesB sv s, x.size ≤ s.size := by
  intro x hx
  obtain ⟨h1, h2, _⟩ := lines_len s.data.toList
  rw [lenB] at h1 h2
  unfold piecesB at hx
  rw [List.mem_append, List.mem_singleton] at hx
  rcases hx with hx | rfl
  · obtain ⟨l, hl, rfl⟩ := List.mem_map.1 hx
    have := h1 l hl
    have e : (bytesA (l ++ ([10] : Bs).take sv)).size = (l ++ ([10] : Bs).take sv).length := bytesA_size _
    rw [e, List.length_append]
    have : (([10] : Bs).take sv).length ≤ 1 := by rw [List.length_take]; simp; omega
    omega
  · have e : (bytesA (linesB s.data.toList).2).size = (linesB s.data.toList).2.length := bytesA_size _
    omega
end Go.Proofs.YtolbhhokpelchaaDoor
/- The contracts of the library's Split and TrimSuffix at the byte 10. -/
namespace Go.Proofs.YtolbhhokpelchaaDoor
open Go.RowKit

theorem split_any (s : ByteArray) (w : World) (hm : MaxC w) (hs : s.size < 4294967281) : Calls Tryd.prog 18 #[.string s, .string ⟨#[10]⟩] w fun e w' => e = .returned (.slice (some ⟨w.heap.size, 0, none⟩) (piecesB 0 s).length (piecesB 0 s).length) ∧ w.alloc (.cells ((piecesB 0 s).map Value.string).toArray 9) = w' := by
  obtain ⟨m, hm⟩ := hm
  have hc : Lib.countB s ⟨#[10]⟩ = s.data.toList.count 10 := by
    show Lib.count s.data.toList [10] = _
    exact Lib.count_one _ _
  have h := Tryd.strings_Split s ⟨#[10]⟩ m w hs hm (by decide)
  rw [hc, splitB_lines 0 (by decide)] at h
  have hl : s.data.toList.count 10 + 1 = (piecesB 0 s).length := by rw [pieces_len, (lines_len _).2.2]
  rw [hl] at h
  exact h.mono fun _ _ h => ⟨h.1, h.2.symm⟩
theorem trimSuf_any (s p : ByteArray) (w : World) (hs : s.size ≤ maxLen) : Calls Tryd.prog 19 #[.string s, .string p] w fun e w' => e = .returned (.string (bytesA (Lib.trimSuffix s.data.toList p.data.toList))) ∧ w = w' :=
  (Tryd.strings_TrimSuffix s p w (by unfold maxLen at hs; omega)).mono fun _ _ h => ⟨h.1, h.2.symm⟩
end Go.Proofs.YtolbhhokpelchaaDoor
/- The contract of the document's own Blank of layer 5; what the statement OutlineBack asks. -/
namespace Go.Proofs.YtolbhhokpelchaaDoor
open Go.RowKit

/-- whether a line is left out -/
def blankN (l : Bs) : Bool := (tokR l).isNone
theorem blankN_said (l : Bs) : blankN l = match saidT l with | [] => true | c :: _ => decide (c = 35) := by
  unfold blankN tokR
  cases saidT l with
  | nil => rfl
  | cons c s =>
    simp only
    by_cases h : c = 35
    · simp [h]
    · simp [h]
theorem blankN_at : ∀ l : Bs, (∀ i (h : i < l.length), l[i] = 32) ∧ blankN l = true ∨ ∃ j, ∃ h : j < l.length, l[j] ≠ 32 ∧ (∀ i (hi : i < j), (l[i]'(by omega)) = 32) ∧ blankN l = decide (l[j] = 35)
  | [] => .inl ⟨fun i h => by simp at h, rfl⟩
  | c :: l => by
    by_cases hc : c = 32
    · have e : blankN (c :: l) = blankN l := by
        rw [blankN_said, blankN_said]
        have : saidT (c :: l) = saidT l := by unfold saidT Lib.trimLeftB; rw [List.dropWhile_cons_of_pos (by simp [hc])]
        rw [this]
      rcases blankN_at l with ⟨h1, h2⟩ | ⟨j, hj, h1, h2, h3⟩
      · refine .inl ⟨fun i h => ?_, by rw [e, h2]⟩
        cases i with
        | zero => exact hc
        | succ i => exact h1 i (by simpa using h)
      · refine .inr ⟨j + 1, by simpa using hj, h1, fun i hi => ?_, by rw [e, h3]; rfl⟩
        cases i with
        | zero => exact hc
        | succ i => exact h2 i (by omega)
    · refine .inr ⟨0, by simp, hc, fun i hi => absurd hi (Nat.not_lt_zero _), ?_⟩
      rw [blankN_said]
      have : saidT (c :: l) = c :: l := by unfold saidT Lib.trimLeftB; rw [List.dropWhile_cons_of_neg (by simp [hc])]
      rw [this]
      rfl
theorem u8eq (c k : UInt8) : c = k ↔ c.toNat = k.toNat := ⟨fun e => by rw [e], fun e => UInt8.toNat_inj.1 e⟩
theorem blankN_atB (s : ByteArray) : (∀ k (h : k < s.size), s[k].toNat = 32) ∧ blankN s.data.toList = true ∨ ∃ j, ∃ hj : j < s.size, s[j].toNat ≠ 32 ∧ (∀ k (h : k < j), (s[k]'(Nat.lt_trans h hj)).toNat = 32) ∧ blankN s.data.toList = decide (s[j].toNat = 35) := by
  have hl := lenB s
  rcases blankN_at s.data.toList with ⟨h1, h2⟩ | ⟨j, hj, h1, h2, h3⟩
  · exact .inl ⟨fun k h => (u8eq _ 32).1 (h1 k (by rw [hl]; exact h)), h2⟩
  · exact .inr ⟨j, by rw [← hl]; exact hj, fun e => h1 ((u8eq _ 32).2 e), fun k h => (u8eq _ 32).1 (h2 k h), by rw [h3]; exact decide_eq_decide.2 (u8eq _ 35)⟩

set_option maxHeartbeats 1600000 in
theorem rBlankN_any (s : ByteArray) (w : World) (hs : s.size ≤ maxLen) : Calls Tryd.prog 20 #[.string s] w (BoolS (blankN s.data.toList) w) := by
  unfold maxLen at hs
  rcases blankN_atB s with ⟨h1, h2⟩ | ⟨j, hjs, h1, h2, h3⟩
  · have HA := Lib.hid h1
    rw [h2]
    clear h1 h2
    go_enter Tryd.func20, Tryd.ntmps20
    go_wp2
    go_loop [3] (fun i => ∃ k : Nat, k ≤ s.size ∧ i = .int .i64 k) (fun i => s.size - (intOf i).toNat)
    case atStart => exact ⟨0, Nat.zero_le _, rfl⟩
    case round =>
      obtain ⟨k, hk, rfl⟩ := hrel
      by_cases hkl : k < s.size
      · have f1 : ((s[k].toNat : Int) != 32) = false := by rw [HA.out k hkl]; rfl
        go_wp2
        go_round
        case rel => exact ⟨k + 1, by omega, by go_num⟩
        case measure => simp [intOf]; omega
      · go_wp2
        go_ret
        exact ⟨rfl, rfl⟩
  · have HA := Lib.hid h2
    have HB := Lib.hid h1
    obtain ⟨R, hR⟩ : ∃ R, blankN s.data.toList = R := ⟨_, rfl⟩
    rw [hR] at h3 ⊢
    have H3 := Lib.hid h3
    clear h1 h2 h3 hR
    go_enter Tryd.func20, Tryd.ntmps20
    go_wp2
    go_loop [3] (fun i => ∃ k : Nat, k ≤ j ∧ i = .int .i64 k) (fun i => s.size - (intOf i).toNat)
    case atStart => exact ⟨0, Nat.zero_le _, rfl⟩
    case round =>
      obtain ⟨k, hk, rfl⟩ := hrel
      by_cases hkl : k = j
      · subst hkl
        have f1 : ((s[k].toNat : Int) != 32) = true := bne_iff_ne.2 (by have := HB.out; omega)
        have f2 : ((s[k].toNat : Int) == 35) = R := by
          rw [H3.out]
          by_cases h : s[k].toNat = 35
          · rw [h]; rfl
          · rw [decide_eq_false h]; exact beq_eq_false_iff_ne.2 (by omega)
        clear hk
        go_wp2
        go_ret
        exact ⟨rfl, rfl⟩
      · have hkj : k < j := by omega
        have hks : k < s.size := by omega
        have f1 : ((s[k].toNat : Int) != 32) = false := by rw [HA.out k hkj]; rfl
        go_wp2
        go_round
        case rel => exact ⟨k + 1, by omega, by go_num⟩
        case measure => simp [intOf]; omega
/-- what the statement asks of a text that is parsed -/
theorem back_facts (S : ByteArray) (N : Nd) (at_ : Int) (h : parseN S.data.toList = (N, 0, at_)) :
    nodeC N = true ∧ printE N = 0 ∧ ∃ rows : List ByteArray, piecesB 0 (bytesA (Lib.trimSuffix S.data.toList [10])) = rows ∧ (∀ x ∈ rows, x.size ≤ 8200) ∧ rows.length ≤ 8200 ∧
      ∃ J, J ≤ rows.length ∧ (∀ k (_h : k < rows.length), k < J → blankN rows[k].data.toList = false) ∧ (J = rows.length ∧ printS N = S ∨ ∃ _h : J < rows.length, blankN rows[J].data.toList = true ∧ (printS N).size < S.size) := by
  obtain ⟨h1, h2, h3, h4, h5⟩ := parse_back_N h
  have hne : S.data.toList ≠ [] := fun e => by
    rw [e] at h
    have h6 : parseN [] = (noNd, 250, 1) := by rfl
    rw [h6] at h
    cases h
  have hrows := rows_of hne h4
  have hp : piecesB 0 (bytesA (Lib.trimSuffix S.data.toList [10])) = (linesB S.data.toList).1.map bytesA := by
    rw [← hrows]
    unfold piecesB
    rw [bytesA_list]
    simp
  obtain ⟨hle, hlt⟩ := unL_len_le (linesB S.data.toList).1 (fun l => (tokR l).isSome)
  have hnb : nbL (linesB S.data.toList).1 = (linesB S.data.toList).1.filter (fun l => (tokR l).isSome) := rfl
  rw [← hnb, ← h4] at hle hlt
  have hE : printE N = 0 := by
    unfold printE
    rw [if_neg (by rw [h1]; simp [h2]), h3, if_pos (by omega)]
  obtain ⟨_, _, _, hS⟩ := printE_ok hE
  rw [h3] at hS
  obtain ⟨hl1, _, hl3⟩ := lines_len S.data.toList
  refine ⟨h1, hE, (linesB S.data.toList).1.map bytesA, hp, fun x hx => ?_, ?_, ?_⟩
  · obtain ⟨l, hl, rfl⟩ := List.mem_map.1 hx
    have := hl1 l hl
    rw [bytesA_size]
    omega
  · rw [List.length_map, hl3]
    have : S.data.toList.count 10 ≤ S.data.toList.length := List.count_le_length
    omega
  · by_cases hb : ∃ l ∈ (linesB S.data.toList).1, (tokR l).isSome = false
    · have hsz : (printS N).size < S.size := by
        rw [hS, bytesA_size, ← lenB S]
        exact hlt hb
      have hex : ∃ j, ∃ h : j < (linesB S.data.toList).1.length, blankN (linesB S.data.toList).1[j] = true := by
        obtain ⟨l, hl, e⟩ := hb
        obtain ⟨j, hj, e2⟩ := List.getElem_of_mem hl
        refine ⟨j, hj, ?_⟩
        rw [e2]
        unfold blankN
        cases h : tokR l with
        | none => rfl
        | some o => rw [h] at e; cases e
      have hmin : ∃ j, ∃ h : j < (linesB S.data.toList).1.length, blankN (linesB S.data.toList).1[j] = true ∧ ∀ k (hk : k < j), blankN ((linesB S.data.toList).1[k]'(by omega)) = false := by
        obtain ⟨j, hj⟩ := hex
        induction j using Nat.strongRecOn with
        | _ j ih =>
          by_cases hk : ∃ k, k < j ∧ ∃ h : k < (linesB S.data.toList).1.length, blankN (linesB S.data.toList).1[k] = true
          · obtain ⟨k, hkj, hh⟩ := hk
            exact ih k hkj hh
          · obtain ⟨hjl, hjb⟩ := hj
            refine ⟨j, hjl, hjb, fun k hkj => ?_⟩
            rw [← Bool.not_eq_true]
            exact fun e => hk ⟨k, hkj, by omega, e⟩
      obtain ⟨j, hj, hjb, hjk⟩ := hmin
      refine ⟨j, by rw [List.length_map]; omega, fun k hk hkj => ?_, .inr ⟨by rw [List.length_map]; exact hj, ?_, hsz⟩⟩
      · rw [List.getElem_map]
        exact hjk k hkj
      · rw [List.getElem_map]
        exact hjb
    · have hall : ∀ l ∈ (linesB S.data.toList).1, (tokR l).isSome = true := fun l hl => by
        cases h : (tokR l).isSome with
        | true => rfl
        | false => exact absurd ⟨l, hl, h⟩ hb
      refine ⟨((linesB S.data.toList).1.map bytesA).length, Nat.le_refl _, fun k hk _ => ?_, .inl ⟨rfl, ?_⟩⟩
      · rw [List.getElem_map]
        have hkl : k < (linesB S.data.toList).1.length := by rw [List.length_map] at hk; exact hk
        have := hall _ (List.getElem_mem hkl)
        show (tokR (linesB S.data.toList).1[k]).isNone = false
        cases h : tokR (linesB S.data.toList).1[k] with
        | none => rw [h] at this; cases this
        | some o => rfl
      · rw [hS, hnb, List.filter_eq_self.2 hall, ← h4]
        exact bytesA_self S
end Go.Proofs.YtolbhhokpelchaaDoor
