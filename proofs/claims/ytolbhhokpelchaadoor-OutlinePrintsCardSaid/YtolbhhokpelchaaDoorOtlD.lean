/- The contract of outline.readFlat. -/
import Derived.Test.YtolbhhokpelchaaDoorOtlC
namespace Go.Proofs.YtolbhhokpelchaaDoor
open Go.RowKit

theorem eqRow (s : ByteArray) (h : s ≠ ⟨#[91, 93]⟩) : (s.toList == [91, 93]) = false := by
  have e : ByteArray.toList ⟨#[91, 93]⟩ = [91, 93] := by rw [ByteArray.toList_eq]
  rw [← e, strEq]
  exact decide_eq_false h
theorem eqMap (s : ByteArray) (h : s ≠ ⟨#[123, 125]⟩) : (s.toList == [123, 125]) = false := by
  have e : ByteArray.toList ⟨#[123, 125]⟩ = [123, 125] := by rw [ByteArray.toList_eq]
  rw [← e, strEq]
  exact decide_eq_false h
set_option maxHeartbeats 3200000 in
set_option maxRecDepth 100000 in
theorem readFlat_any (s : ByteArray) (w : World) (hs : s.size ≤ 1000000) :
    Calls Tryd.prog 82 #[.string s] w (FlatP (flatI s.data.toList) w) := by
  have h1 := fun W => oCutPre_any s ⟨#[32]⟩ W
  rw [show (⟨#[32]⟩ : ByteArray).data.toList = [32] from rfl] at h1
  obtain ⟨B, hB⟩ : ∃ B, Lib.hasPrefix s.data.toList [32] = B := ⟨_, rfl⟩
  obtain ⟨T, hT⟩ : ∃ T, bytesA (Lib.trimPrefix s.data.toList [32]) = T := ⟨_, rfl⟩
  have hTl : Lib.trimPrefix s.data.toList [32] = T.data.toList := by rw [← hT]; rfl
  have hTs : T.size ≤ 1000000 := by
    rw [← hT, bA_size]
    have := trimPre_le s.data.toList [32]
    rw [lenB] at this
    omega
  have h2 := fun W => unquoted_any T W hTs
  obtain ⟨U, hU⟩ : ∃ U, bytesA (unqS T.data.toList) = U := ⟨_, rfl⟩
  have hUl : unqS T.data.toList = U.data.toList := by rw [← hU]; rfl
  have hTT : T.data.toList = [91, 93] ↔ T = ⟨#[91, 93]⟩ := ⟨fun h => bytes_ext h, fun h => by rw [h]⟩
  have hTM : T.data.toList = [123, 125] ↔ T = ⟨#[123, 125]⟩ := ⟨fun h => bytes_ext h, fun h => by rw [h]⟩
  obtain ⟨R, hR⟩ : ∃ R, flatI s.data.toList = R := ⟨_, rfl⟩
  have hRB : R = if B then (if T = ⟨#[91, 93]⟩ then some (.mk 2 ⟨#[]⟩ [] []) else if T = ⟨#[123, 125]⟩ then some (.mk 3 ⟨#[]⟩ [] []) else if owC U.data.toList && decide (wordT U = T) then some (.mk 1 U [] []) else none) else none := by
    rw [← hR, flatI, hB, hTl, hUl, bA_of, bA_of]
    simp only [hTT, hTM]
  have hUs : U.size ≤ 1000000 := by
    rw [← hU, bA_size]
    have : (unqS T.data.toList).length ≤ T.data.toList.length := by
      unfold unqS
      split
      · have h1 := unqL_len (withinQ T.data.toList)
        have h2 := trimSuf_le (Lib.trimPrefix T.data.toList [34]) [34]
        have h3 := trimPre_le T.data.toList [34]
        unfold withinQ at h1 ⊢
        omega
      · exact Nat.le_refl _
    rw [lenB] at this
    omega
  have h3 := fun W => oWord_any U W (by unfold maxLen; omega)
  have h4 := fun W => flat_any ⟨.mk 1 U [] [], none, 0, none, 0⟩ W hUs
  rw [show flatT (NdAt.n ⟨.mk 1 U [] [], none, 0, none, 0⟩) = wordT U from rfl] at h4
  simp only [nCells, Nd.kind, Nd.word, Nd.names, Nd.items, List.length_nil] at h4
  obtain ⟨O, hO⟩ : ∃ O, owC U.data.toList = O := ⟨_, rfl⟩
  obtain ⟨X, hX⟩ : ∃ X, wordT U = X := ⟨_, rfl⟩
  rw [hB, hT] at h1
  rw [hU] at h2
  rw [hO] at h3 hRB
  rw [hX] at h4 hRB
  rw [hR]
  have H1 := Lib.hid h1
  have H2 := Lib.hid h2
  have H3 := Lib.hid h3
  have H4 := Lib.hid h4
  have HRB := Lib.hid hRB
  clear h1 h2 h3 h4 hRB hB hT hU hO hX hR hTl hUl hTT hTM hTs hUs
  have hk0 := Blk.new w 25 #[.int .i64 0, .string ⟨#[]⟩, .slice none 0 0, .slice none 0 0]
  have hb0 := (Below.refl w.heap.size w).alloc (Nat.le_refl _) (.cells #[.int .i64 0, .string ⟨#[]⟩, .slice none 0 0, .slice none 0 0] 25)
  go_enter Tryd.func82, Tryd.ntmps82
  go_upto_region 1 with fail
  generalize w.alloc (.cells #[.int .i64 0, .string ⟨#[]⟩, .slice none 0 0, .slice none 0 0] 25) = wx at *
  obtain ⟨g, hg⟩ : ∃ g, w.heap.size = g := ⟨_, rfl⟩
  have HG := Lib.hid hg
  rw [hg] at hk0 ⊢
  have HB0 : Hid (Below w.heap.size w wx) := Lib.hid hb0
  clear hg hb0
  cases B with
  | false =>
    obtain rfl : R = none := HRB.out
    go_wp2_with (first
      | (go_at_call 80; refine (H1.out _).mono ?_; rintro e w2 ⟨rfl, rfl⟩)
      | (go_at_call 59; refine (must_not _).mono ?_; rintro e w2 ⟨rfl, rfl⟩))
    simp only [bodyPost]
    exact ⟨trivial, HB0.out, rfl⟩
  | true =>
    have HR2 : Hid (R = (if T = ⟨#[91, 93]⟩ then some (.mk 2 ⟨#[]⟩ [] []) else if T = ⟨#[123, 125]⟩ then some (.mk 3 ⟨#[]⟩ [] []) else if O && decide (X = T) then some (.mk 1 U [] []) else none)) := Lib.hid (by rw [HRB.out]; rfl)
    clear HRB
    go_upto_region 4 with (first
      | (go_at_call 80; refine (H1.out _).mono ?_; rintro e w2 ⟨rfl, rfl⟩)
      | (go_at_call 59; refine (must_ok _).mono ?_; rintro e w2 ⟨rfl, rfl⟩))
    obtain ⟨c0, c1, c2, c3⟩ := hk0.cells4
    have f0 := hk0.frozen 0
    have f1 := hk0.frozen 1
    have f2 := hk0.frozen 2
    have f3 := hk0.frozen 3
    by_cases hT1 : T = ⟨#[91, 93]⟩
    · subst hT1
      obtain rfl : R = some (.mk 2 ⟨#[]⟩ [] []) := by rw [HR2.out, if_pos rfl]
      go_wp2_with fail
      refine bodyPost_ret (v := .agg #[.int .i64 2, .string ⟨#[]⟩, .slice none 0 0, .slice none 0 0]) ?_ rfl ⟨below_set4N HB0.out (Nat.le_of_eq HG.out) _ _ _ _, rfl⟩
      exact results_cellN rfl _ _ g _ #[.int .i64 2, .string ⟨#[]⟩, .slice none 0 0, .slice none 0 0] _ _ rfl (hk0.set4N _ _ _ _) Tryd.underlying25 rfl (by kernel_rfl)
    have d1 := eqRow T hT1
    by_cases hT2 : T = ⟨#[123, 125]⟩
    · subst hT2
      obtain rfl : R = some (.mk 3 ⟨#[]⟩ [] []) := by rw [HR2.out, if_neg hT1, if_pos rfl]
      go_wp2_with fail
      refine bodyPost_ret (v := .agg #[.int .i64 3, .string ⟨#[]⟩, .slice none 0 0, .slice none 0 0]) ?_ rfl ⟨below_set4N HB0.out (Nat.le_of_eq HG.out) _ _ _ _, rfl⟩
      exact results_cellN rfl _ _ g _ #[.int .i64 3, .string ⟨#[]⟩, .slice none 0 0, .slice none 0 0] _ _ rfl (hk0.set4N _ _ _ _) Tryd.underlying25 rfl (by kernel_rfl)
    have d2 := eqMap T hT2
    have HR3 : Hid (R = if O && decide (X = T) then some (.mk 1 U [] []) else none) := Lib.hid (by rw [HR2.out, if_neg hT1, if_neg hT2])
    clear HR2 hT1 hT2 c0 c1 c2 c3 f0 f1 f2 f3
    go_upto_region 9 with (go_at_call 99; refine (H2.out _).mono ?_; rintro e w3 ⟨rfl, hb3⟩)
    have hk3 := (hk0.call hb3).alloc (.cells #[.int .i64 1, .string U, .slice none 0 0, .slice none 0 0] 25)
    have hn3 := Blk.new w3 25 #[.int .i64 1, .string U, .slice none 0 0, .slice none 0 0]
    have hb4 := (bthen HB0.out hb3).alloc (by rw [HG.out]; exact Nat.le_of_lt ((hk0.call hb3).lt)) (.cells #[.int .i64 1, .string U, .slice none 0 0, .slice none 0 0] 25)
    generalize w3.alloc (.cells #[.int .i64 1, .string U, .slice none 0 0, .slice none 0 0] 25) = w4 at *
    generalize w3.heap.size = h at *
    clear hb3 hk0
    obtain ⟨n0, n1, n2, n3⟩ := hn3.cells4
    have HB4 := Lib.hid hb4
    clear hb4
    cases O with
    | false =>
      obtain rfl : R = none := HR3.out
      go_wp2_with (first
        | (go_at_call 71; refine (H3.out _).mono ?_; rintro e w5 ⟨rfl, rfl⟩)
        | (go_at_call 59; refine (must_not _).mono ?_; rintro e w2 ⟨rfl, rfl⟩))
      simp only [bodyPost]
      exact ⟨trivial, HB4.out, rfl⟩
    | true =>
      by_cases hXT : X = T
      · have hx := strEq X T
        rw [decide_eq_true hXT] at hx
        obtain rfl : R = some (.mk 1 U [] []) := by rw [HR3.out, decide_eq_true hXT]; rfl
        clear hXT HR3
        go_upto_region 10 with (first
          | (go_at_call 71; refine (H3.out _).mono ?_; rintro e w5 ⟨rfl, rfl⟩)
          | (go_at_call 70; refine (H4.out _).mono ?_; rintro e w6 ⟨rfl, hb6⟩)
          | (go_at_call 59; refine (must_ok _).mono ?_; rintro e w2 ⟨rfl, rfl⟩))
        clear n0 n1 n2 n3
        have hk6 := hk3.call hb6
        obtain ⟨n0, n1, n2, n3⟩ := (hn3.call hb6).cells4
        obtain ⟨c0, c1, c2, c3⟩ := hk6.cells4
        have f0 := hk6.frozen 0
        have f1 := hk6.frozen 1
        have f2 := hk6.frozen 2
        have f3 := hk6.frozen 3
        have hb7 := bthen HB4.out hb6
        go_wp2_with fail
        refine bodyPost_ret (v := .agg #[.int .i64 1, .string U, .slice none 0 0, .slice none 0 0]) ?_ rfl ⟨below_set4N hb7 (Nat.le_of_eq HG.out) _ _ _ _, rfl⟩
        exact results_cellN rfl _ _ g _ #[.int .i64 1, .string U, .slice none 0 0, .slice none 0 0] _ _ rfl (hk6.set4N _ _ _ _) Tryd.underlying25 rfl (by kernel_rfl)
      · have hx := strEq X T
        rw [decide_eq_false hXT] at hx
        obtain rfl : R = none := by rw [HR3.out, decide_eq_false hXT]; rfl
        clear hXT HR3
        go_wp2_with (first
          | (go_at_call 71; refine (H3.out _).mono ?_; rintro e w5 ⟨rfl, rfl⟩)
          | (go_at_call 70; refine (H4.out _).mono ?_; rintro e w6 ⟨rfl, hb6⟩)
          | (go_at_call 59; refine (must_not _).mono ?_; rintro e w2 ⟨rfl, rfl⟩))
        simp only [bodyPost]
        exact ⟨trivial, bthen HB4.out hb6, rfl⟩
end Go.Proofs.YtolbhhokpelchaaDoor
