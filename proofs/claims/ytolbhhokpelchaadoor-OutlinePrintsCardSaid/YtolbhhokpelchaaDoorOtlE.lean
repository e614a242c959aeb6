/- The contract of outline.readItem. -/
import Derived.Test.YtolbhhokpelchaaDoorOtlD
import Derived.Test.YtolbhhokpelchaaDoorMaxC
namespace Go.Proofs.YtolbhhokpelchaaDoor
open Go.RowKit

abbrev iCells (x : It) : Array Value := #[.int .i64 x.deep, .int .i64 x.kind, .string x.name, .int .i64 x.node.kind, .string x.node.word, .slice none 0 0, .slice none 0 0]
abbrev zCells : Array Value := #[.int .i64 0, .int .i64 0, .string ⟨#[]⟩, .int .i64 0, .string ⟨#[]⟩, .slice none 0 0, .slice none 0 0]
/-- what readItem answers -/
def ItemP (o : Option It) (w : World) (e : Ending) (w' : World) : Prop :=
  Below w.heap.size w w' ∧ match o with
    | some x => e = .returned (.agg (iCells x))
    | none => e = .panicked [lineP]
theorem drawnB {B : Nat} {w W : World} (h : Below B w W) (n : Nat) : Below B w (W.drewN n) := h.trans ⟨rfl, rfl, rfl, Nat.le_refl _, fun _ _ => rfl⟩
theorem oCut_any (s p : ByteArray) (w : World) (hm : MaxC w) (hs : s.size ≤ 1000000) : Calls Tryd.prog 61 #[.string s, .string p] w fun e w' => e = .returned (.tuple #[.string (bytesA (Lib.cut s.data.toList p.data.toList).1), .string (bytesA (Lib.cut s.data.toList p.data.toList).2.1), .bool (Lib.cut s.data.toList p.data.toList).2.2]) ∧ Below w.heap.size w w' := by
  obtain ⟨m, hm⟩ := hm
  exact (Tryd.strings_Cut s p m w (by omega) hm).mono fun _ _ ⟨h1, n, h2⟩ => ⟨h1, by rw [h2]; exact drawnB (Below.refl _ _) n⟩
theorem Blk.cells7 {w : World} {g : Nat} {t : TypeId} {v0 v1 v2 v3 v4 v5 v6 : Value} (h : Blk w g t #[v0, v1, v2, v3, v4, v5, v6]) :
    w.cell? ⟨g, 0, none⟩ = some v0 ∧ w.cell? ⟨g, 1, none⟩ = some v1 ∧ w.cell? ⟨g, 2, none⟩ = some v2 ∧ w.cell? ⟨g, 3, none⟩ = some v3 ∧ w.cell? ⟨g, 4, none⟩ = some v4 ∧ w.cell? ⟨g, 5, none⟩ = some v5 ∧ w.cell? ⟨g, 6, none⟩ = some v6 :=
  ⟨h.cell 0, h.cell 1, h.cell 2, h.cell 3, h.cell 4, h.cell 5, h.cell 6⟩
theorem Blk.frozen7 {w : World} {g : Nat} {t : TypeId} {cs : Array Value} (h : Blk w g t cs) :
    w.frozen? ⟨g, 0, none⟩ = false ∧ w.frozen? ⟨g, 1, none⟩ = false ∧ w.frozen? ⟨g, 2, none⟩ = false ∧ w.frozen? ⟨g, 3, none⟩ = false ∧ w.frozen? ⟨g, 4, none⟩ = false ∧ w.frozen? ⟨g, 5, none⟩ = false ∧ w.frozen? ⟨g, 6, none⟩ = false :=
  ⟨h.frozen 0, h.frozen 1, h.frozen 2, h.frozen 3, h.frozen 4, h.frozen 5, h.frozen 6⟩
theorem Blk.set7 {w : World} {g : Nat} {t : TypeId} {z0 z1 z2 z3 z4 z5 z6 : Value} (h : Blk w g t #[z0, z1, z2, z3, z4, z5, z6]) (x0 x1 x2 x3 x4 x5 x6 : Value) : Blk (((((((w.setCell ⟨g, 0, none⟩ x0).setCell ⟨g, 1, none⟩ x1).setCell ⟨g, 2, none⟩ x2).setCell ⟨g, 3, none⟩ x3).setCell ⟨g, 4, none⟩ x4).setCell ⟨g, 5, none⟩ x5).setCell ⟨g, 6, none⟩ x6) g t #[x0, x1, x2, x3, x4, x5, x6] := by
  have h0 : Blk _ g t #[x0, z1, z2, z3, z4, z5, z6] := h.set 0 x0
  have h1 : Blk _ g t #[x0, x1, z2, z3, z4, z5, z6] := h0.set 1 x1
  have h2 : Blk _ g t #[x0, x1, x2, z3, z4, z5, z6] := h1.set 2 x2
  have h3 : Blk _ g t #[x0, x1, x2, x3, z4, z5, z6] := h2.set 3 x3
  have h4 : Blk _ g t #[x0, x1, x2, x3, x4, z5, z6] := h3.set 4 x4
  have h5 : Blk _ g t #[x0, x1, x2, x3, x4, x5, z6] := h4.set 5 x5
  exact h5.set 6 x6
theorem below_set7 {B : Nat} {w0 w : World} {g : Nat} (h : Below B w0 w) (hg : B ≤ g) (x0 x1 x2 x3 x4 x5 x6 : Value) : Below B w0 (((((((w.setCell ⟨g, 0, none⟩ x0).setCell ⟨g, 1, none⟩ x1).setCell ⟨g, 2, none⟩ x2).setCell ⟨g, 3, none⟩ x3).setCell ⟨g, 4, none⟩ x4).setCell ⟨g, 5, none⟩ x5).setCell ⟨g, 6, none⟩ x6) :=
  ((((((h.setCell hg x0).setCell hg x1).setCell hg x2).setCell hg x3).setCell hg x4).setCell hg x5).setCell hg x6
theorem finI_nil {d k : Int} {nm : ByteArray} : finI d k nm [] = if d ≤ 5 then some ⟨d, k, nm, noNd⟩ else none := rfl
theorem finI_some {d k : Int} {nm : ByteArray} {s : Bs} (h : s ≠ []) : finI d k nm s = (flatI s).map fun n => ⟨d, k, nm, n⟩ := by rw [finI, if_neg h]
theorem cutL_len (s p : Bs) : (Lib.cut s p).1.length ≤ s.length ∧ (Lib.cut s p).2.1.length ≤ s.length := by
  unfold Lib.cut
  split
  · exact ⟨List.length_take_le' _ _, by simp⟩
  · exact ⟨Nat.le_refl _, by simp⟩

set_option maxHeartbeats 6400000 in
set_option maxRecDepth 100000 in
theorem readItem_any (s : ByteArray) (n : Nat) (w : World) (hm : MaxC w) (hs : s.size ≤ 100000) (hn : n ≤ 100000) :
    Calls Tryd.prog 63 #[.string s, .int .i64 (n : Int)] w (ItemP (itemI s.data.toList n) w) := by
  have h1 := fun W => oCutPre_any s ⟨#[45]⟩ W
  rw [show (⟨#[45]⟩ : ByteArray).data.toList = [45] from rfl] at h1
  have h2 := fun W (hW : Below w.heap.size w W) => oCut_any s ⟨#[58]⟩ W (hm.call hW) (by omega)
  rw [show (⟨#[58]⟩ : ByteArray).data.toList = [58] from rfl] at h2
  obtain ⟨B, hB⟩ : ∃ B, Lib.hasPrefix s.data.toList [45] = B := ⟨_, rfl⟩
  obtain ⟨T, hT⟩ : ∃ T, bytesA (Lib.trimPrefix s.data.toList [45]) = T := ⟨_, rfl⟩
  have hTl : Lib.trimPrefix s.data.toList [45] = T.data.toList := by rw [← hT]; rfl
  have hTs : T.size ≤ 1000000 := by
    rw [← hT, bA_size]
    have := trimPre_le s.data.toList [45]
    rw [lenB] at this
    omega
  have hcl := cutL_len s.data.toList [58]
  rw [lenB] at hcl
  obtain ⟨⟨c1, c2, C⟩, hc⟩ : ∃ c, Lib.cut s.data.toList [58] = c := ⟨_, rfl⟩
  rw [hc] at h2 hcl
  simp only at hcl
  obtain ⟨X, hX⟩ : ∃ X, bytesA c1 = X := ⟨_, rfl⟩
  obtain ⟨Y, hY⟩ : ∃ Y, bytesA c2 = Y := ⟨_, rfl⟩
  have hXl : c1 = X.data.toList := by rw [← hX]; rfl
  have hYl : c2 = Y.data.toList := by rw [← hY]; rfl
  have hXs : X.size ≤ 1000000 := by rw [← hX, bA_size]; omega
  have hYs : Y.size ≤ 1000000 := by rw [← hY, bA_size]; omega
  have h3 := fun W => oName_any X W (by unfold maxLen; omega)
  have h4 := fun W (Z : ByteArray) (hZ : Z.size ≤ 1000000) => readFlat_any Z W hZ
  obtain ⟨R, hR⟩ : ∃ R, itemI s.data.toList n = R := ⟨_, rfl⟩
  have hRB : R = if n % 2 = 0 then (if B then finI ((n / 2 : Nat) : Int) 2 ⟨#[]⟩ T.data.toList else if C && bwC X.data.toList then finI ((n / 2 : Nat) : Int) 3 X Y.data.toList else none) else none := by
    rw [← hR, itemI, hB, hTl, hc]
    simp only
    rw [hXl, hYl, bA_of]
  rw [hB, hT] at h1
  simp only [hX, hY] at h2
  obtain ⟨N, hN⟩ : ∃ N, bwC X.data.toList = N := ⟨_, rfl⟩
  rw [hN] at h3 hRB
  rw [hR]
  have H1 := Lib.hid h1
  have H2 := Lib.hid h2
  have H3 := Lib.hid h3
  have H4 := Lib.hid h4
  have HRB := Lib.hid hRB
  have HTs := Lib.hid hTs
  have HYs := Lib.hid hYs
  clear h1 h2 h3 h4 hRB hB hT hR hTl hc hcl hX hY hXl hYl hXs hYs hN hTs hm
  have hk0 := Blk.new w 80 zCells
  have hb0 := (Below.refl w.heap.size w).alloc (Nat.le_refl _) (.cells zCells 80)
  go_enter Tryd.func63, Tryd.ntmps63
  go_upto_region 1 with fail
  generalize w.alloc (.cells zCells 80) = wx at *
  obtain ⟨g0, hg0⟩ : ∃ g, w.heap.size = g := ⟨_, rfl⟩
  have HG := Lib.hid hg0
  rw [hg0] at hk0 ⊢
  have HB0 : Hid (Below w.heap.size w wx) := Lib.hid hb0
  clear hg0 hb0
  by_cases hpar : n % 2 = 0
  case neg =>
    have p2 : ((n : Int) % 2 == 0) = false := by rw [beq_eq_false_iff_ne]; omega
    obtain rfl : R = none := by rw [HRB.out, if_neg hpar]
    clear hpar HRB
    go_wp2_with (go_at_call 59; refine (must_not _).mono ?_; rintro e w2 ⟨rfl, rfl⟩)
    simp only [bodyPost]
    exact ⟨trivial, HB0.out, rfl⟩
  case pos =>
  have p2 : ((n : Int) % 2 == 0) = true := by rw [beq_iff_eq]; omega
  obtain ⟨D, hD⟩ : ∃ D, n / 2 = D := ⟨_, rfl⟩
  have q2 : (n : Int) / 2 = (D : Int) := by rw [← hD]; omega
  have hRB2 := HRB.out
  rw [if_pos hpar, hD] at hRB2
  have HR2 := Lib.hid hRB2
  have hDs : D ≤ 50000 := by omega
  clear hpar HRB hRB2 hD
  go_upto_region 2 with (go_at_call 59; refine (must_ok _).mono ?_; rintro e w2 ⟨rfl, rfl⟩)
  have hI1 := Blk.new wx 80 #[.int .i64 (D : Int), .int .i64 2, .string ⟨#[]⟩, .int .i64 0, .string ⟨#[]⟩, .slice none 0 0, .slice none 0 0]
  have hk1 := hk0.alloc (.cells #[.int .i64 (D : Int), .int .i64 2, .string ⟨#[]⟩, .int .i64 0, .string ⟨#[]⟩, .slice none 0 0, .slice none 0 0] 80)
  have hb1 := HB0.out.alloc (Nat.le_trans (Nat.le_of_eq HG.out) (Nat.le_of_lt hk0.lt)) (.cells #[.int .i64 (D : Int), .int .i64 2, .string ⟨#[]⟩, .int .i64 0, .string ⟨#[]⟩, .slice none 0 0, .slice none 0 0] 80)
  have hne := hk0.lt
  go_upto_region 3 with fail
  generalize wx.alloc (.cells #[.int .i64 (D : Int), .int .i64 2, .string ⟨#[]⟩, .int .i64 0, .string ⟨#[]⟩, .slice none 0 0, .slice none 0 0] 80) = w1 at *
  generalize wx.heap.size = g1 at *
  have hb1g : w.heap.size ≤ g1 := by have := HG.out; omega
  have hb0g : w.heap.size ≤ g0 := Nat.le_of_eq HG.out
  have HB1 := Lib.hid hb1
  clear hb1 HB0 hk0 p2 q2 hn
  go_upto_region 4 with (go_at_call 80; refine (H1.out _).mono ?_; rintro e w2 ⟨rfl, rfl⟩)
  cases B
  case' true =>
    have hr : R = finI (D : Int) 2 ⟨#[]⟩ T.data.toList := HR2.out
    obtain ⟨K, hK⟩ : ∃ K : Int, 2 = K := ⟨_, rfl⟩
    obtain ⟨nm, hnm⟩ : ∃ nm : ByteArray, ⟨#[]⟩ = nm := ⟨_, rfl⟩
    have hRf : R = finI (D : Int) K nm T.data.toList := by rw [← hK, ← hnm]; exact hr
    have hI2 : Blk w1 g1 80 #[.int .i64 (D : Int), .int .i64 K, .string nm, .int .i64 0, .string ⟨#[]⟩, .slice none 0 0, .slice none 0 0] := by rw [← hK, ← hnm]; exact hI1
    have hZs := HTs.out
    have hk2 := hk1
    have HB2 := Lib.hid HB1.out
    clear hr HR2 HB1 hI1 hk1 H1 H2 H3 HTs HYs hK hnm
    go_upto_region 9 with fail
    generalize w1 = w5 at *
    generalize T = Z at *
  case' false =>
    have hr : R = if C && N then finI (D : Int) 3 X Y.data.toList else none := HR2.out
    have HR := Lib.hid hr
    obtain ⟨i0, i1, i2, i3, i4, i5, i6⟩ := hI1.cells7
    have f1 := hI1.frozen 1
    have HI1 := Lib.hid hI1
    clear hr HR2 hI1
    go_upto_region 6 with fail
    clear i0 i1 i2 i3 i4 i5 i6 f1
    have hI2 : Blk (w1.setCell ⟨g1, 1, none⟩ (.int .i64 3)) g1 80 #[.int .i64 (D : Int), .int .i64 3, .string ⟨#[]⟩, .int .i64 0, .string ⟨#[]⟩, .slice none 0 0, .slice none 0 0] := HI1.out.set 1 _
    have hk2 := hk1.setO ⟨g1, 1, none⟩ (.int .i64 3) (by show g0 ≠ g1; omega)
    have hb2 := HB1.out.setCell (p := ⟨g1, 1, none⟩) hb1g (.int .i64 3)
    clear hk1 HB1
    generalize w1.setCell ⟨g1, 1, none⟩ (.int .i64 3) = w2 at *
    have f2 := fun W (h : Below w2.heap.size w2 W) => (hI2.call h).frozen 2
    have j2 := fun W (h : Below w2.heap.size w2 W) => (hI2.call h).cell 2
    have HF2 := Lib.hid f2
    have HJ2 := Lib.hid j2
    clear f2 j2
    go_upto_region 8 with (go_at_call 61; refine (H2.out _ hb2).mono ?_; rintro e w3 ⟨rfl, hb3⟩; have f2 := HF2.out _ hb3; have j2 := HJ2.out _ hb3)
    have hI3 : Blk (w3.setCell ⟨g1, 2, none⟩ (.string X)) g1 80 #[.int .i64 (D : Int), .int .i64 3, .string X, .int .i64 0, .string ⟨#[]⟩, .slice none 0 0, .slice none 0 0] := (hI2.call hb3).set 2 _
    have hk3 := (hk2.call hb3).setO ⟨g1, 2, none⟩ (.string X) (by show g0 ≠ g1; omega)
    have hb4 := (bthen hb2 hb3).setCell (p := ⟨g1, 2, none⟩) hb1g (.string X)
    clear hI2 hk2 hb2 hb3 f2 j2 HF2 HJ2 HI1
    generalize w3.setCell ⟨g1, 2, none⟩ (.string X) = w4 at *
    obtain ⟨i0, i1, i2, i3, i4, i5, i6⟩ := hI3.cells7
    have HB4 := Lib.hid hb4
    clear hb4
    cases hC : C && N
    case false =>
      obtain rfl : R = none := by rw [HR.out, hC]; rfl
      clear HR
      cases C with
      | false =>
        go_wp2_with (go_at_call 59; refine (must_not _).mono ?_; rintro e w2 ⟨rfl, rfl⟩)
        simp only [bodyPost]
        exact ⟨trivial, HB4.out, rfl⟩
      | true =>
        obtain rfl : N = false := by simpa using hC
        go_wp2_with (first
          | (go_at_call 81; refine (H3.out _).mono ?_; rintro e w5 ⟨rfl, rfl⟩)
          | (go_at_call 59; refine (must_not _).mono ?_; rintro e w2 ⟨rfl, rfl⟩))
        simp only [bodyPost]
        exact ⟨trivial, HB4.out, rfl⟩
    case' true =>
      obtain ⟨rfl, rfl⟩ : C = true ∧ N = true := by simpa using hC
      obtain ⟨K, hK⟩ : ∃ K : Int, 3 = K := ⟨_, rfl⟩
      have hRf : R = finI (D : Int) K X Y.data.toList := by rw [← hK]; exact HR.out
      have hI2 : Blk w4 g1 80 #[.int .i64 (D : Int), .int .i64 K, .string X, .int .i64 0, .string ⟨#[]⟩, .slice none 0 0, .slice none 0 0] := by rw [← hK]; exact hI3
      have hZs := HYs.out
      have hk2 := hk3
      have HB2 := Lib.hid HB4.out
      clear hC HR
      go_upto_region 9 with (first
        | (go_at_call 81; refine (H3.out _).mono ?_; rintro e w5 ⟨rfl, rfl⟩)
        | (go_at_call 59; refine (must_ok _).mono ?_; rintro e w2 ⟨rfl, rfl⟩))
      clear hI3 hk3 HB4 i0 i1 i2 i3 i4 i5 i6 HTs HYs H1 H2 H3 hK
      generalize w4 = w5 at *
      generalize Y = Z at *
      generalize X = nm at *
  all_goals
    obtain ⟨i0, i1, i2, i3, i4, i5, i6⟩ := hI2.cells7
    by_cases hz : Z = ⟨#[]⟩
    · subst hz
      have hRf2 : R = if (D : Int) ≤ 5 then some ⟨D, K, nm, noNd⟩ else none := hRf
      by_cases hD5 : (D : Int) ≤ 5
      · obtain rfl : R = some ⟨D, K, nm, noNd⟩ := by rw [hRf2, if_pos hD5]
        have d5 : decide ((D : Int) ≤ 5) = true := decide_eq_true hD5
        clear hRf hRf2
        obtain ⟨k0, k1, k2, k3, k4, k5, k6⟩ := hk2.cells7
        obtain ⟨f0, f1, f2, f3, f4, f5, f6⟩ := hk2.frozen7
        go_wp2_with (go_at_call 59; refine (must_ok _).mono ?_; rintro e w2 ⟨rfl, rfl⟩)
        refine bodyPost_ret (v := .agg #[.int .i64 (D : Int), .int .i64 K, .string nm, .int .i64 0, .string ⟨#[]⟩, .slice none 0 0, .slice none 0 0]) ?_ rfl ⟨below_set7 HB2.out hb0g _ _ _ _ _ _ _, rfl⟩
        exact results_cellN rfl _ _ g0 _ #[.int .i64 (D : Int), .int .i64 K, .string nm, .int .i64 0, .string ⟨#[]⟩, .slice none 0 0, .slice none 0 0] _ _ rfl (hk2.set7 _ _ _ _ _ _ _) Tryd.underlying80 rfl (by kernel_rfl)
      · obtain rfl : R = none := by rw [hRf2, if_neg hD5]
        have d5 : decide ((D : Int) ≤ 5) = false := decide_eq_false hD5
        clear hRf hRf2
        go_wp2_with (go_at_call 59; refine (must_not _).mono ?_; rintro e w2 ⟨rfl, rfl⟩)
        simp only [bodyPost]
        exact ⟨trivial, HB2.out, rfl⟩
    · have hzl : Z.data.toList ≠ [] := fun h => hz (bytes_ext h)
      have d1 : Z.toList.isEmpty = false := by
        rw [ByteArray.toList_eq]
        simpa using hzl
      rw [finI_some hzl] at hRf
      have hrf := H4.out w5 Z hZs
      obtain ⟨Q, hQ⟩ : ∃ Q, flatI Z.data.toList = Q := ⟨_, rfl⟩
      rw [hQ] at hrf hRf
      have HRF := Lib.hid hrf
      clear hrf hQ hzl H4
      cases Q with
      | none =>
        obtain rfl : R = none := hRf
        go_wp2_with (go_at_call 82; refine HRF.out.mono ?_; rintro e w6 ⟨hb6, rfl⟩)
        simp only [bodyPost]
        exact ⟨trivial, bthen HB2.out hb6, rfl⟩
      | some q =>
        obtain rfl : R = some ⟨D, K, nm, q⟩ := hRf
        have HK2 := Lib.hid hk2
        have HI2 := Lib.hid hI2
        clear i0 i1 i2 i3 i4 i5 i6 hk2 hI2
        go_upto_region 13 with (go_at_call 82; refine HRF.out.mono ?_; rintro e w6 ⟨hb6, rfl⟩; obtain ⟨i0, i1, i2, i3, i4, i5, i6⟩ := (HI2.out.call hb6).cells7; obtain ⟨f0, f1, f2, f3, f4, f5, f6⟩ := (HI2.out.call hb6).frozen7)
        have hI3 : Blk ((((w6.setCell ⟨g1, 3, none⟩ (.int .i64 q.kind)).setCell ⟨g1, 4, none⟩ (.string q.word)).setCell ⟨g1, 5, none⟩ (.slice none 0 0)).setCell ⟨g1, 6, none⟩ (.slice none 0 0)) g1 80 #[.int .i64 (D : Int), .int .i64 K, .string nm, .int .i64 q.kind, .string q.word, .slice none 0 0, .slice none 0 0] := by
          have h0 : Blk _ g1 80 #[.int .i64 (D : Int), .int .i64 K, .string nm, .int .i64 q.kind, .string ⟨#[]⟩, .slice none 0 0, .slice none 0 0] := (HI2.out.call hb6).set 3 (.int .i64 q.kind)
          have h1 : Blk _ g1 80 #[.int .i64 (D : Int), .int .i64 K, .string nm, .int .i64 q.kind, .string q.word, .slice none 0 0, .slice none 0 0] := h0.set 4 (.string q.word)
          have h2 : Blk _ g1 80 #[.int .i64 (D : Int), .int .i64 K, .string nm, .int .i64 q.kind, .string q.word, .slice none 0 0, .slice none 0 0] := h1.set 5 (.slice none 0 0)
          exact h2.set 6 (.slice none 0 0)
        have hne2 : g0 ≠ g1 := by omega
        have hk3 : Blk ((((w6.setCell ⟨g1, 3, none⟩ (.int .i64 q.kind)).setCell ⟨g1, 4, none⟩ (.string q.word)).setCell ⟨g1, 5, none⟩ (.slice none 0 0)).setCell ⟨g1, 6, none⟩ (.slice none 0 0)) g0 80 zCells := ((((HK2.out.call hb6).setO _ _ hne2).setO _ _ hne2).setO _ _ hne2).setO _ _ hne2
        have hb7 := ((((bthen HB2.out hb6).setCell (p := ⟨g1, 3, none⟩) hb1g (.int .i64 q.kind)).setCell (p := ⟨g1, 4, none⟩) hb1g (.string q.word)).setCell (p := ⟨g1, 5, none⟩) hb1g (.slice none 0 0)).setCell (p := ⟨g1, 6, none⟩) hb1g (.slice none 0 0)
        clear i0 i1 i2 i3 i4 i5 i6 f0 f1 f2 f3 f4 f5 f6
        generalize (((w6.setCell ⟨g1, 3, none⟩ (.int .i64 q.kind)).setCell ⟨g1, 4, none⟩ (.string q.word)).setCell ⟨g1, 5, none⟩ (.slice none 0 0)).setCell ⟨g1, 6, none⟩ (.slice none 0 0) = w7 at *
        obtain ⟨i0, i1, i2, i3, i4, i5, i6⟩ := hI3.cells7
        obtain ⟨k0, k1, k2, k3, k4, k5, k6⟩ := hk3.cells7
        obtain ⟨f0, f1, f2, f3, f4, f5, f6⟩ := hk3.frozen7
        go_wp2_with fail
        refine bodyPost_ret (v := .agg #[.int .i64 (D : Int), .int .i64 K, .string nm, .int .i64 q.kind, .string q.word, .slice none 0 0, .slice none 0 0]) ?_ rfl ⟨below_set7 hb7 hb0g _ _ _ _ _ _ _, rfl⟩
        exact results_cellN rfl _ _ g0 _ #[.int .i64 (D : Int), .int .i64 K, .string nm, .int .i64 q.kind, .string q.word, .slice none 0 0, .slice none 0 0] _ _ rfl (hk3.set7 _ _ _ _ _ _ _) Tryd.underlying80 rfl (by kernel_rfl)
end Go.Proofs.YtolbhhokpelchaaDoor
