/- The contract of the document's own Read of layer 8. -/
import Derived.Test.YtdlhmjdjoadioabGreatDoorZRulR
import Derived.Test.YtdlhmjdjoadioabGreatDoorZRulO
import Derived.Test.YtdlhmjdjoadioabGreatDoorZRulK0
import Derived.Test.YtdlhmjdjoadioabGreatDoorZLabOR
namespace Go.Proofs.YtdlhmjdjoadioabGreatDoor
open Go.RowKit

/-! ### Mathematics -/
/-- what is known of the number that a word is read as -/
def NumQ (s : ByteArray) (n : Int) : Prop := (n = 2199023255552 ∨ itoaS n = s) ∧ ∀ m : Int, -1099511627776 ≤ m → m ≤ 1099511627776 → s = itoaS m → n = m
theorem sign_how {s : ByteArray} (h : 1 ≤ howL s) : signL (howL s) = s := by
  unfold howL at *
  repeat (split at h; · (rename_i hs; rw [if_pos hs] at *; rw [hs]; decide) <;> skip)
  all_goals first | omega | skip
theorem ref_ok {s : Bs} {ls : List Lab} (h : refP s = (ls, true)) : rightC ls = true ∧ textL ls = s := by
  unfold refP at h
  cases hp : parseL s with
  | none => rw [hp] at h; cases h
  | some l =>
    rw [hp] at h
    obtain rfl : l = ls := (Prod.mk.inj h).1
    exact (parseL_iff _ _).1 hp
theorem isR_ref {s0 s1 s2 s3 s4 s5 s6 s7 : ByteArray} {r : Rul} (h : IsR [s0, s1, s2, s3, s4, s5, s6, s7] r) {n3 n4 n5 n6 : Int} {ls : List Lab} {is : Bool} (h3 : NumQ s3 n3) (h4 : NumQ s4 n4) (h5 : NumQ s5 n5) (h6 : NumQ s6 n6)
    (h7 : refP s7.data.toList = (ls, is)) : is = true ∧ r = ⟨s0, s1, howL s2, n3, n4, n5, n6, ls⟩ := by
  obtain ⟨g0, g⟩ := h
  obtain ⟨_, _, ⟨a1, a2⟩, ⟨a3, a4⟩, ⟨a5, a6⟩, ⟨a7, a8⟩, ⟨a9, a10⟩, a11⟩ := (rulC_iff r).1 g0
  have hrl := ((rlabsC_iff _).1 a11).2.1
  obtain ⟨n, m, hw, li, fr, ke, tr, la⟩ := r
  simp only at a1 a2 a3 a4 a5 a6 a7 a8 a9 a10 hrl
  simp only [wordsL, List.cons.injEq, and_true] at g
  obtain ⟨rfl, rfl, rfl, rfl, rfl, rfl, rfl, rfl⟩ := g
  have e7 : refP (textB la).data.toList = (la, true) := ref_yes hrl rfl
  rw [e7] at h7
  obtain ⟨rfl, rfl⟩ := Prod.mk.inj h7
  rw [h3.2 li a3 a4 rfl, h4.2 fr (by omega) a6 rfl, h5.2 ke (by omega) a8 rfl, h6.2 tr (by omega) (by omega) rfl, howL_sign a1 a2]
  exact ⟨rfl, rfl⟩
theorem ref_isR {s0 s1 s2 s3 s4 s5 s6 s7 : ByteArray} {n3 n4 n5 n6 : Int} {ls : List Lab} (hr : rulC ⟨s0, s1, howL s2, n3, n4, n5, n6, ls⟩ = true) (h3 : NumQ s3 n3) (h4 : NumQ s4 n4) (h5 : NumQ s5 n5) (h6 : NumQ s6 n6)
    (h7 : refP s7.data.toList = (ls, true)) : IsR [s0, s1, s2, s3, s4, s5, s6, s7] ⟨s0, s1, howL s2, n3, n4, n5, n6, ls⟩ := by
  refine ⟨hr, ?_⟩
  obtain ⟨_, _, ⟨a1, a2⟩, ⟨a3, a4⟩, ⟨a5, a6⟩, ⟨a7, a8⟩, ⟨a9, a10⟩, a11⟩ := (rulC_iff _).1 hr
  simp only at a1 a2 a3 a4 a5 a6 a7 a8 a9 a10
  have k3 := h3.1.resolve_left (by omega)
  have k4 := h4.1.resolve_left (by omega)
  have k5 := h5.1.resolve_left (by omega)
  have k6 := h6.1.resolve_left (by omega)
  have k7 : textB ls = s7 := by unfold textB; rw [(ref_ok h7).2]
  simp only [wordsL]
  rw [sign_how a1, k3, k4, k5, k6, k7]
/-- the How that is known behind the signs ahead of k -/
def hkI (s : ByteArray) (k : Nat) : Int := if howL s < (k : Int) then howL s else 0
theorem how_range (s : ByteArray) : 0 ≤ howL s ∧ howL s ≤ 5 := by
  unfold howL
  repeat (split; · omega)
  omega
theorem hkI_one (s : ByteArray) : hkI s 1 = 0 := by
  unfold hkI
  have := how_range s
  split <;> omega
theorem hkI_six (s : ByteArray) : hkI s 6 = howL s := by
  unfold hkI
  have := how_range s
  rw [if_pos (by omega)]
theorem hkI_is {s : ByteArray} {k : Nat} (h1 : 1 ≤ k) (h5 : k ≤ 5) (h : signL (k : Int) = s) : hkI s (k + 1) = (k : Int) := by
  have e : howL s = (k : Int) := by rw [← h]; exact howL_sign (by omega) (by omega)
  unfold hkI
  rw [e, if_pos (by omega)]
theorem hkI_not {s : ByteArray} {k : Nat} (h1 : 1 ≤ k) (h : ¬ signL (k : Int) = s) : hkI s (k + 1) = hkI s k := by
  have e : howL s ≠ (k : Int) := fun e => h (by rw [← e]; exact sign_how (by omega))
  unfold hkI
  by_cases hk : howL s < (k : Int)
  · rw [if_pos hk, if_pos (by omega)]
  · rw [if_neg hk, if_neg (by omega)]

/-! ### Read -/
def RReadE (R : Rul) (B : Bool) (w : World) (e : Ending) (w' : World) : Prop := ∃ a c, e = .returned (.tuple #[.agg (rCells R a c), .bool B]) ∧ RulAt w' R a c ∧ Below w.heap.size w w'
set_option maxHeartbeats 12800000 in
set_option maxRecDepth 100000 in
theorem rRead_any (a : Option Addr) (c : Nat) (ss : List ByteArray) (w : World) (h : HasStrs w a c ss) (hw : TabW w) (hs : ∀ s ∈ ss, s.size ≤ 2000) :
    Calls Tryz.prog 9 #[.slice a ss.length c] w (RReadE (readP ss).1 (decide ((readP ss).2 = 0)) w) := by
  have hB := Blk.new w 24 #[.string ⟨#[]⟩, .string ⟨#[]⟩, .int .i64 0, .int .i64 0, .int .i64 0, .int .i64 0, .int .i64 0, .slice none 0 0]
  have hb := (Below.refl w.heap.size w).alloc (Nat.le_refl _) (.cells #[.string ⟨#[]⟩, .string ⟨#[]⟩, .int .i64 0, .int .i64 0, .int .i64 0, .int .i64 0, .int .i64 0, .slice none 0 0] 24)
  have h1 := h.call hb
  have hw1 := hw.call hb
  by_cases h8 : ss.length = 8
  case neg =>
    have hr : readP ss = (zeroR, 6) := by
      rcases readP_cases ss with ⟨r, hr, _⟩ | ⟨hr, _⟩
      · exact absurd (isR_len hr) h8
      · exact hr
    rw [hr]
    have d8 : (((ss.length : Nat) : Int) != 8) = true := by rw [bne_iff_ne]; omega
    clear h h1 hw hw1 hs hr h8
    go_enter Tryz.func9, Tryz.ntmps9
    go_upto_region 1 with fail
    generalize (w.alloc (.cells #[.string ⟨#[]⟩, .string ⟨#[]⟩, .int .i64 0, .int .i64 0, .int .i64 0, .int .i64 0, .int .i64 0, .slice none 0 0] 24)) = wx at *
    obtain ⟨g, hg⟩ : ∃ g, w.heap.size = g := ⟨_, rfl⟩
    have HG : Hid (w.heap.size = g) := Lib.hid hg
    rw [hg] at hB ⊢
    clear hg
    obtain ⟨c0, c1, c2, c3, c4, c5, c6, c7⟩ := hB.cells8
    have f0 := hB.frozen 0
    have f1 := hB.frozen 1
    have f2 := hB.frozen 2
    have f3 := hB.frozen 3
    have f4 := hB.frozen 4
    have f5 := hB.frozen 5
    have f6 := hB.frozen 6
    have f7 := hB.frozen 7
    have hfin := hB.set8 (.string ⟨#[]⟩) (.string ⟨#[]⟩) (.int .i64 0) (.int .i64 0) (.int .i64 0) (.int .i64 0) (.int .i64 0) (.slice none 0 0)
    have hbf := below_set8 hb (Nat.le_of_eq HG.out) (.string ⟨#[]⟩) (.string ⟨#[]⟩) (.int .i64 0) (.int .i64 0) (.int .i64 0) (.int .i64 0) (.int .i64 0) (.slice none 0 0)
    have HFIN := Lib.hid hfin
    have HBF := Lib.hid hbf
    clear hfin hbf hb hB
    go_wp2_with fail
    refine bodyPost_ret (v := .tuple #[.agg #[.string ⟨#[]⟩, .string ⟨#[]⟩, .int .i64 0, .int .i64 0, .int .i64 0, .int .i64 0, .int .i64 0, .slice none 0 0], .bool false]) ?_ rfl ⟨none, 0, rfl, zero_at _, HBF.out⟩
    refine (results_cell_tmpR rfl _ _ g _ _ _ _ ?_ HFIN.out Tryz.underlying24 rfl (by kernel_rfl)).trans ?_
    · rfl
    · rfl
  case pos =>
    obtain ⟨s0, s1, s2, s3, s4, s5, s6, s7, rfl⟩ := length8 h8
    obtain ⟨b, off, rfl, hcs⟩ : ∃ b off, a = some ⟨b, off, none⟩ ∧ ∀ i (hi : i < 8), (w.alloc (.cells #[.string ⟨#[]⟩, .string ⟨#[]⟩, .int .i64 0, .int .i64 0, .int .i64 0, .int .i64 0, .int .i64 0, .slice none 0 0] 24)).cell? ⟨b, off + i, none⟩ = some (.string ([s0, s1, s2, s3, s4, s5, s6, s7][i]'hi)) := by
      rcases h1.2.2.2 with h4 | ⟨b, off, e, _, hc⟩
      · cases h4
      · exact ⟨b, off, e, hc⟩
    have hc8 := h1.1
    have hcm := h1.2.1
    unfold maxLen at hcm
    have HSC := Lib.hid (fun W (hW : Below (w.alloc (.cells #[.string ⟨#[]⟩, .string ⟨#[]⟩, .int .i64 0, .int .i64 0, .int .i64 0, .int .i64 0, .int .i64 0, .slice none 0 0] 24)).heap.size (w.alloc (.cells #[.string ⟨#[]⟩, .string ⟨#[]⟩, .int .i64 0, .int .i64 0, .int .i64 0, .int .i64 0, .int .i64 0, .slice none 0 0] 24)) W) => (⟨by have h := cellL hW (hcs 0 (by omega)); simpa using h, cellL hW (hcs 1 (by omega)), cellL hW (hcs 2 (by omega)), cellL hW (hcs 3 (by omega)), cellL hW (hcs 4 (by omega)), cellL hW (hcs 5 (by omega)), cellL hW (hcs 6 (by omega)), cellL hW (hcs 7 (by omega))⟩ : (W.cell? ⟨b, off, none⟩ = some (.string s0) ∧ W.cell? ⟨b, off + 1, none⟩ = some (.string s1) ∧ W.cell? ⟨b, off + 2, none⟩ = some (.string s2) ∧ W.cell? ⟨b, off + 3, none⟩ = some (.string s3) ∧ W.cell? ⟨b, off + 4, none⟩ = some (.string s4) ∧ W.cell? ⟨b, off + 5, none⟩ = some (.string s5) ∧ W.cell? ⟨b, off + 6, none⟩ = some (.string s6) ∧ W.cell? ⟨b, off + 7, none⟩ = some (.string s7))))
    have HT := Lib.hid (fun W (hW : Below (w.alloc (.cells #[.string ⟨#[]⟩, .string ⟨#[]⟩, .int .i64 0, .int .i64 0, .int .i64 0, .int .i64 0, .int .i64 0, .slice none 0 0] 24)).heap.size (w.alloc (.cells #[.string ⟨#[]⟩, .string ⟨#[]⟩, .int .i64 0, .int .i64 0, .int .i64 0, .int .i64 0, .int .i64 0, .slice none 0 0] 24)) W) => hw1.call hW)
    have hz := fun s (hm : s ∈ [s0, s1, s2, s3, s4, s5, s6, s7]) => hs s hm
    have z0 := hz s0 (by simp)
    have z1 := hz s1 (by simp)
    have z3 := hz s3 (by simp)
    have z4 := hz s4 (by simp)
    have z5 := hz s5 (by simp)
    have z6 := hz s6 (by simp)
    have z7 := hz s7 (by simp)
    have hpl := fun W => rParse_any s7 W (by omega)
    have hn3 := fun W (hW : TabW W) => rNumber_any s3 W hW (by omega)
    have hn4 := fun W (hW : TabW W) => rNumber_any s4 W hW (by omega)
    have hn5 := fun W (hW : TabW W) => rNumber_any s5 W hW (by omega)
    have hn6 := fun W (hW : TabW W) => rNumber_any s6 W hW (by omega)
    have hsg := fun (k : Int) (g1 : 1 ≤ k) (g5 : k ≤ 5) W => rSign_any k g1 g5 W
    have hm0 : s0.size ≤ maxLen := by unfold maxLen; omega
    have hm1 : s1.size ≤ maxLen := by unfold maxLen; omega
    obtain ⟨⟨ls, is⟩, hpp⟩ : ∃ R, refP s7.data.toList = R := ⟨_, rfl⟩
    rw [hpp] at hpl
    simp only at hpl
    have hq3 : ∀ n, (n = 2199023255552 ∨ itoaS n = s3) → (∀ m : Int, -1099511627776 ≤ m → m ≤ 1099511627776 → s3 = itoaS m → n = m) → NumQ s3 n := fun n h1 h2 => ⟨h1, h2⟩
    have hRC := readP_cases [s0, s1, s2, s3, s4, s5, s6, s7]
    have HPP := Lib.hid hpp
    have HPL := Lib.hid hpl
    have HN3 := Lib.hid (fun W hW => (hn3 W hW).mono (fun e w' h => (show ∃ n : Int, e = .returned (.int .i64 n) ∧ NumQ s3 n ∧ Below W.heap.size W w' by obtain ⟨n, h1, h2, h3, h4⟩ := h; exact ⟨n, h1, ⟨h2, h3⟩, h4⟩)))
    have HN4 := Lib.hid (fun W hW => (hn4 W hW).mono (fun e w' h => (show ∃ n : Int, e = .returned (.int .i64 n) ∧ NumQ s4 n ∧ Below W.heap.size W w' by obtain ⟨n, h1, h2, h3, h4⟩ := h; exact ⟨n, h1, ⟨h2, h3⟩, h4⟩)))
    have HN5 := Lib.hid (fun W hW => (hn5 W hW).mono (fun e w' h => (show ∃ n : Int, e = .returned (.int .i64 n) ∧ NumQ s5 n ∧ Below W.heap.size W w' by obtain ⟨n, h1, h2, h3, h4⟩ := h; exact ⟨n, h1, ⟨h2, h3⟩, h4⟩)))
    have HN6 := Lib.hid (fun W hW => (hn6 W hW).mono (fun e w' h => (show ∃ n : Int, e = .returned (.int .i64 n) ∧ NumQ s6 n ∧ Below W.heap.size W w' by obtain ⟨n, h1, h2, h3, h4⟩ := h; exact ⟨n, h1, ⟨h2, h3⟩, h4⟩)))
    have HSG := Lib.hid hsg
    have HM := Lib.hid (And.intro hm0 hm1)
    have HRC := Lib.hid hRC
    have HB := Lib.hid hb
    have HBK := Lib.hid hB
    have hzz : (w.alloc (.cells #[.string ⟨#[]⟩, .string ⟨#[]⟩, .int .i64 0, .int .i64 0, .int .i64 0, .int .i64 0, .int .i64 0, .slice none 0 0] 24)).heap.size = w.heap.size + 1 := by simp
    have HZZ := Lib.hid hzz
    clear h h1 hw hw1 hs hz z0 z1 z3 z4 z5 z6 z7 hpl hn3 hn4 hn5 hn6 hsg hm0 hm1 hpp hRC hcs h8 hb hB hzz hq3
    obtain ⟨⟨R, E⟩, hR⟩ : ∃ R, readP [s0, s1, s2, s3, s4, s5, s6, s7] = R := ⟨_, rfl⟩
    rw [hR]
    rw [hR] at HRC
    simp only
    clear hR
    go_enter Tryz.func9, Tryz.ntmps9
    go_upto_region 1 with fail
    generalize (w.alloc (.cells #[.string ⟨#[]⟩, .string ⟨#[]⟩, .int .i64 0, .int .i64 0, .int .i64 0, .int .i64 0, .int .i64 0, .slice none 0 0] 24)) = wx at *
    obtain ⟨c0, c1, c2, c3, c4, c5, c6, c7⟩ := HSC.out _ (Below.refl _ _)
    go_upto_region 4 with (go_at_call 25; refine (HPL.out _).mono ?_; rintro e w2 ⟨pl, ql, rfl, hl2, hb2⟩)
    clear c0 c1 c2 c3 c4 c5 c6 c7
    have HSC2 : Hid (∀ W, Below w2.heap.size w2 W → (W.cell? ⟨b, off, none⟩ = some (.string s0) ∧ W.cell? ⟨b, off + 1, none⟩ = some (.string s1) ∧ W.cell? ⟨b, off + 2, none⟩ = some (.string s2) ∧ W.cell? ⟨b, off + 3, none⟩ = some (.string s3) ∧ W.cell? ⟨b, off + 4, none⟩ = some (.string s4) ∧ W.cell? ⟨b, off + 5, none⟩ = some (.string s5) ∧ W.cell? ⟨b, off + 6, none⟩ = some (.string s6) ∧ W.cell? ⟨b, off + 7, none⟩ = some (.string s7))) := Lib.hid (fun W hW => HSC.out W (bthen hb2 hW))
    have hcc : 7 < c := by have := hc8; simp at this; omega
    have hal : Below w2.heap.size w2 (w2.alloc (.cells #[.string ⟨#[]⟩, .string ⟨#[]⟩, .int .i64 0, .int .i64 0, .int .i64 0, .int .i64 0, .int .i64 0, .slice none 0 0] 24)).drew := ((Below.refl w2.heap.size w2).alloc (Nat.le_refl w2.heap.size) _).drew
    have hbl0 : Blk (w2.alloc (.cells #[.string ⟨#[]⟩, .string ⟨#[]⟩, .int .i64 0, .int .i64 0, .int .i64 0, .int .i64 0, .int .i64 0, .slice none 0 0] 24)).drew w2.heap.size 24 #[.string ⟨#[]⟩, .string ⟨#[]⟩, .int .i64 0, .int .i64 0, .int .i64 0, .int .i64 0, .int .i64 0, .slice none 0 0] := (Blk.new w2 24 #[.string ⟨#[]⟩, .string ⟨#[]⟩, .int .i64 0, .int .i64 0, .int .i64 0, .int .i64 0, .int .i64 0, .slice none 0 0]).drew
    go_cut [6] (fun tv wy => ∃ (g6 : Nat) (n3 n4 n5 n6 : Int), tv = .pointer (some ⟨g6, 0, none⟩) ∧ Blk wy g6 24 #[.string s0, .string s1, .int .i64 0, .int .i64 n3, .int .i64 n4, .int .i64 n5, .int .i64 n6, .slice pl ls.length ql] ∧ Below w2.heap.size w2 wy ∧ w2.heap.size ≤ g6 ∧ NumQ s3 n3 ∧ NumQ s4 n4 ∧ NumQ s5 n5 ∧ NumQ s6 n6)
    case first =>
      go_region_held3 (fun w' => w'.cell? ⟨b, off, none⟩ = some (.string s0) ∧ w'.cell? ⟨b, off + 1, none⟩ = some (.string s1) ∧ w'.cell? ⟨b, off + 2, none⟩ = some (.string s2) ∧ w'.cell? ⟨b, off + 3, none⟩ = some (.string s3) ∧ w'.cell? ⟨b, off + 4, none⟩ = some (.string s4) ∧ w'.cell? ⟨b, off + 5, none⟩ = some (.string s5) ∧ w'.cell? ⟨b, off + 6, none⟩ = some (.string s6) ∧ w'.cell? ⟨b, off + 7, none⟩ = some (.string s7))
        (first | (with_reducible exact HSC2.out _ (below_set8 hq8 hKl8 _ _ _ _ _ _ _ _)) | (with_reducible exact HSC2.out _ (Below.refl _ _).drew) | (with_reducible exact HSC2.out _ hal) | (with_reducible exact HSC2.out _ hq5) | (with_reducible exact HSC2.out _ (hq5.alloc hz5 _)) | (with_reducible exact HSC2.out _ hq6) | (with_reducible exact HSC2.out _ (hq6.alloc hz6 _)) | (with_reducible exact HSC2.out _ hq7) | (with_reducible exact HSC2.out _ (hq7.alloc hz7 _)) | (with_reducible exact HSC2.out _ hq8) | (with_reducible exact HSC2.out _ (hq8.alloc hz8 _)))
        (first
        | (go_at_call 26; (with_reducible refine (HN6.out (w7.alloc (.cells #[.string ⟨#[]⟩, .string ⟨#[]⟩, .int .i64 0, .int .i64 0, .int .i64 0, .int .i64 0, .int .i64 0, .slice none 0 0] 24)) (HT.out _ (bthen hb2 (hq7.alloc hq7.size (.cells #[.string ⟨#[]⟩, .string ⟨#[]⟩, .int .i64 0, .int .i64 0, .int .i64 0, .int .i64 0, .int .i64 0, .slice none 0 0] 24))))).mono ?_); rintro e w8 ⟨n6, rfl, hv6, hb8⟩; have hq8 := bthen (hq7.alloc hq7.size (.cells #[.string ⟨#[]⟩, .string ⟨#[]⟩, .int .i64 0, .int .i64 0, .int .i64 0, .int .i64 0, .int .i64 0, .slice none 0 0] 24)) hb8; have hz8 := hq8.size; have hK8 := (Blk.new w7 24 #[.string ⟨#[]⟩, .string ⟨#[]⟩, .int .i64 0, .int .i64 0, .int .i64 0, .int .i64 0, .int .i64 0, .slice none 0 0]).call hb8; have hKl8 : w2.heap.size ≤ w7.heap.size := hq7.size; obtain ⟨k0, k1, k2, k3, k4, k5, k6, k7⟩ := hK8.cells8; have f0 := hK8.frozen 0; have f1 := hK8.frozen 1; have f2 := hK8.frozen 2; have f3 := hK8.frozen 3; have f4 := hK8.frozen 4; have f5 := hK8.frozen 5; have f6 := hK8.frozen 6; have f7 := hK8.frozen 7)
        | (go_at_call 26; (with_reducible refine (HN6.out _ (HT.out _ (bthen hb2 hq7))).mono ?_); rintro e w8 ⟨n6, rfl, hv6, hb8⟩; have hK8 := hK7.call hb8; have hKl8 := hKl7; have hq8 := bthen hq7 hb8; have hz8 := hq8.size; obtain ⟨k0, k1, k2, k3, k4, k5, k6, k7⟩ := hK8.cells8; have f0 := hK8.frozen 0; have f1 := hK8.frozen 1; have f2 := hK8.frozen 2; have f3 := hK8.frozen 3; have f4 := hK8.frozen 4; have f5 := hK8.frozen 5; have f6 := hK8.frozen 6; have f7 := hK8.frozen 7)
        | (go_at_call 26; (with_reducible refine (HN6.out _ (HT.out _ (bthen hb2 hq7))).mono ?_); rintro e w8 ⟨n6, rfl, hv6, hb8⟩; have hq8 := bthen hq7 hb8; have hz8 := hq8.size)
        | (go_at_call 26; (with_reducible refine (HN5.out (w6.alloc (.cells #[.string ⟨#[]⟩, .string ⟨#[]⟩, .int .i64 0, .int .i64 0, .int .i64 0, .int .i64 0, .int .i64 0, .slice none 0 0] 24)) (HT.out _ (bthen hb2 (hq6.alloc hq6.size (.cells #[.string ⟨#[]⟩, .string ⟨#[]⟩, .int .i64 0, .int .i64 0, .int .i64 0, .int .i64 0, .int .i64 0, .slice none 0 0] 24))))).mono ?_); rintro e w7 ⟨n5, rfl, hv5, hb7⟩; have hq7 := bthen (hq6.alloc hq6.size (.cells #[.string ⟨#[]⟩, .string ⟨#[]⟩, .int .i64 0, .int .i64 0, .int .i64 0, .int .i64 0, .int .i64 0, .slice none 0 0] 24)) hb7; have hz7 := hq7.size; have hK7 := (Blk.new w6 24 #[.string ⟨#[]⟩, .string ⟨#[]⟩, .int .i64 0, .int .i64 0, .int .i64 0, .int .i64 0, .int .i64 0, .slice none 0 0]).call hb7; have hKl7 : w2.heap.size ≤ w6.heap.size := hq6.size)
        | (go_at_call 26; (with_reducible refine (HN5.out _ (HT.out _ (bthen hb2 hq6))).mono ?_); rintro e w7 ⟨n5, rfl, hv5, hb7⟩; have hK7 := hK6.call hb7; have hKl7 := hKl6; have hq7 := bthen hq6 hb7; have hz7 := hq7.size)
        | (go_at_call 26; (with_reducible refine (HN5.out _ (HT.out _ (bthen hb2 hq6))).mono ?_); rintro e w7 ⟨n5, rfl, hv5, hb7⟩; have hq7 := bthen hq6 hb7; have hz7 := hq7.size)
        | (go_at_call 26; (with_reducible refine (HN4.out (w5.alloc (.cells #[.string ⟨#[]⟩, .string ⟨#[]⟩, .int .i64 0, .int .i64 0, .int .i64 0, .int .i64 0, .int .i64 0, .slice none 0 0] 24)) (HT.out _ (bthen hb2 (hq5.alloc hq5.size (.cells #[.string ⟨#[]⟩, .string ⟨#[]⟩, .int .i64 0, .int .i64 0, .int .i64 0, .int .i64 0, .int .i64 0, .slice none 0 0] 24))))).mono ?_); rintro e w6 ⟨n4, rfl, hv4, hb6⟩; have hq6 := bthen (hq5.alloc hq5.size (.cells #[.string ⟨#[]⟩, .string ⟨#[]⟩, .int .i64 0, .int .i64 0, .int .i64 0, .int .i64 0, .int .i64 0, .slice none 0 0] 24)) hb6; have hz6 := hq6.size; have hK6 := (Blk.new w5 24 #[.string ⟨#[]⟩, .string ⟨#[]⟩, .int .i64 0, .int .i64 0, .int .i64 0, .int .i64 0, .int .i64 0, .slice none 0 0]).call hb6; have hKl6 : w2.heap.size ≤ w5.heap.size := hq5.size)
        | (go_at_call 26; (with_reducible refine (HN4.out _ (HT.out _ (bthen hb2 hq5))).mono ?_); rintro e w6 ⟨n4, rfl, hv4, hb6⟩; have hK6 := hK5.call hb6; have hKl6 := hKl5; have hq6 := bthen hq5 hb6; have hz6 := hq6.size)
        | (go_at_call 26; (with_reducible refine (HN4.out _ (HT.out _ (bthen hb2 hq5))).mono ?_); rintro e w6 ⟨n4, rfl, hv4, hb6⟩; have hq6 := bthen hq5 hb6; have hz6 := hq6.size)
        | (go_at_call 26; (with_reducible refine (HN3.out (w2.alloc (.cells #[.string ⟨#[]⟩, .string ⟨#[]⟩, .int .i64 0, .int .i64 0, .int .i64 0, .int .i64 0, .int .i64 0, .slice none 0 0] 24)).drew (HT.out _ (bthen hb2 hal))).mono ?_); rintro e w5 ⟨n3, rfl, hv3, hb5⟩; have hq5 := bthen hal hb5; have hz5 := hq5.size; have hK5 := hbl0.call hb5; have hKl5 : w2.heap.size ≤ w2.heap.size := Nat.le_refl w2.heap.size)
        | (go_at_call 26; (with_reducible refine (HN3.out _ (HT.out _ (bthen hb2 (Below.refl w2.heap.size w2).drew))).mono ?_); rintro e w5 ⟨n3, rfl, hv3, hb5⟩; have hq5 := bthen (Below.refl w2.heap.size w2).drew hb5; have hz5 := hq5.size))
      all_goals
        go_wp2_with fail
        go_meet
        first
          | exact ⟨_, n3, n4, n5, n6, rfl, hK8.set8 (.string s0) (.string s1) (.int .i64 0) (.int .i64 n3) (.int .i64 n4) (.int .i64 n5) (.int .i64 n6) (.slice pl ls.length ql), below_set8 hq8 hKl8 (.string s0) (.string s1) (.int .i64 0) (.int .i64 n3) (.int .i64 n4) (.int .i64 n5) (.int .i64 n6) (.slice pl ls.length ql), hKl8, hv3, hv4, hv5, hv6⟩
          | exact ⟨_, n3, n4, n5, n6, rfl, Blk.new w8 24 #[.string s0, .string s1, .int .i64 0, .int .i64 n3, .int .i64 n4, .int .i64 n5, .int .i64 n6, .slice pl ls.length ql], hq8.alloc hz8 _, hz8, hv3, hv4, hv5, hv6⟩
    case rest =>
      obtain ⟨g6, n3, n4, n5, n6, rfl, hB6, hb9, hg6, hv3, hv4, hv5, hv6⟩ := hcut
      obtain ⟨wy, hwy⟩ : ∃ W, W = wc := ⟨_, rfl⟩
      subst hwy
      have hgg : w.heap.size ≠ g6 := by have := HZZ.out; have := hb2.size; omega
      have hno := fun (hr : rightC ls = true) => zero_no (HBK.out.call hb2) hl2 hr
      have HNO := Lib.hid hno
      have HL2 := Lib.hid hl2
      have HISR := Lib.hid (fun r (h : IsR [s0, s1, s2, s3, s4, s5, s6, s7] r) => isR_ref h hv3 hv4 hv5 hv6 HPP.out)
      have HRIS := Lib.hid (fun (hr : rulC ⟨s0, s1, howL s2, n3, n4, n5, n6, ls⟩ = true) (e : is = true) => ref_isR hr hv3 hv4 hv5 hv6 (by rw [HPP.out, e]))
      have HBG := Lib.hid (HBK.out.call hb2)
      have HG6 := Lib.hid hg6
      have HB9 := Lib.hid hb9
      have HB2 := Lib.hid hb2
      clear hno hl2 hb9 hg6 hv3 hv4 hv5 hv6 hb2 HN3 HN4 HN5 HN6 HPL HSC HBK HT hcc hal hbl0
      rw [← hkI_one s2] at hB6
      go_wp2_with fail
      go_loopg [7] 5 (fun gg kv wr => ∃ k : Nat, k + gg = 6 ∧ 1 ≤ k ∧ kv = .int .i64 (k : Int) ∧ Blk wr g6 24 #[.string s0, .string s1, .int .i64 (hkI s2 k), .int .i64 n3, .int .i64 n4, .int .i64 n5, .int .i64 n6, .slice pl ls.length ql] ∧ Below w2.heap.size w2 wr)
      case atStart => exact ⟨1, by omega, by omega, rfl, hB6, HB9.out⟩
      case round =>
        obtain ⟨k, hkg, hk1, rfl, hBk, hbk⟩ := hrel
        clear hB6
        obtain ⟨wz, hwz⟩ : ∃ W, W = wr := ⟨_, rfl⟩
        subst hwz
        cases gk with
        | zero =>
          obtain rfl : k = 6 := by omega
          rw [hkI_six] at hBk
          have hgz := HZZ.out
          have hAt : RulAt wz ⟨s0, s1, howL s2, n3, n4, n5, n6, ls⟩ pl ql := ⟨HL2.out.call hbk, HM.out⟩
          have hrr := rrRight_any ⟨s0, s1, howL s2, n3, n4, n5, n6, ls⟩ pl ql wz hAt
          have hBG := HBG.out.call hbk
          have HQ9 := Lib.hid (HB.out.trans ((bthen HB2.out hbk).mono (by omega)))
          have HLL := Lib.hid (HL2.out.call hbk)
          clear hgz hAt HSC2 HSG
          obtain ⟨c0, c1, c2, c3, c4, c5, c6, c7⟩ := hBk.cells8
          obtain ⟨g, hg⟩ : ∃ g, w.heap.size = g := ⟨_, rfl⟩
          have HG : Hid (w.heap.size = g) := Lib.hid hg
          rw [hg] at hBG hgg HNO ⊢
          clear hg
          simp only [rCells] at hrr
          have HRR := Lib.hid hrr
          clear hrr
          cases is with
          | false =>
            obtain ⟨rfl, rfl⟩ : R = zeroR ∧ E = 6 := by
              rcases HRC.out with ⟨r', h1, _⟩ | ⟨h1, _⟩
              · exact absurd (HISR.out r' h1).1 (by decide)
              · exact ⟨(Prod.mk.inj h1).1, (Prod.mk.inj h1).2⟩
            obtain ⟨d0, d1, d2, d3, d4, d5, d6, d7⟩ := hBG.cells8
            have f0 := hBG.frozen 0
            have f1 := hBG.frozen 1
            have f2 := hBG.frozen 2
            have f3 := hBG.frozen 3
            have f4 := hBG.frozen 4
            have f5 := hBG.frozen 5
            have f6 := hBG.frozen 6
            have f7 := hBG.frozen 7
            have HFIN := Lib.hid (hBG.set8 (.string ⟨#[]⟩) (.string ⟨#[]⟩) (.int .i64 0) (.int .i64 0) (.int .i64 0) (.int .i64 0) (.int .i64 0) (.slice none 0 0))
            have HBF := Lib.hid (below_set8 HQ9.out (Nat.le_of_eq HG.out) (.string ⟨#[]⟩) (.string ⟨#[]⟩) (.int .i64 0) (.int .i64 0) (.int .i64 0) (.int .i64 0) (.int .i64 0) (.slice none 0 0))
            clear hBG hBk hbk HRC HISR HRIS
            go_wp2_with fail
            refine bodyPost_ret (v := .tuple #[.agg #[.string ⟨#[]⟩, .string ⟨#[]⟩, .int .i64 0, .int .i64 0, .int .i64 0, .int .i64 0, .int .i64 0, .slice none 0 0], .bool false]) ?_ rfl ⟨none, 0, rfl, zero_at _, HBF.out⟩
            refine (results_cell_tmpR rfl _ _ g _ _ _ _ ?_ HFIN.out Tryz.underlying24 rfl (by kernel_rfl)).trans ?_
            · rfl
            · rfl
          | true =>
            cases hr : rulC ⟨s0, s1, howL s2, n3, n4, n5, n6, ls⟩ with
            | false =>
              obtain ⟨rfl, rfl⟩ : R = zeroR ∧ E = 6 := by
                rcases HRC.out with ⟨r', h1, _⟩ | ⟨h1, _⟩
                · have e := (HISR.out r' h1).2
                  rw [← e, h1.1] at hr; cases hr
                · exact ⟨(Prod.mk.inj h1).1, (Prod.mk.inj h1).2⟩
              rw [hr] at HRR
              clear hr HRC HISR HRIS
              go_upto_region 11 with (go_at_call 12; refine HRR.out.mono ?_; rintro e wu ⟨rfl, hbu⟩)
              have hB7 := hBG.call hbu
              obtain ⟨d0, d1, d2, d3, d4, d5, d6, d7⟩ := hB7.cells8
              have f0 := hB7.frozen 0
              have f1 := hB7.frozen 1
              have f2 := hB7.frozen 2
              have f3 := hB7.frozen 3
              have f4 := hB7.frozen 4
              have f5 := hB7.frozen 5
              have f6 := hB7.frozen 6
              have f7 := hB7.frozen 7
              have HFIN := Lib.hid (hB7.set8 (.string ⟨#[]⟩) (.string ⟨#[]⟩) (.int .i64 0) (.int .i64 0) (.int .i64 0) (.int .i64 0) (.int .i64 0) (.slice none 0 0))
              have HBF := Lib.hid (below_set8 (bthen HQ9.out hbu) (Nat.le_of_eq HG.out) (.string ⟨#[]⟩) (.string ⟨#[]⟩) (.int .i64 0) (.int .i64 0) (.int .i64 0) (.int .i64 0) (.int .i64 0) (.slice none 0 0))
              clear hBG hBk hbk hB7 hbu
              go_wp2_with fail
              refine bodyPost_ret (v := .tuple #[.agg #[.string ⟨#[]⟩, .string ⟨#[]⟩, .int .i64 0, .int .i64 0, .int .i64 0, .int .i64 0, .int .i64 0, .slice none 0 0], .bool false]) ?_ rfl ⟨none, 0, rfl, zero_at _, HBF.out⟩
              refine (results_cell_tmpR rfl _ _ g _ _ _ _ ?_ HFIN.out Tryz.underlying24 rfl (by kernel_rfl)).trans ?_
              · rfl
              · rfl
            | true =>
              obtain ⟨rfl, rfl⟩ : R = ⟨s0, s1, howL s2, n3, n4, n5, n6, ls⟩ ∧ E = 0 := by
                rcases HRC.out with ⟨r', h1, h2⟩ | ⟨_, h1⟩
                · rw [(HISR.out r' h1).2] at h2
                  exact ⟨(Prod.mk.inj h2).1, (Prod.mk.inj h2).2⟩
                · exact absurd (HRIS.out hr rfl) (h1 _)
              have hrl : rightC ls = true := (rul_labs hr).1
              rw [hr] at HRR
              clear hr HRC HISR HRIS
              go_upto_region 12 with (go_at_call 12; refine HRR.out.mono ?_; rintro e wu ⟨rfl, hbu⟩)
              have hB7 := hBG.call hbu
              obtain ⟨e0, e1, e2, e3, e4, e5, e6, e7⟩ := (hBk.call hbu).cells8
              obtain ⟨d0, d1, d2, d3, d4, d5, d6, d7⟩ := hB7.cells8
              have f0 := hB7.frozen 0
              have f1 := hB7.frozen 1
              have f2 := hB7.frozen 2
              have f3 := hB7.frozen 3
              have f4 := hB7.frozen 4
              have f5 := hB7.frozen 5
              have f6 := hB7.frozen 6
              have f7 := hB7.frozen 7
              have HFIN := Lib.hid (hB7.set8 (.string s0) (.string s1) (.int .i64 (howL s2)) (.int .i64 n3) (.int .i64 n4) (.int .i64 n5) (.int .i64 n6) (.slice pl ls.length ql))
              have HBF := Lib.hid (below_set8 (bthen HQ9.out hbu) (Nat.le_of_eq HG.out) (.string s0) (.string s1) (.int .i64 (howL s2)) (.int .i64 n3) (.int .i64 n4) (.int .i64 n5) (.int .i64 n6) (.slice pl ls.length ql))
              have HLF := Lib.hid (labs_set8N (HLL.out.call hbu) (HNO.out hrl) (.string s0) (.string s1) (.int .i64 (howL s2)) (.int .i64 n3) (.int .i64 n4) (.int .i64 n5) (.int .i64 n6) (.slice pl ls.length ql))
              clear hBG hBk hbk hB7 hbu hrl
              go_wp2_with fail
              refine bodyPost_ret (v := .tuple #[.agg #[.string s0, .string s1, .int .i64 (howL s2), .int .i64 n3, .int .i64 n4, .int .i64 n5, .int .i64 n6, .slice pl ls.length ql], .bool true]) ?_ rfl ⟨pl, ql, rfl, ⟨HLF.out, HM.out⟩, HBF.out⟩
              refine (results_cell_tmpR rfl _ _ g _ _ _ _ ?_ HFIN.out Tryz.underlying24 rfl (by kernel_rfl)).trans ?_
              · rfl
              · rfl
        | succ gg =>
          have hk5 : k ≤ 5 := by omega
          have hsk := HSG.out (k : Int) (by omega) (by omega) wz.drew
          have heq : ((signL (k : Int)).toList == s2.toList) = decide (signL (k : Int) = s2) := toList_eq_iff _ _
          have hd6 : decide ((k : Int) < 6) = true := decide_eq_true (by omega)
          have HSC3 := Lib.hid (fun W (hW : Below wz.heap.size wz W) => HSC2.out W (bthen hbk hW))
          have HBK2 := Lib.hid hbk
          have HBW := Lib.hid (fun W (hW : Below wz.heap.size wz W) => hBk.call hW)
          have hc2 : 2 < c := by have := hc8; simp at this; omega
          have HSK := Lib.hid hsk
          have HK := Lib.hid (And.intro hk1 (And.intro hk5 hkg))
          clear hbk hBk hsk hk1 hkg
          obtain ⟨S, hS⟩ : ∃ S, signL (k : Int) = S := ⟨_, rfl⟩
          rw [hS] at heq HSK
          have HS := Lib.hid hS
          clear hS
          by_cases hq : S = s2
          · rw [decide_eq_true hq] at heq
            have HQ := Lib.hid hq
            clear hq
            go_upto_region 8 with fail
            go_region_held3 (fun w' => w'.cell? ⟨b, off + 2, none⟩ = some (.string s2))
              (first | exact (HSC3.out _ (Below.refl _ _).drew).2.2.1 | exact (HSC3.out _ (bthen (Below.refl _ _).drew hb3)).2.2.1)
              (first | (go_at_call 27; refine HSK.out.mono ?_; rintro e w3 ⟨rfl, hb3⟩))
            all_goals
              have hb4 := bthen (Below.refl _ _).drew hb3
              have hBk := HBW.out _ hb4
              obtain ⟨c0, c1, c2, c3, c4, c5, c6, c7⟩ := hBk.cells8
              have f2 := hBk.frozen 2
              have hst := hBk.set 2 (.int .i64 (k : Int))
              have hkk : hkI s2 (k + 1) = (k : Int) := hkI_is HK.out.1 HK.out.2.1 (by rw [HS.out, HQ.out])
              have hbe := (bthen HBK2.out hb4).setCell (p := ⟨g6, 2, none⟩) HG6.out (.int .i64 (k : Int))
              have HBE := Lib.hid hbe
              have HST := Lib.hid (show Blk _ g6 24 #[.string s0, .string s1, .int .i64 (hkI s2 (k + 1)), .int .i64 n3, .int .i64 n4, .int .i64 n5, .int .i64 n6, .slice pl ls.length ql] by rw [hkk]; exact hst)
              clear hst hBk hbe hkk
              go_wp2_with fail
              go_roundg gg
              case measure => omega
              case rel => exact ⟨k + 1, by have := HK.out.2.2; omega, by omega, by (have := HK.out.2.1; go_num), HST.out, HBE.out⟩
          · rw [decide_eq_false hq] at heq
            have HQ := Lib.hid hq
            clear hq
            go_upto_region 8 with fail
            go_region_held3 (fun w' => w'.cell? ⟨b, off + 2, none⟩ = some (.string s2))
              (first | exact (HSC3.out _ (Below.refl _ _).drew).2.2.1 | exact (HSC3.out _ (bthen (Below.refl _ _).drew hb3)).2.2.1)
              (first | (go_at_call 27; refine HSK.out.mono ?_; rintro e w3 ⟨rfl, hb3⟩))
            all_goals
              have hb4 := bthen (Below.refl _ _).drew hb3
              have hkk : hkI s2 (k + 1) = hkI s2 k := hkI_not HK.out.1 (by rw [HS.out]; exact HQ.out)
              have HBE := Lib.hid (bthen HBK2.out hb4)
              have HST := Lib.hid (show Blk _ g6 24 #[.string s0, .string s1, .int .i64 (hkI s2 (k + 1)), .int .i64 n3, .int .i64 n4, .int .i64 n5, .int .i64 n6, .slice pl ls.length ql] by rw [hkk]; exact HBW.out _ hb4)
              clear hkk
              go_wp2_with fail
              go_roundg gg
              case measure => omega
              case rel => exact ⟨k + 1, by have := HK.out.2.2; omega, by omega, by (have := HK.out.2.1; go_num), HST.out, HBE.out⟩
end Go.Proofs.YtdlhmjdjoadioabGreatDoor
