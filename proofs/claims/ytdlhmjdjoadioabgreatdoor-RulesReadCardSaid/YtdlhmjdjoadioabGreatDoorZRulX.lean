/- The contract of rules.Words. -/
import Derived.Test.YtdlhmjdjoadioabGreatDoorZRulD
import Derived.Test.YtdlhmjdjoadioabGreatDoorZRulN
import Derived.Test.YtdlhmjdjoadioabGreatDoorZLabT
import Derived.Test.YtdlhmjdjoadioabGreatDoorMg3
import Derived.Test.YtdlhmjdjoadioabGreatDoorShelf
import Derived.Lib.LaidTab
namespace Go.Proofs.YtdlhmjdjoadioabGreatDoor
open Go.RowKit

/-- the powers of ten, as the library has them -/
def TabW (w : World) : Prop := Lib.TabIs Tryz.prog w "internal/strconv.uint64pow10" .u64 Lib.pow10Tab
theorem TabW.call {w w1 : World} (h : TabW w) (hb : Below w.heap.size w w1) : TabW w1 := by
  unfold TabW Lib.TabIs World.var? at *
  have hg : Tryz.prog.globalNamed "internal/strconv.uint64pow10" = some 0 := by kernel_rfl
  rw [hg] at h ⊢
  simp only [Option.bind_some] at h ⊢
  have hlt : 0 < w.heap.size := by
    rcases Nat.lt_or_ge 0 w.heap.size with h1 | h1
    · exact h1
    · rw [Array.getElem?_eq_none h1] at h; cases h
  rw [hb.block _ hlt]
  exact h
def StrZ (s : ByteArray) (w : World) (e : Ending) (w' : World) : Prop := e = .returned (.string s) ∧ Below w.heap.size w w'
theorem itoa_any (n : Int) (h0 : -9223372036854775808 ≤ n) (h1 : n ≤ 9223372036854775807) (w : World) (hT : TabW w) : Calls Tryz.prog 20 #[.int .i64 n] w (StrZ (itoaS n) w) := by
  refine (Tryz.strconv_Itoa n h0 h1 w hT).mono ?_
  rintro e w' ⟨rfl, k, os, rfl⟩
  exact ⟨rfl, (below_drewN (Below.refl _ w) k).trans (below_grow (w.drewN k) os)⟩

def WordsE (ss : List ByteArray) (n : Int) (w : World) (e : Ending) (w' : World) : Prop :=
  ∃ a c, e = .returned (.tuple #[.slice a ss.length c, .int .i64 n]) ∧ HasStrs w' a c ss ∧ Below w.heap.size w w'

theorem strs8 (w : World) (s0 s1 s2 s3 s4 s5 s6 s7 : ByteArray) (h0 : s0.size ≤ maxLen) (h1 : s1.size ≤ maxLen) (h2 : s2.size ≤ maxLen) (h3 : s3.size ≤ maxLen) (h4 : s4.size ≤ maxLen) (h5 : s5.size ≤ maxLen) (h6 : s6.size ≤ maxLen) (h7 : s7.size ≤ maxLen) :
    HasStrs (w.alloc (.cells #[.string s0, .string s1, .string s2, .string s3, .string s4, .string s5, .string s6, .string s7] 9)) (some ⟨w.heap.size, 0, none⟩) 8 [s0, s1, s2, s3, s4, s5, s6, s7] := by
  have hB := Blk.new w 9 #[.string s0, .string s1, .string s2, .string s3, .string s4, .string s5, .string s6, .string s7]
  refine ⟨Nat.le_refl _, by unfold maxLen; omega, fun s hs => ?_, .inr ⟨_, _, rfl, hB.lt, fun i hi => ?_⟩⟩
  · simp only [List.mem_cons, List.not_mem_nil, or_false] at hs
    rcases hs with rfl | rfl | rfl | rfl | rfl | rfl | rfl | rfl <;> assumption
  · have : i = 0 ∨ i = 1 ∨ i = 2 ∨ i = 3 ∨ i = 4 ∨ i = 5 ∨ i = 6 ∨ i = 7 := by simp at hi; omega
    rcases this with rfl | rfl | rfl | rfl | rfl | rfl | rfl | rfl
    · exact hB.cell 0
    · exact hB.cell 1
    · exact hB.cell 2
    · exact hB.cell 3
    · exact hB.cell 4
    · exact hB.cell 5
    · exact hB.cell 6
    · exact hB.cell 7
theorem dec_len (u : Nat) : (Lib.decDigits u).length ≤ u + 1 := by
  induction u using Nat.strongRecOn with
  | _ u ih =>
    rw [Lib.decDigits]
    split
    · simp
    · have := ih (u / 10) (by omega)
      rw [List.length_append]
      simp only [List.length_cons, List.length_nil]
      omega
theorem itoa_len (n : Int) (h0 : -1099511627776 ≤ n) (h1 : n ≤ 1099511627776) : (itoaS n).size ≤ maxLen := by
  have h : (itoaS n).size = (Lib.itoa n).length := by simp [itoaS, ByteArray.size]
  rw [h]
  unfold Lib.itoa maxLen
  split
  · have := dec_len n.natAbs
    simp only [List.length_cons]
    omega
  · have := dec_len n.toNat
    omega
theorem text_len {ls : List Lab} (h : rightC ls = true) : (textS ls).size ≤ maxLen := by
  have h1 : (textS ls).size = (textL ls).length := by simp [textS, ByteArray.size]
  have h2 := bodyT_le ls h ls.length
  rw [List.take_length] at h2
  rw [h1]
  unfold textL maxLen
  simp only [List.length_cons, List.length_append, List.length_nil]
  omega

set_option maxHeartbeats 6400000 in
set_option maxRecDepth 100000 in
theorem words_any (r : Rul) (a : Option Addr) (c : Nat) (w : World) (h : RulAt w r a c) (hT : TabW w) : Calls Tryz.prog 7 #[.agg (rCells r a c)] w (WordsE (wordsP r).1 (wordsP r).2 w) := by
  have HR := Lib.hid (fun W (h : RulAt W r a c) => rulRight_any r a c W h)
  have hb := (Below.refl w.heap.size w).alloc (Nat.le_refl _) (.cells (rCells r a c) 24)
  have hB := Blk.new w 24 (rCells r a c)
  have hA := h.call hb
  have hT1 := hT.call hb
  have hX := fun W (h : HasLabs W a c r.labels) (hr : rightC r.labels = true) => text_ok a c r.labels W h hr
  have hszn := h.2
  clear h hT
  cases hr : rulC r with
  | false =>
    have e : wordsP r = ([], 1) := by rw [wordsP, if_neg (by rw [hr]; simp)]
    rw [e]
    rw [hr] at HR
    have HB := Lib.hid hb
    have HA := Lib.hid hA
    clear hr e hX hb hA
    obtain ⟨c0, c1, c2, c3, c4, c5, c6, c7⟩ := hB.cells8
    simp only [rCells] at *
    go_enter Tryz.func7, Tryz.ntmps7
    go_wp2_with (go_at_call 16; refine (HR.out _ HA.out).mono ?_; rintro e w2 ⟨rfl, hb2⟩)
    go_ret2
    exact ⟨none, 0, rfl, HasStrs.nil _ _ _ (Nat.zero_le _), bthen HB.out hb2⟩
  | true =>
    have e : wordsP r = (wordsL r, 0) := by rw [wordsP, if_pos hr]
    rw [e]
    rw [hr] at HR
    obtain ⟨_, _, ⟨g1, g2⟩, ⟨g3, g4⟩, ⟨g5, g6⟩, ⟨g7, g8⟩, ⟨g9, g10⟩, g11⟩ := (rulC_iff r).1 hr
    have hrl := ((rlabsC_iff _).1 g11).2.1
    have hts := text_len hrl
    have hz1 := itoa_len r.limit g3 g4
    have hz2 := itoa_len r.fr (by omega) g6
    have hz3 := itoa_len r.keep (by omega) g8
    have hz4 := itoa_len r.tries (by omega) (by omega)
    have hk : r.how = 1 ∨ r.how = 2 ∨ r.how = 3 ∨ r.how = 4 ∨ r.how = 5 := by omega
    have hI1 := fun W (hW : TabW W) => itoa_any r.limit (by omega) (by omega) W hW
    have hI2 := fun W (hW : TabW W) => itoa_any r.fr (by omega) (by omega) W hW
    have hI3 := fun W (hW : TabW W) => itoa_any r.keep (by omega) (by omega) W hW
    have hI4 := fun W (hW : TabW W) => itoa_any r.tries (by omega) (by omega) W hW
    have HI1 := Lib.hid hI1
    have HI2 := Lib.hid hI2
    have HI3 := Lib.hid hI3
    have HI4 := Lib.hid hI4
    have HX := Lib.hid (fun W (h : HasLabs W a c r.labels) => hX W h hrl)
    clear hI1 hI2 hI3 hI4 hX hrl g3 g4 g5 g6 g7 g8 g9 g10 g11 hr e
    have HSZ := Lib.hid (And.intro hszn (And.intro hz1 (And.intro hz2 (And.intro hz3 (And.intro hz4 hts)))))
    clear hz1 hz2 hz3 hz4 hts hszn g1 g2
    obtain ⟨n, m, k, l, f, p, t, ls⟩ := r
    simp only [rCells, wordsL] at *
    generalize itoaS l = S1 at *
    generalize itoaS f = S2 at *
    generalize itoaS p = S3 at *
    generalize itoaS t = S4 at *
    have hTX : textB ls = textS ls := rfl
    rw [hTX]
    clear hTX
    generalize textS ls = TX at *
    obtain ⟨c0, c1, c2, c3, c4, c5, c6, c7⟩ := hB.cells8
    go_enter Tryz.func7, Tryz.ntmps7
    go_upto_region 4 with (first
      | (go_at_call 16; refine (HR.out _ hA).mono ?_; rintro e w2 ⟨rfl, hb2⟩; have hB2 := hB.call hb2; have hA2 := hA.call hb2; have hT2 := hT1.call hb2; have hq2 := bthen hb hb2; obtain ⟨d0, d1, d2, d3, d4, d5, d6, d7⟩ := hB2.cells8)
      | (go_at_call 18; refine (HX.out _ hA2.1).mono ?_; rintro e w3 ⟨rfl, hb3⟩; have hB3 := hB2.call hb3; have hT3 := hT2.call hb3; have hq3 := bthen hq2 hb3))
    have HCS := Lib.hid (fun W (hW : Below w3.heap.size w3 W) => (hB3.call hW).cells8)
    have HT := Lib.hid (fun W (hW : Below w3.heap.size w3 W) => hT3.call hW)
    have HQ := Lib.hid hq3
    clear hB hB2 hB3 hA hA2 hT1 hT2 hT3 hb hb2 hb3 hq2 hq3 c0 c1 c2 c3 c4 c5 c6 c7 d0 d1 d2 d3 d4 d5 d6 d7 HR HX
    rcases hk with rfl | rfl | rfl | rfl | rfl
    · have i1 := fun (x y : Nat) (W : World) => (show (Instr.index 48 (.agg (howsV x y)) (.int .i64 1)).run Tryz.prog W = .ok (.agg #[.string ⟨#[62]⟩, .func (.func 41) #[] #[]]) W by kernel_rfl)
      have i2 := fun (W : World) => (show (Instr.field 47 (.agg #[.string ⟨#[62]⟩, .func (.func 41) #[] #[]]) 0).run Tryz.prog W = .ok (.string ⟨#[62]⟩) W by kernel_rfl)
      go_region_held3 (fun w' => w'.cell? ⟨w.heap.size, 0, none⟩ = some (.string n) ∧ w'.cell? ⟨w.heap.size, 1, none⟩ = some (.string m) ∧ w'.cell? ⟨w.heap.size, 2, none⟩ = some (.int .i64 1) ∧ w'.cell? ⟨w.heap.size, 3, none⟩ = some (.int .i64 l) ∧ w'.cell? ⟨w.heap.size, 4, none⟩ = some (.int .i64 f) ∧ w'.cell? ⟨w.heap.size, 5, none⟩ = some (.int .i64 p) ∧ w'.cell? ⟨w.heap.size, 6, none⟩ = some (.int .i64 t) ∧ w'.cell? ⟨w.heap.size, 7, none⟩ = some (.slice a ls.length c))
        (first | exact HCS.out _ (Below.refl _ _).drew | exact HCS.out _ hq8 | exact HCS.out _ hq7 | exact HCS.out _ hq6 | exact HCS.out _ hq5 | exact HCS.out _ hq4 | exact HCS.out _ (hq8.alloc hz8 _))
        (first
          | (go_at_call 19; refine (hows_any _).mono ?_; rintro e w4 ⟨x, y, rfl, hx, hy, hb4⟩; have hq4 := bthen (Below.refl _ _).drew hb4)
          | (go_at_call 20; (with_reducible refine (HI1.out _ (HT.out _ hq4)).mono ?_); rintro e w5 ⟨rfl, hb5⟩; have hq5 := bthen hq4 hb5)
          | (go_at_call 20; (with_reducible refine (HI2.out _ (HT.out _ hq5)).mono ?_); rintro e w6 ⟨rfl, hb6⟩; have hq6 := bthen hq5 hb6)
          | (go_at_call 20; (with_reducible refine (HI3.out _ (HT.out _ hq6)).mono ?_); rintro e w7 ⟨rfl, hb7⟩; have hq7 := bthen hq6 hb7)
          | (go_at_call 20; (with_reducible refine (HI4.out _ (HT.out _ hq7)).mono ?_); rintro e w8 ⟨rfl, hb8⟩; have hq8 := bthen hq7 hb8; have hz8 := hq8.size))
      all_goals
        obtain ⟨⟨s1, s2⟩, s3, s4, s5, s6, s7⟩ := HSZ.out
        have hfin := strs8 w8 n m ⟨#[62]⟩ S1 S2 S3 S4 TX s1 s2 (by unfold maxLen; decide) s3 s4 s5 s6 s7
        have hbf := bthen HQ.out (hq8.alloc hz8 (.cells #[.string n, .string m, .string ⟨#[62]⟩, .string S1, .string S2, .string S3, .string S4, .string TX] 9))
        go_wp2_with fail
        go_ret2
        exact ⟨_, _, rfl, hfin, hbf⟩
    · have i1 := fun (x y : Nat) (W : World) => (show (Instr.index 48 (.agg (howsV x y)) (.int .i64 2)).run Tryz.prog W = .ok (.agg #[.string ⟨#[62, 61]⟩, .func (.func 60) #[] #[.pointer (some ⟨x, 0, none⟩)]]) W by kernel_rfl)
      have i2 := fun (x : Nat) (W : World) => (show (Instr.field 47 (.agg #[.string ⟨#[62, 61]⟩, .func (.func 60) #[] #[.pointer (some ⟨x, 0, none⟩)]]) 0).run Tryz.prog W = .ok (.string ⟨#[62, 61]⟩) W by kernel_rfl)
      go_region_held3 (fun w' => w'.cell? ⟨w.heap.size, 0, none⟩ = some (.string n) ∧ w'.cell? ⟨w.heap.size, 1, none⟩ = some (.string m) ∧ w'.cell? ⟨w.heap.size, 2, none⟩ = some (.int .i64 2) ∧ w'.cell? ⟨w.heap.size, 3, none⟩ = some (.int .i64 l) ∧ w'.cell? ⟨w.heap.size, 4, none⟩ = some (.int .i64 f) ∧ w'.cell? ⟨w.heap.size, 5, none⟩ = some (.int .i64 p) ∧ w'.cell? ⟨w.heap.size, 6, none⟩ = some (.int .i64 t) ∧ w'.cell? ⟨w.heap.size, 7, none⟩ = some (.slice a ls.length c))
        (first | exact HCS.out _ (Below.refl _ _).drew | exact HCS.out _ hq8 | exact HCS.out _ hq7 | exact HCS.out _ hq6 | exact HCS.out _ hq5 | exact HCS.out _ hq4 | exact HCS.out _ (hq8.alloc hz8 _))
        (first
          | (go_at_call 19; refine (hows_any _).mono ?_; rintro e w4 ⟨x, y, rfl, hx, hy, hb4⟩; have hq4 := bthen (Below.refl _ _).drew hb4)
          | (go_at_call 20; (with_reducible refine (HI1.out _ (HT.out _ hq4)).mono ?_); rintro e w5 ⟨rfl, hb5⟩; have hq5 := bthen hq4 hb5)
          | (go_at_call 20; (with_reducible refine (HI2.out _ (HT.out _ hq5)).mono ?_); rintro e w6 ⟨rfl, hb6⟩; have hq6 := bthen hq5 hb6)
          | (go_at_call 20; (with_reducible refine (HI3.out _ (HT.out _ hq6)).mono ?_); rintro e w7 ⟨rfl, hb7⟩; have hq7 := bthen hq6 hb7)
          | (go_at_call 20; (with_reducible refine (HI4.out _ (HT.out _ hq7)).mono ?_); rintro e w8 ⟨rfl, hb8⟩; have hq8 := bthen hq7 hb8; have hz8 := hq8.size))
      all_goals
        obtain ⟨⟨s1, s2⟩, s3, s4, s5, s6, s7⟩ := HSZ.out
        have hfin := strs8 w8 n m ⟨#[62, 61]⟩ S1 S2 S3 S4 TX s1 s2 (by unfold maxLen; decide) s3 s4 s5 s6 s7
        have hbf := bthen HQ.out (hq8.alloc hz8 (.cells #[.string n, .string m, .string ⟨#[62, 61]⟩, .string S1, .string S2, .string S3, .string S4, .string TX] 9))
        go_wp2_with fail
        go_ret2
        exact ⟨_, _, rfl, hfin, hbf⟩
    · have i1 := fun (x y : Nat) (W : World) => (show (Instr.index 48 (.agg (howsV x y)) (.int .i64 3)).run Tryz.prog W = .ok (.agg #[.string ⟨#[60]⟩, .func (.func 42) #[] #[]]) W by kernel_rfl)
      have i2 := fun (W : World) => (show (Instr.field 47 (.agg #[.string ⟨#[60]⟩, .func (.func 42) #[] #[]]) 0).run Tryz.prog W = .ok (.string ⟨#[60]⟩) W by kernel_rfl)
      go_region_held3 (fun w' => w'.cell? ⟨w.heap.size, 0, none⟩ = some (.string n) ∧ w'.cell? ⟨w.heap.size, 1, none⟩ = some (.string m) ∧ w'.cell? ⟨w.heap.size, 2, none⟩ = some (.int .i64 3) ∧ w'.cell? ⟨w.heap.size, 3, none⟩ = some (.int .i64 l) ∧ w'.cell? ⟨w.heap.size, 4, none⟩ = some (.int .i64 f) ∧ w'.cell? ⟨w.heap.size, 5, none⟩ = some (.int .i64 p) ∧ w'.cell? ⟨w.heap.size, 6, none⟩ = some (.int .i64 t) ∧ w'.cell? ⟨w.heap.size, 7, none⟩ = some (.slice a ls.length c))
        (first | exact HCS.out _ (Below.refl _ _).drew | exact HCS.out _ hq8 | exact HCS.out _ hq7 | exact HCS.out _ hq6 | exact HCS.out _ hq5 | exact HCS.out _ hq4 | exact HCS.out _ (hq8.alloc hz8 _))
        (first
          | (go_at_call 19; refine (hows_any _).mono ?_; rintro e w4 ⟨x, y, rfl, hx, hy, hb4⟩; have hq4 := bthen (Below.refl _ _).drew hb4)
          | (go_at_call 20; (with_reducible refine (HI1.out _ (HT.out _ hq4)).mono ?_); rintro e w5 ⟨rfl, hb5⟩; have hq5 := bthen hq4 hb5)
          | (go_at_call 20; (with_reducible refine (HI2.out _ (HT.out _ hq5)).mono ?_); rintro e w6 ⟨rfl, hb6⟩; have hq6 := bthen hq5 hb6)
          | (go_at_call 20; (with_reducible refine (HI3.out _ (HT.out _ hq6)).mono ?_); rintro e w7 ⟨rfl, hb7⟩; have hq7 := bthen hq6 hb7)
          | (go_at_call 20; (with_reducible refine (HI4.out _ (HT.out _ hq7)).mono ?_); rintro e w8 ⟨rfl, hb8⟩; have hq8 := bthen hq7 hb8; have hz8 := hq8.size))
      all_goals
        obtain ⟨⟨s1, s2⟩, s3, s4, s5, s6, s7⟩ := HSZ.out
        have hfin := strs8 w8 n m ⟨#[60]⟩ S1 S2 S3 S4 TX s1 s2 (by unfold maxLen; decide) s3 s4 s5 s6 s7
        have hbf := bthen HQ.out (hq8.alloc hz8 (.cells #[.string n, .string m, .string ⟨#[60]⟩, .string S1, .string S2, .string S3, .string S4, .string TX] 9))
        go_wp2_with fail
        go_ret2
        exact ⟨_, _, rfl, hfin, hbf⟩
    · have i1 := fun (x y : Nat) (W : World) => (show (Instr.index 48 (.agg (howsV x y)) (.int .i64 4)).run Tryz.prog W = .ok (.agg #[.string ⟨#[60, 61]⟩, .func (.func 60) #[] #[.pointer (some ⟨y, 0, none⟩)]]) W by kernel_rfl)
      have i2 := fun (y : Nat) (W : World) => (show (Instr.field 47 (.agg #[.string ⟨#[60, 61]⟩, .func (.func 60) #[] #[.pointer (some ⟨y, 0, none⟩)]]) 0).run Tryz.prog W = .ok (.string ⟨#[60, 61]⟩) W by kernel_rfl)
      go_region_held3 (fun w' => w'.cell? ⟨w.heap.size, 0, none⟩ = some (.string n) ∧ w'.cell? ⟨w.heap.size, 1, none⟩ = some (.string m) ∧ w'.cell? ⟨w.heap.size, 2, none⟩ = some (.int .i64 4) ∧ w'.cell? ⟨w.heap.size, 3, none⟩ = some (.int .i64 l) ∧ w'.cell? ⟨w.heap.size, 4, none⟩ = some (.int .i64 f) ∧ w'.cell? ⟨w.heap.size, 5, none⟩ = some (.int .i64 p) ∧ w'.cell? ⟨w.heap.size, 6, none⟩ = some (.int .i64 t) ∧ w'.cell? ⟨w.heap.size, 7, none⟩ = some (.slice a ls.length c))
        (first | exact HCS.out _ (Below.refl _ _).drew | exact HCS.out _ hq8 | exact HCS.out _ hq7 | exact HCS.out _ hq6 | exact HCS.out _ hq5 | exact HCS.out _ hq4 | exact HCS.out _ (hq8.alloc hz8 _))
        (first
          | (go_at_call 19; refine (hows_any _).mono ?_; rintro e w4 ⟨x, y, rfl, hx, hy, hb4⟩; have hq4 := bthen (Below.refl _ _).drew hb4)
          | (go_at_call 20; (with_reducible refine (HI1.out _ (HT.out _ hq4)).mono ?_); rintro e w5 ⟨rfl, hb5⟩; have hq5 := bthen hq4 hb5)
          | (go_at_call 20; (with_reducible refine (HI2.out _ (HT.out _ hq5)).mono ?_); rintro e w6 ⟨rfl, hb6⟩; have hq6 := bthen hq5 hb6)
          | (go_at_call 20; (with_reducible refine (HI3.out _ (HT.out _ hq6)).mono ?_); rintro e w7 ⟨rfl, hb7⟩; have hq7 := bthen hq6 hb7)
          | (go_at_call 20; (with_reducible refine (HI4.out _ (HT.out _ hq7)).mono ?_); rintro e w8 ⟨rfl, hb8⟩; have hq8 := bthen hq7 hb8; have hz8 := hq8.size))
      all_goals
        obtain ⟨⟨s1, s2⟩, s3, s4, s5, s6, s7⟩ := HSZ.out
        have hfin := strs8 w8 n m ⟨#[60, 61]⟩ S1 S2 S3 S4 TX s1 s2 (by unfold maxLen; decide) s3 s4 s5 s6 s7
        have hbf := bthen HQ.out (hq8.alloc hz8 (.cells #[.string n, .string m, .string ⟨#[60, 61]⟩, .string S1, .string S2, .string S3, .string S4, .string TX] 9))
        go_wp2_with fail
        go_ret2
        exact ⟨_, _, rfl, hfin, hbf⟩
    · have i1 := fun (x y : Nat) (W : World) => (show (Instr.index 48 (.agg (howsV x y)) (.int .i64 5)).run Tryz.prog W = .ok (.agg #[.string ⟨#[61, 61]⟩, .func (.func 43) #[] #[]]) W by kernel_rfl)
      have i2 := fun (W : World) => (show (Instr.field 47 (.agg #[.string ⟨#[61, 61]⟩, .func (.func 43) #[] #[]]) 0).run Tryz.prog W = .ok (.string ⟨#[61, 61]⟩) W by kernel_rfl)
      go_region_held3 (fun w' => w'.cell? ⟨w.heap.size, 0, none⟩ = some (.string n) ∧ w'.cell? ⟨w.heap.size, 1, none⟩ = some (.string m) ∧ w'.cell? ⟨w.heap.size, 2, none⟩ = some (.int .i64 5) ∧ w'.cell? ⟨w.heap.size, 3, none⟩ = some (.int .i64 l) ∧ w'.cell? ⟨w.heap.size, 4, none⟩ = some (.int .i64 f) ∧ w'.cell? ⟨w.heap.size, 5, none⟩ = some (.int .i64 p) ∧ w'.cell? ⟨w.heap.size, 6, none⟩ = some (.int .i64 t) ∧ w'.cell? ⟨w.heap.size, 7, none⟩ = some (.slice a ls.length c))
        (first | exact HCS.out _ (Below.refl _ _).drew | exact HCS.out _ hq8 | exact HCS.out _ hq7 | exact HCS.out _ hq6 | exact HCS.out _ hq5 | exact HCS.out _ hq4 | exact HCS.out _ (hq8.alloc hz8 _))
        (first
          | (go_at_call 19; refine (hows_any _).mono ?_; rintro e w4 ⟨x, y, rfl, hx, hy, hb4⟩; have hq4 := bthen (Below.refl _ _).drew hb4)
          | (go_at_call 20; (with_reducible refine (HI1.out _ (HT.out _ hq4)).mono ?_); rintro e w5 ⟨rfl, hb5⟩; have hq5 := bthen hq4 hb5)
          | (go_at_call 20; (with_reducible refine (HI2.out _ (HT.out _ hq5)).mono ?_); rintro e w6 ⟨rfl, hb6⟩; have hq6 := bthen hq5 hb6)
          | (go_at_call 20; (with_reducible refine (HI3.out _ (HT.out _ hq6)).mono ?_); rintro e w7 ⟨rfl, hb7⟩; have hq7 := bthen hq6 hb7)
          | (go_at_call 20; (with_reducible refine (HI4.out _ (HT.out _ hq7)).mono ?_); rintro e w8 ⟨rfl, hb8⟩; have hq8 := bthen hq7 hb8; have hz8 := hq8.size))
      all_goals
        obtain ⟨⟨s1, s2⟩, s3, s4, s5, s6, s7⟩ := HSZ.out
        have hfin := strs8 w8 n m ⟨#[61, 61]⟩ S1 S2 S3 S4 TX s1 s2 (by unfold maxLen; decide) s3 s4 s5 s6 s7
        have hbf := bthen HQ.out (hq8.alloc hz8 (.cells #[.string n, .string m, .string ⟨#[61, 61]⟩, .string S1, .string S2, .string S3, .string S4, .string TX] 9))
        go_wp2_with fail
        go_ret2
        exact ⟨_, _, rfl, hfin, hbf⟩
end Go.Proofs.YtdlhmjdjoadioabGreatDoor
