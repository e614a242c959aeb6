/- The contract of the document's own Words of layer 8. -/
import Derived.Test.YtdlhmjdjoadioabGreatDoorZRulO
import Derived.Test.YtdlhmjdjoadioabGreatDoorZLabJ
import Derived.Test.YtdlhmjdjoadioabGreatDoorMg8
namespace Go.Proofs.YtdlhmjdjoadioabGreatDoor
open Go.RowKit

def StrsZ (ss : List ByteArray) (w : World) (e : Ending) (w' : World) : Prop := ∃ p q, e = .returned (.slice p ss.length q) ∧ HasStrs w' p q ss ∧ Below w.heap.size w w'
set_option maxHeartbeats 12800000 in
set_option maxRecDepth 100000 in
theorem rWords_any (r : Rul) (a : Option Addr) (c : Nat) (w : World) (h : RulAt w r a c) (hr : rulC r = true) (hT : TabW w) : Calls Tryz.prog 14 #[.agg (rCells r a c)] w (StrsZ (wordsL r) w) := by
  have hb := (Below.refl w.heap.size w).alloc (Nat.le_refl _) (.cells (rCells r a c) 24)
  have hB := Blk.new w 24 (rCells r a c)
  have hA := h.call hb
  have hT1 := hT.call hb
  have hszn := h.2
  obtain ⟨_, _, ⟨g1, g2⟩, ⟨g3, g4⟩, ⟨g5, g6⟩, ⟨g7, g8⟩, ⟨g9, g10⟩, g11⟩ := (rulC_iff r).1 hr
  have hrl := ((rlabsC_iff _).1 g11).2.1
  have hX := fun W (h : HasLabs W a c r.labels) => rText_any a c r.labels W h hrl
  have hts := text_len hrl
  have hz1 := itoa_len r.limit g3 g4
  have hz2 := itoa_len r.fr (by omega) g6
  have hz3 := itoa_len r.keep (by omega) g8
  have hz4 := itoa_len r.tries (by omega) (by omega)
  have hs2 : (signL r.how).size ≤ maxLen := by
    have : r.how = 1 ∨ r.how = 2 ∨ r.how = 3 ∨ r.how = 4 ∨ r.how = 5 := by omega
    unfold maxLen
    rcases this with e | e | e | e | e <;> rw [e] <;> decide
  have HS := Lib.hid (fun W => rSign_any r.how g1 g2 W)
  have HI1 := Lib.hid (fun W (hW : TabW W) => itoa_any r.limit (by omega) (by omega) W hW)
  have HI2 := Lib.hid (fun W (hW : TabW W) => itoa_any r.fr (by omega) (by omega) W hW)
  have HI3 := Lib.hid (fun W (hW : TabW W) => itoa_any r.keep (by omega) (by omega) W hW)
  have HI4 := Lib.hid (fun W (hW : TabW W) => itoa_any r.tries (by omega) (by omega) W hW)
  have HX := Lib.hid hX
  have HSZ := Lib.hid (And.intro hszn (And.intro hs2 (And.intro hz1 (And.intro hz2 (And.intro hz3 (And.intro hz4 hts))))))
  clear h hT hX hrl g1 g2 g3 g4 g5 g6 g7 g8 g9 g10 g11 hr hts hz1 hz2 hz3 hz4 hs2 hszn
  obtain ⟨n, m, k, l, f, p, t, ls⟩ := r
  simp only [rCells, wordsL] at *
  generalize itoaS l = S1 at *
  generalize itoaS f = S2 at *
  generalize itoaS p = S3 at *
  generalize itoaS t = S4 at *
  generalize signL k = SG at *
  have hTX : textB ls = textS ls := rfl
  rw [hTX]
  clear hTX
  generalize textS ls = TX at *
  have HCS := Lib.hid (fun W (hW : Below (w.alloc (.cells #[.string n, .string m, .int .i64 k, .int .i64 l, .int .i64 f, .int .i64 p, .int .i64 t, .slice a ls.length c] 24)).heap.size (w.alloc (.cells #[.string n, .string m, .int .i64 k, .int .i64 l, .int .i64 f, .int .i64 p, .int .i64 t, .slice a ls.length c] 24)) W) => (hB.call hW).cells8)
  have HAT := Lib.hid (fun W (hW : Below (w.alloc (.cells #[.string n, .string m, .int .i64 k, .int .i64 l, .int .i64 f, .int .i64 p, .int .i64 t, .slice a ls.length c] 24)).heap.size (w.alloc (.cells #[.string n, .string m, .int .i64 k, .int .i64 l, .int .i64 f, .int .i64 p, .int .i64 t, .slice a ls.length c] 24)) W) => (hA.call hW).1)
  have HT := Lib.hid (fun W (hW : Below (w.alloc (.cells #[.string n, .string m, .int .i64 k, .int .i64 l, .int .i64 f, .int .i64 p, .int .i64 t, .slice a ls.length c] 24)).heap.size (w.alloc (.cells #[.string n, .string m, .int .i64 k, .int .i64 l, .int .i64 f, .int .i64 p, .int .i64 t, .slice a ls.length c] 24)) W) => hT1.call hW)
  have HQ := Lib.hid hb
  clear hA hT1 hb hB
  go_enter Tryz.func14, Tryz.ntmps14
  go_upto_region 1 with fail
  generalize w.alloc (.cells #[.string n, .string m, .int .i64 k, .int .i64 l, .int .i64 f, .int .i64 p, .int .i64 t, .slice a ls.length c] 24) = wx at *
  go_region_held3 (fun w' => w'.cell? ⟨w.heap.size, 0, none⟩ = some (.string n) ∧ w'.cell? ⟨w.heap.size, 1, none⟩ = some (.string m) ∧ w'.cell? ⟨w.heap.size, 2, none⟩ = some (.int .i64 k) ∧ w'.cell? ⟨w.heap.size, 3, none⟩ = some (.int .i64 l) ∧ w'.cell? ⟨w.heap.size, 4, none⟩ = some (.int .i64 f) ∧ w'.cell? ⟨w.heap.size, 5, none⟩ = some (.int .i64 p) ∧ w'.cell? ⟨w.heap.size, 6, none⟩ = some (.int .i64 t) ∧ w'.cell? ⟨w.heap.size, 7, none⟩ = some (.slice a ls.length c))
    (first | (with_reducible exact HCS.out _ (Below.refl _ _).drew) | (with_reducible exact HCS.out _ hq9) | (with_reducible exact HCS.out _ hq8) | (with_reducible exact HCS.out _ hq7) | (with_reducible exact HCS.out _ hq6) | (with_reducible exact HCS.out _ hq5) | (with_reducible exact HCS.out _ hq4) | (with_reducible exact HCS.out _ (hq9.alloc hz9 _)))
    (first
      | (go_at_call 27; refine (HS.out _).mono ?_; rintro e w4 ⟨rfl, hb4⟩; have hq4 := bthen (Below.refl _ _).drew hb4)
      | (go_at_call 34; (with_reducible refine (HX.out _ (HAT.out _ hq8)).mono ?_); rintro e w9 ⟨rfl, hb9⟩; have hq9 := bthen hq8 hb9; have hz9 := hq9.size)
      | (go_at_call 20; (with_reducible refine (HI1.out _ (HT.out _ hq4)).mono ?_); rintro e w5 ⟨rfl, hb5⟩; have hq5 := bthen hq4 hb5)
      | (go_at_call 20; (with_reducible refine (HI2.out _ (HT.out _ hq5)).mono ?_); rintro e w6 ⟨rfl, hb6⟩; have hq6 := bthen hq5 hb6)
      | (go_at_call 20; (with_reducible refine (HI3.out _ (HT.out _ hq6)).mono ?_); rintro e w7 ⟨rfl, hb7⟩; have hq7 := bthen hq6 hb7)
      | (go_at_call 20; (with_reducible refine (HI4.out _ (HT.out _ hq7)).mono ?_); rintro e w8 ⟨rfl, hb8⟩; have hq8 := bthen hq7 hb8))
  all_goals
    obtain ⟨⟨s1, s2⟩, sg, s3, s4, s5, s6, s7⟩ := HSZ.out
    have hfin := strs8 w9 n m SG S1 S2 S3 S4 TX s1 s2 sg s3 s4 s5 s6 s7
    have hbf := bthen HQ.out (hq9.alloc hz9 (.cells #[.string n, .string m, .string SG, .string S1, .string S2, .string S3, .string S4, .string TX] 9))
    go_wp2_with fail
    go_ret
    exact ⟨_, _, rfl, hfin, hbf⟩
end Go.Proofs.YtdlhmjdjoadioabGreatDoor
/- The contract of the library's Equal of rows of labels. -/
namespace Go.Proofs.YtdlhmjdjoadioabGreatDoor
open Go.RowKit
open Go.WideShapes (bytes_inj)

set_option maxHeartbeats 1600000 in
set_option maxRecDepth 100000 in
theorem equalL_some (b off c b' off' c' : Nat) (ls ms : List Lab) (w : World) (hlc : ls.length ≤ c) (hcm : c ≤ maxLen) (hlc' : ms.length ≤ c') (_hcm' : c' ≤ maxLen) (_hb : b < w.heap.size) (_hb' : b' < w.heap.size)
    (hcell : ∀ i (h : i < ls.length), w.cell? ⟨b, off + i * 2, none⟩ = some (.string ls[i].1) ∧ w.cell? ⟨b, off + i * 2 + 1, none⟩ = some (.string ls[i].2))
    (hcell' : ∀ i (h : i < ms.length), w.cell? ⟨b', off' + i * 2, none⟩ = some (.string ms[i].1) ∧ w.cell? ⟨b', off' + i * 2 + 1, none⟩ = some (.string ms[i].2)) (hl : ls.length = ms.length) :
    Calls Tryz.prog 35 #[.slice (some ⟨b, off, none⟩) ls.length c, .slice (some ⟨b', off', none⟩) ms.length c'] w (BoolB (decide (ls = ms)) w) := by
  unfold maxLen at hcm _hcm'
  have HC := Lib.hid hcell
  have HC' := Lib.hid hcell'
  have hlen : ((ls.length : Int) != (ms.length : Int)) = false := by rw [hl]; simp
  have hlb : ms.length ≤ ls.length := by omega
  have hlb' : ls.length ≤ ms.length := by omega
  have HL := Lib.hid hl
  clear hcell hcell' hl
  go_enter Tryz.func35, Tryz.ntmps35
  go_wp2
  go_loopw [13] (fun i wr => ∃ k : Nat, k ≤ ls.length ∧ i = .int .i64 k ∧ ls.take k = ms.take k ∧ Below w.heap.size w wr) (fun i _ => ls.length - (intOf i).toNat)
  case atStart => exact ⟨0, Nat.zero_le _, rfl, rfl, Below.refl _ _⟩
  case round =>
    obtain ⟨k, hk, rfl, he, hbl⟩ := hrel
    have HE := Lib.hid he
    clear he
    by_cases hkl : k < ls.length
    · have hkm : k < ms.length := by omega
      have hc1 := cellLater hbl (HC.out k hkl).1
      have hc2 := cellLater hbl (HC.out k hkl).2
      have hd1 := cellLater hbl (HC'.out k hkm).1
      have hd2 := cellLater hbl (HC'.out k hkm).2
      have hne := fun W => run_neq_lab ls[k] (ms[k]'hkm) W
      by_cases hq : ls[k] = ms[k]'hkm
      · have htk : ls.take (k + 1) = ms.take (k + 1) := by
          rw [List.take_succ_eq_append_getElem hkl, List.take_succ_eq_append_getElem hkm, HE.out, hq]
        have HT := Lib.hid htk
        rw [decide_eq_true hq] at hne
        clear htk hq
        go_wp2_with fail
        go_quiet (fail)
        go_wp2
        go_roundw
        case rel => exact ⟨k + 1, by omega, by go_num, HT.out, below_drewN hbl _⟩
        case measure => simp [intOf]; omega
      · have hf : decide (ls = ms) = false := by
          rw [decide_eq_false_iff_not]
          intro e
          subst e
          exact hq rfl
        have HF := Lib.hid hf
        rw [decide_eq_false hq] at hne
        clear hq hf
        go_wp2_with fail
        go_quiet (fail)
        go_wp2
        go_ret
        rw [HF.out]
        exact ⟨rfl, below_drewN hbl _⟩
    · have ht : decide (ls = ms) = true := by
        have := HE.out
        rw [List.take_of_length_le (by omega), List.take_of_length_le (by omega)] at this
        rw [decide_eq_true_iff]; exact this
      go_wp2
      go_ret
      rw [ht]
      exact ⟨rfl, hbl⟩

theorem equalL_any (a a' : Option Addr) (c c' : Nat) (ls ms : List Lab) (w : World) (h : HasLabs w a c ls) (h' : HasLabs w a' c' ms) :
    Calls Tryz.prog 35 #[.slice a ls.length c, .slice a' ms.length c'] w (BoolB (decide (ls = ms)) w) := by
  obtain ⟨h1, h2, h3, h4⟩ := h
  obtain ⟨g1, g2, g3, g4⟩ := h'
  unfold maxLen at h2 g2
  by_cases hl : ls.length = ms.length
  · rcases h4 with rfl | ⟨b, off, rfl, hb, hc⟩
    · obtain rfl : ms = [] := List.eq_nil_of_length_eq_zero hl.symm
      go_enter Tryz.func35, Tryz.ntmps35
      go_wp2
      refine wp_loop_rounds 1 ?_
      rw [rounds_succ]
      go_wp2
      go_ret
      exact ⟨rfl, Below.refl _ _⟩
    · rcases g4 with rfl | ⟨b', off', rfl, hb', hc'⟩
      · obtain rfl : ls = [] := List.eq_nil_of_length_eq_zero hl
        go_enter Tryz.func35, Tryz.ntmps35
        go_wp2
        refine wp_loop_rounds 1 ?_
        rw [rounds_succ]
        go_wp2
        go_ret
        exact ⟨rfl, Below.refl _ _⟩
      · exact equalL_some b off c b' off' c' ls ms w h1 (by unfold maxLen; omega) g1 (by unfold maxLen; omega) hb hb' hc hc' hl
  · have hlen : ((ls.length : Int) != (ms.length : Int)) = true := by rw [bne_iff_ne]; omega
    have hf : decide (ls = ms) = false := by
      rw [decide_eq_false_iff_not]
      intro e
      exact hl (by rw [e])
    rw [hf]
    clear hl hf h3 h4 g3 g4
    go_enter Tryz.func35, Tryz.ntmps35
    go_wp2
    go_ret
    exact ⟨rfl, Below.refl _ _⟩

end Go.Proofs.YtdlhmjdjoadioabGreatDoor
