/- The contracts of the document's own Right and Holds of layer 4. -/
import Derived.Test.YtjkmnanadeffnaaDoorMatR
import Derived.Test.YtjkmnanadeffnaaDoorLabB
import Derived.IntWalk
namespace Go.Proofs.YtjkmnanadeffnaaDoor
open Go.RowKit Go.Maps

theorem rightM_is (m : Mat) : rightM m = (wordsC m.words && (nameC m.name.data.toList && (decide (1 ≤ m.how) && (decide (m.how ≤ 4) && (decide (1 ≤ m.words.length) && (decide (m.words.length ≤ 8) && (decide (2 < m.how) || decide (m.words.length = 1)))))))) := by
  rw [Bool.eq_iff_iff, rightM_iff]
  simp only [Bool.and_eq_true, Bool.or_eq_true, decide_eq_true_eq]
  constructor
  · rintro ⟨h1, h2, h3, h4, h5, h6, h7⟩
    exact ⟨h4, h1, h2, h3, h5, h6, h7.imp (fun h => by omega) id⟩
  · rintro ⟨h1, h2, h3, h4, h5, h6, h7⟩
    exact ⟨h2, h3, h4, h1, h5, h6, h7.imp (fun h => by omega) id⟩

def rHoldsM (v : ByteArray) (m : Mat) : Bool := if m.how = 1 ∨ m.how = 3 then inB v m.words else !inB v m.words
theorem rHoldsM_is {v : ByteArray} {m : Mat} (h : rightM m = true) : rHoldsM v m = holdsM v m := by
  obtain ⟨_, h1, h4, _⟩ := (rightM_iff m).1 h
  unfold rHoldsM holdsM
  have e : getW m.words v = inB v m.words := rfl
  rw [e]
  rcases (by omega : m.how = 1 ∨ m.how = 2 ∨ m.how = 3 ∨ m.how = 4) with h | h | h | h <;> rw [h] <;> cases inB v m.words <;> rfl

set_option maxHeartbeats 3200000 in
set_option maxRecDepth 100000 in
theorem rHolds_any (a' : Option Addr) (c' : Nat) (ls : List Lab) (v : Value) (m : Mat) (w : World) (hL : HasLabs w a' c' ls) (h : HasMat w v m) : Calls Tryd.prog 18 #[.slice a' ls.length c', v] w (BoolB (rHoldsM (getL ls m.name) m) w) := by
  obtain ⟨a, c, rfl, hW, hs, hwf⟩ := h
  have h2 := hW.2.1
  have h1 := hW.1
  unfold maxLen at h2
  have HG := Lib.hid (fun W (hb : Below w.heap.size w W) => rGet_any a' c' ls m.name W (hL.call hb))
  have hb1 := Blk.new w 25 #[.string m.name, .int .i64 m.how, .slice a m.words.length c]
  have hbl := (Below.refl _ w).alloc (Nat.le_refl _) (.cells #[.string m.name, .int .i64 m.how, .slice a m.words.length c] 25)
  have HW := Lib.hid hW
  have HB := Lib.hid hbl
  have HK := Lib.hid hb1
  obtain ⟨x0, x1, x2⟩ := hb1.cells3
  have htk : ∀ k (h : k < m.words.length), inB (getL ls m.name) (m.words.take (k + 1)) = (inB (getL ls m.name) (m.words.take k) || decide (m.words[k] = getL ls m.name)) := fun k h => by
    rw [List.take_succ_eq_append_getElem h, inB, List.any_append]; simp [inB]
  generalize getL ls m.name = V at *
  obtain ⟨R, hR⟩ : ∃ R, rHoldsM V m = R := ⟨_, rfl⟩
  rw [hR]
  have HRX := Lib.hid hR
  clear hR
  have HTK := Lib.hid htk
  clear hW hs hwf hL hb1 hbl htk
  go_enter Tryd.func18, Tryd.ntmps18
  go_upto_region 4 with (go_at_call 34; refine (HG.out _ HB.out).mono ?_; rintro e w2 ⟨rfl, hb2⟩; obtain ⟨y0, y1, y2⟩ := (HK.out.call hb2).cells3)
  have hbe := bthen HB.out hb2
  have HBE := Lib.hid hbe
  have HS := Lib.hid (HW.out.call hbe)
  clear hbe hb2 x0 x1 x2 HB HK HG HW
  go_loop [16, 6] (fun i e => ∃ k : Nat, k ≤ m.words.length ∧ i = .int .i64 k ∧ e = .bool (inB V (m.words.take k))) (fun i _ => m.words.length - (intOf i).toNat)
  case atStart => exact ⟨0, Nat.zero_le _, rfl, rfl⟩
  case round =>
    obtain ⟨n, hn, rfl, rfl⟩ := hrel
    by_cases hnl : n < m.words.length
    · obtain ⟨_, _, _, h4⟩ := HS.out
      rcases h4 with h4 | ⟨b, off, rfl, _, hcell⟩
      · rw [h4] at hnl; simp at hnl
      have hc := hcell n hnl
      have ht := HTK.out n hnl
      obtain ⟨X, hX⟩ : ∃ X, m.words[n] = X := ⟨_, rfl⟩
      rw [hX] at hc ht
      obtain ⟨Y, hY⟩ : ∃ Y, inB V (m.words.take n) = Y := ⟨_, rfl⟩
      rw [hY] at ht ⊢
      have hq := toList_eq_iff X V
      obtain ⟨Z, hZ⟩ : ∃ Z, decide (X = V) = Z := ⟨_, rfl⟩
      rw [hZ] at ht hq
      have HT := Lib.hid ht
      clear hcell hX ht hY hZ
      cases Y <;> cases Z
      all_goals
        go_wp2
        go_round
        case rel => exact ⟨n + 1, by omega, by go_num, by rw [HT.out]; rfl⟩
        case measure => simp [intOf]; omega
    · obtain rfl : n = m.words.length := by omega
      rw [List.take_length]
      clear HTK HS
      by_cases q1 : m.how = 1
      · have f1 : (m.how == 1) = true := beq_iff_eq.2 q1
        have hR : (m.how = 1 ∨ m.how = 3) := .inl q1
        have HR := Lib.hid hR
        clear q1 hR
        go_wp2
        go_ret
        exact ⟨by rw [← HRX.out, rHoldsM, if_pos HR.out]; rfl, HBE.out⟩
      · have f1 : (m.how == 1) = false := beq_eq_false_iff_ne.2 q1
        by_cases q3 : m.how = 3
        · have f3 : (m.how == 3) = true := beq_iff_eq.2 q3
          have hR : (m.how = 1 ∨ m.how = 3) := .inr q3
          have HR := Lib.hid hR
          clear q1 q3 hR
          go_wp2
          go_ret
          exact ⟨by rw [← HRX.out, rHoldsM, if_pos HR.out]; rfl, HBE.out⟩
        · have f3 : (m.how == 3) = false := beq_eq_false_iff_ne.2 q3
          have hR : ¬ (m.how = 1 ∨ m.how = 3) := fun h => h.elim q1 q3
          have HR := Lib.hid hR
          clear q1 q3 hR
          go_wp2
          go_ret
          exact ⟨by rw [← HRX.out, rHoldsM, if_neg HR.out]; rfl, HBE.out⟩
end Go.Proofs.YtjkmnanadeffnaaDoor
