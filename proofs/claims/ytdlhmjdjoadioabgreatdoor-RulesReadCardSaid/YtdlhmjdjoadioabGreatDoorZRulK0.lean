/- The contracts of the document's own In and Right of layer 8. -/
import Derived.Test.YtdlhmjdjoadioabGreatDoorZRulB
import Derived.Test.YtdlhmjdjoadioabGreatDoorMg13
namespace Go.Proofs.YtdlhmjdjoadioabGreatDoor
open Go.RowKit

theorem rIn_any (n : Int) (w : World) : Calls Tryz.prog 32 #[.int .i64 n] w (BoolS (inC n 0 1099511627776) w) := by
  unfold inC
  by_cases h : 0 ≤ n
  · have h1 : decide (0 ≤ n) = true := decide_eq_true h
    go_enter Tryz.func32, Tryz.ntmps32
    go_wp2
    go_ret
    exact ⟨by rw [h1, Bool.true_and]; rfl, rfl⟩
  · have h1 : decide (0 ≤ n) = false := decide_eq_false h
    go_enter Tryz.func32, Tryz.ntmps32
    go_wp2
    go_ret
    exact ⟨by simp, rfl⟩

/-- what is asked of a rule, test by test -/
theorem rulC_not (r : Rul) (h : hasN r.labels aName = true ∨ bwC r.name.data.toList = false ∨ bwC r.metric.data.toList = false ∨ r.how < 1 ∨ 5 < r.how ∨ r.tries < 1 ∨ 10 < r.tries ∨ r.limit < -1099511627776 ∨ 1099511627776 < r.limit ∨ inC r.fr 0 1099511627776 = false ∨ inC r.keep 0 1099511627776 = false ∨ ¬ r.labels.length ≤ 4) : rulC r = false := by
  rw [← Bool.not_eq_true, rulC_iff]
  rintro ⟨a, b, c, d, e, f, g, l⟩
  obtain ⟨l1, l2, l3⟩ := (rlabsC_iff _).1 l
  rcases h with h | h | h | h | h | h | h | h | h | h | h | h
  · rw [l3] at h; cases h
  · rw [a] at h; cases h
  · rw [b] at h; cases h
  · omega
  · omega
  · omega
  · omega
  · omega
  · omega
  · simp [inC] at h; omega
  · simp [inC] at h; omega
  · exact h l1
theorem rulC_yes (r : Rul) (h0 : hasN r.labels aName = false) (h1 : bwC r.name.data.toList = true) (h2 : bwC r.metric.data.toList = true) (h3 : ¬ r.how < 1) (h4 : ¬ 5 < r.how) (h5 : ¬ r.tries < 1) (h6 : ¬ 10 < r.tries)
    (h7 : ¬ r.limit < -1099511627776) (h8 : ¬ 1099511627776 < r.limit) (h9 : inC r.fr 0 1099511627776 = true) (h10 : inC r.keep 0 1099511627776 = true) (h11 : r.labels.length ≤ 4) : rulC r = rightC r.labels := by
  rw [Bool.eq_iff_iff, rulC_iff, rlabsC_iff]
  simp only [inC, Bool.and_eq_true, decide_eq_true_eq] at h9 h10
  exact ⟨fun h => h.2.2.2.2.2.2.2.2.1, fun h => ⟨h1, h2, ⟨by omega, by omega⟩, ⟨by omega, by omega⟩, h9, h10, ⟨by omega, by omega⟩, h11, h, h0⟩⟩

set_option maxHeartbeats 6400000 in
set_option maxRecDepth 100000 in
theorem rrRight_any (r : Rul) (a : Option Addr) (c : Nat) (w : World) (h : RulAt w r a c) : Calls Tryz.prog 12 #[.agg (rCells r a c)] w (BoolB (rulC r) w) := by
  obtain ⟨n, m, k, l, f, p, t, ls⟩ := r
  obtain ⟨hl, hn, hm⟩ := h
  have HNot := Lib.hid (rulC_not ⟨n, m, k, l, f, p, t, ls⟩)
  have HYes := Lib.hid (rulC_yes ⟨n, m, k, l, f, p, t, ls⟩)
  obtain ⟨R, hR⟩ : ∃ R, rulC ⟨n, m, k, l, f, p, t, ls⟩ = R := ⟨_, rfl⟩
  rw [hR] at HNot HYes ⊢
  clear hR
  simp only [rCells] at *
  have HN := Lib.hid (fun W => rbWord_any n W hn)
  have HM := Lib.hid (fun W => rbWord_any m W hm)
  have H5 := Lib.hid (fun W => rIn_any f W)
  have H6 := Lib.hid (fun W => rIn_any p W)
  have H8 := Lib.hid (fun W (h : HasLabs W a c ls) => rRight_any a c ls W h)
  have hb := (Below.refl w.heap.size w).alloc (Nat.le_refl _) (.cells #[.string n, .string m, .int .i64 k, .int .i64 l, .int .i64 f, .int .i64 p, .int .i64 t, .slice a ls.length c] 24)
  have hB := Blk.new w 24 #[.string n, .string m, .int .i64 k, .int .i64 l, .int .i64 f, .int .i64 p, .int .i64 t, .slice a ls.length c]
  have hl' := hl.call hb
  have hlc := hl.1
  have hcm := hl.2.1
  have hpl := hl'.2.2.2
  unfold maxLen at hcm
  obtain ⟨J, hJ, hok, hend⟩ := all_endB (fun l : Lab => !decide (l.1 = aName)) ls
  have HOK := Lib.hid hok
  have HE : Hid (J = ls.length ∧ hasN ls aName = false ∨ ∃ hj : J < ls.length, decide (ls[J].1 = aName) = true ∧ hasN ls aName = true) := Lib.hid (by
    rcases hend with ⟨e, hh⟩ | ⟨hj, hq, _⟩
    · refine .inl ⟨e, ?_⟩
      rw [← Bool.not_eq_true, hasN_iff]
      rintro ⟨m, hm, e2⟩
      have := List.all_eq_true.1 hh m hm
      rw [decide_eq_true e2] at this
      cases this
    · have hq' : decide (ls[J].1 = aName) = true := by simpa using hq
      exact .inr ⟨hj, hq', (hasN_iff _ _).2 ⟨_, List.getElem_mem hj, of_decide_eq_true hq'⟩⟩)
  clear hl hok hend
  have HL := Lib.hid hl'
  have HPL := Lib.hid hpl
  have HB := Lib.hid hb
  clear hl' hpl hb
  go_enter Tryz.func12, Tryz.ntmps12
  go_upto_region 1 with fail
  have hz : (w.alloc (.cells #[.string n, .string m, .int .i64 k, .int .i64 l, .int .i64 f, .int .i64 p, .int .i64 t, .slice a ls.length c] 24)).heap.size = w.heap.size + 1 := by simp
  generalize w.alloc (.cells #[.string n, .string m, .int .i64 k, .int .i64 l, .int .i64 f, .int .i64 p, .int .i64 t, .slice a ls.length c] 24) = wx at *
  obtain ⟨c0, c1, c2, c3, c4, c5, c6, c7⟩ := hB.cells8
  go_wp2_with fail
  go_loopg [8] ls.length (fun gg i wr => ∃ k : Nat, k + gg = ls.length ∧ k ≤ J ∧ i = .int .i64 k ∧ Below wx.heap.size wx wr)
  case atStart => exact ⟨0, by omega, Nat.zero_le _, rfl, Below.refl _ _⟩
  case round =>
    obtain ⟨i, hig, hiJ, rfl, hbr⟩ := hrel
    have hBr := hB.call hbr
    obtain ⟨c0, c1, c2, c3, c4, c5, c6, c7⟩ := hBr.cells8
    cases gk with
    | zero =>
      obtain rfl : i = ls.length := by omega
      have hno : hasN ls aName = false := by
        rcases HE.out with ⟨_, h⟩ | ⟨h, _⟩
        · exact h
        · omega
      have HL2 := Lib.hid (HL.out.call hbr)
      have HBB := Lib.hid (bthen HB.out hbr)
      clear hbr hB hBr
      have HNO := Lib.hid hno
      clear hno
      cases q1 : bwC n.data.toList with
      | false =>
        obtain rfl : R = false := HNot.out (.inr (.inl q1))
        rw [q1] at HN
        go_wp2_with (go_at_call 31; (with_reducible refine (HN.out _).mono ?_); rintro e w2 ⟨rfl, rfl⟩)
        go_ret
        exact ⟨rfl, HBB.out⟩
      | true =>
      have Q1 := Lib.hid q1
      rw [q1] at HN
      clear q1
      cases q2 : bwC m.data.toList with
      | false =>
        obtain rfl : R = false := HNot.out (.inr (.inr (.inl q2)))
        rw [q2] at HM
        clear q2
        go_wp2_with (first | (go_at_call 31; (with_reducible refine (HN.out _).mono ?_); rintro e w2 ⟨rfl, rfl⟩) | (go_at_call 31; (with_reducible refine (HM.out _).mono ?_); rintro e w2 ⟨rfl, rfl⟩))
        go_ret
        exact ⟨rfl, HBB.out⟩
      | true =>
      have Q2 := Lib.hid q2
      rw [q2] at HM
      clear q2
      by_cases q3 : k < 1
      · obtain rfl : R = false := HNot.out (.inr (.inr (.inr (.inl q3))))
        have d3 : decide (k < 1) = true := decide_eq_true q3
        clear q3
        go_wp2_with (first | (go_at_call 31; (with_reducible refine (HN.out _).mono ?_); rintro e w2 ⟨rfl, rfl⟩) | (go_at_call 31; (with_reducible refine (HM.out _).mono ?_); rintro e w2 ⟨rfl, rfl⟩))
        go_ret
        exact ⟨rfl, HBB.out⟩
      have d3 : decide (k < 1) = false := decide_eq_false q3
      have Q3 := Lib.hid q3
      clear q3
      by_cases q4 : 5 < k
      · obtain rfl : R = false := HNot.out (.inr (.inr (.inr (.inr (.inl q4)))))
        have d4 : decide (5 < k) = true := decide_eq_true q4
        clear q4
        go_wp2_with (first | (go_at_call 31; (with_reducible refine (HN.out _).mono ?_); rintro e w2 ⟨rfl, rfl⟩) | (go_at_call 31; (with_reducible refine (HM.out _).mono ?_); rintro e w2 ⟨rfl, rfl⟩))
        go_ret
        exact ⟨rfl, HBB.out⟩
      have d4 : decide (5 < k) = false := decide_eq_false q4
      have Q4 := Lib.hid q4
      clear q4
      by_cases q5 : t < 1
      · obtain rfl : R = false := HNot.out (.inr (.inr (.inr (.inr (.inr (.inl q5))))))
        have d5 : decide (t < 1) = true := decide_eq_true q5
        clear q5
        go_wp2_with (first | (go_at_call 31; (with_reducible refine (HN.out _).mono ?_); rintro e w2 ⟨rfl, rfl⟩) | (go_at_call 31; (with_reducible refine (HM.out _).mono ?_); rintro e w2 ⟨rfl, rfl⟩))
        go_ret
        exact ⟨rfl, HBB.out⟩
      have d5 : decide (t < 1) = false := decide_eq_false q5
      have Q5 := Lib.hid q5
      clear q5
      by_cases q6 : 10 < t
      · obtain rfl : R = false := HNot.out (.inr (.inr (.inr (.inr (.inr (.inr (.inl q6)))))))
        have d6 : decide (10 < t) = true := decide_eq_true q6
        clear q6
        go_wp2_with (first | (go_at_call 31; (with_reducible refine (HN.out _).mono ?_); rintro e w2 ⟨rfl, rfl⟩) | (go_at_call 31; (with_reducible refine (HM.out _).mono ?_); rintro e w2 ⟨rfl, rfl⟩))
        go_ret
        exact ⟨rfl, HBB.out⟩
      have d6 : decide (10 < t) = false := decide_eq_false q6
      have Q6 := Lib.hid q6
      clear q6
      by_cases q7 : l < -1099511627776
      · obtain rfl : R = false := HNot.out (.inr (.inr (.inr (.inr (.inr (.inr (.inr (.inl q7))))))))
        have d7 : decide (l < -1099511627776) = true := decide_eq_true q7
        clear q7
        go_wp2_with (first | (go_at_call 31; (with_reducible refine (HN.out _).mono ?_); rintro e w2 ⟨rfl, rfl⟩) | (go_at_call 31; (with_reducible refine (HM.out _).mono ?_); rintro e w2 ⟨rfl, rfl⟩))
        go_ret
        exact ⟨rfl, HBB.out⟩
      have d7 : decide (l < -1099511627776) = false := decide_eq_false q7
      have Q7 := Lib.hid q7
      clear q7
      by_cases q8 : 1099511627776 < l
      · obtain rfl : R = false := HNot.out (.inr (.inr (.inr (.inr (.inr (.inr (.inr (.inr (.inl q8)))))))))
        have d8 : decide (1099511627776 < l) = true := decide_eq_true q8
        clear q8
        go_wp2_with (first | (go_at_call 31; (with_reducible refine (HN.out _).mono ?_); rintro e w2 ⟨rfl, rfl⟩) | (go_at_call 31; (with_reducible refine (HM.out _).mono ?_); rintro e w2 ⟨rfl, rfl⟩))
        go_ret
        exact ⟨rfl, HBB.out⟩
      have d8 : decide (1099511627776 < l) = false := decide_eq_false q8
      have Q8 := Lib.hid q8
      clear q8
      go_upto_region 11 with (first | (go_at_call 31; (with_reducible refine (HN.out _).mono ?_); rintro e w2 ⟨rfl, rfl⟩) | (go_at_call 31; (with_reducible refine (HM.out _).mono ?_); rintro e w2 ⟨rfl, rfl⟩))
      cases q9 : inC f 0 1099511627776 with
      | false =>
        obtain rfl : R = false := HNot.out (.inr (.inr (.inr (.inr (.inr (.inr (.inr (.inr (.inr (.inl q9))))))))))
        rw [q9] at H5
        clear q9
        go_wp2_with (first | (go_at_call 32; (with_reducible refine (H5.out _).mono ?_); rintro e w2 ⟨rfl, rfl⟩))
        go_ret
        exact ⟨rfl, HBB.out⟩
      | true =>
      have Q9 := Lib.hid q9
      rw [q9] at H5
      clear q9
      cases q10 : inC p 0 1099511627776 with
      | false =>
        obtain rfl : R = false := HNot.out (.inr (.inr (.inr (.inr (.inr (.inr (.inr (.inr (.inr (.inr (.inl q10)))))))))))
        rw [q10] at H6
        clear q10
        go_wp2_with (first | (go_at_call 32; (with_reducible refine (H5.out _).mono ?_); rintro e w2 ⟨rfl, rfl⟩) | (go_at_call 32; (with_reducible refine (H6.out _).mono ?_); rintro e w2 ⟨rfl, rfl⟩))
        go_ret
        exact ⟨rfl, HBB.out⟩
      | true =>
      have Q10 := Lib.hid q10
      rw [q10] at H6
      clear q10
      by_cases q11 : ls.length ≤ 4
      · have d11 : decide ((ls.length : Int) ≤ 4) = true := decide_eq_true (by omega)
        obtain rfl : R = rightC ls := HYes.out HNO.out Q1.out Q2.out Q3.out Q4.out Q5.out Q6.out Q7.out Q8.out Q9.out Q10.out q11
        clear q11
        go_wp2_with (first | (go_at_call 32; (with_reducible refine (H5.out _).mono ?_); rintro e w2 ⟨rfl, rfl⟩) | (go_at_call 32; (with_reducible refine (H6.out _).mono ?_); rintro e w2 ⟨rfl, rfl⟩) | (go_at_call 33; refine (H8.out _ HL2.out).mono ?_; rintro e w3 ⟨rfl, hb3⟩))
        go_ret
        exact ⟨rfl, bthen HBB.out hb3⟩
      · have d11 : decide ((ls.length : Int) ≤ 4) = false := decide_eq_false (by omega)
        obtain rfl : R = false := HNot.out (.inr (.inr (.inr (.inr (.inr (.inr (.inr (.inr (.inr (.inr (.inr (q11))))))))))))
        clear q11
        go_wp2_with (first | (go_at_call 32; (with_reducible refine (H5.out _).mono ?_); rintro e w2 ⟨rfl, rfl⟩) | (go_at_call 32; (with_reducible refine (H6.out _).mono ?_); rintro e w2 ⟨rfl, rfl⟩))
        go_ret
        exact ⟨rfl, HBB.out⟩
    | succ gg =>
      have hkl : i < ls.length := by omega
      obtain ⟨b1, o1, rfl, hc1, hc2⟩ : ∃ b off, a = some ⟨b, off, none⟩ ∧ wx.cell? ⟨b, off + i * 2, none⟩ = some (.string ls[i].1) ∧ wx.cell? ⟨b, off + i * 2 + 1, none⟩ = some (.string ls[i].2) := by
        rcases HPL.out with rfl | ⟨b, off, e, _, hc⟩
        · simp at hkl
        · exact ⟨b, off, e, hc i hkl⟩
      have hc1 := cellL hbr hc1
      have hc2 := cellL hbr hc2
      have hbn := (Below.refl wr.heap.size wr).alloc (Nat.le_refl _) (.cells #[.string ls[i].1, .string ls[i].2] 60)
      have heq : (ls[i].1.toList == [97, 108, 101, 114, 116]) = decide (ls[i].1 = aName) := by
        have := toList_eq_iff ls[i].1 aName
        rwa [show aName.toList = [97, 108, 101, 114, 116] by rw [ByteArray.toList_eq]; rfl] at this
      by_cases hiJ2 : i = J
      · subst hiJ2
        rcases HE.out with ⟨h, _⟩ | ⟨_, hq, hyes⟩
        · omega
        obtain rfl : R = false := HNot.out (.inl hyes)
        rw [hq] at heq
        have HBN := Lib.hid hbn
        clear hq hyes hbn
        generalize ls[i] = X at *
        have hX := Blk.new wr 60 #[.string X.1, .string X.2]
        have x0 := hX.cell 0
        have x1 := hX.cell 1
        go_wp2_with fail
        go_ret
        exact ⟨rfl, bthen (bthen HB.out hbr) HBN.out⟩
      · have hq : decide (ls[i].1 = aName) = false := by have := HOK.out i (by omega) hkl; simpa using this
        rw [hq] at heq
        have HBN := Lib.hid hbn
        clear hq hbn
        generalize ls[i] = X at *
        have hX := Blk.new wr 60 #[.string X.1, .string X.2]
        have x0 := hX.cell 0
        have x1 := hX.cell 1
        go_wp2_with fail
        go_roundg gg
        case measure => omega
        case rel => exact ⟨i + 1, by omega, by omega, by go_num, bthen hbr HBN.out⟩
end Go.Proofs.YtdlhmjdjoadioabGreatDoor
