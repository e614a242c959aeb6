/- The contracts of block.rightBlock and block.Right. -/
import Derived.Test.YtmhekhilgllciaaGreatBlkD
import Derived.Laws.Rows
import Derived.Laws.Tables
import Derived.Outline
namespace Go.Proofs.YtmhekhilgllciaaGreat
open Go.RowKit

theorem int_neq (a b : Nat) : ((a : Int) != (b : Int)) = !decide (a = b) := by
  by_cases h : a = b
  · rw [h]; simp
  · rw [decide_eq_false h, bne_iff_ne.2 (by omega)]; rfl
theorem mem_sizes {w : World} {a : Option Addr} {c : Nat} {ss : List ByteArray} (h : HasStrs w a c ss) (k : Nat) (hk : k < ss.length) : ss[k].size ≤ maxLen := h.2.2.1 _ (List.getElem_mem hk)
theorem all_endB {α : Type} (p : α → Bool) (l : List α) : ∃ J, J ≤ l.length ∧ (∀ k (_h : k < J) (h2 : k < l.length), p l[k] = true) ∧ (J = l.length ∧ l.all p = true ∨ ∃ hj : J < l.length, p l[J] = false ∧ l.all p = false) := by
  cases h : l.all p with
  | true =>
    rw [List.all_eq_true] at h
    exact ⟨l.length, Nat.le_refl _, fun k _ h2 => h _ (List.getElem_mem h2), .inl ⟨rfl, rfl⟩⟩
  | false =>
    obtain ⟨j, hj, hb, ha⟩ := first_not (fun i => if hi : i < l.length then p l[i] else true) l.length (fun hall => by
      have : l.all p = true := by
        rw [List.all_eq_true]
        intro x hx
        obtain ⟨i, hi, rfl⟩ := List.getElem_of_mem hx
        have := hall i hi
        simpa [hi] using this
      rw [h] at this; cases this)
    refine ⟨j, by omega, fun k hk h2 => ?_, .inr ⟨hj, by simpa [hj] using hb, rfl⟩⟩
    have := ha k hk
    simpa [h2] using this

set_option maxHeartbeats 3200000 in
set_option maxRecDepth 100000 in
theorem bBlock_any (v : Value) (d : Dfn) (w : World) (h : HasDef w v d) : Calls Tryz.prog 124 #[v] w (BoolW (defC d) w) := by
  obtain ⟨q, rfl, rfl, hk, hv, hs⟩ := h
  obtain ⟨d, ka, kc, va, vc⟩ := q
  simp only at hk hv hs ⊢
  have hb := (Below.refl w.heap.size w).alloc (Nat.le_refl _) (.cells #[.string d.kind, .slice ka d.keys.length kc, .slice va d.vals.length vc] 113)
  have hB := Blk.new w 113 #[.string d.kind, .slice ka d.keys.length kc, .slice va d.vals.length vc]
  have hk' := hk.call hb
  have hv' := hv.call hb
  have HW := Lib.hid (fun W => bWord_any d.kind W hs)
  obtain ⟨A, hA⟩ : ∃ A, bwC d.kind.data.toList = A := ⟨_, rfl⟩
  rw [hA] at HW
  have hd : defC d = (A && decide (d.keys.length ≤ 64) && decide (d.keys.length = d.vals.length) && keysC d.keys d.vals) := by rw [defC, hA]
  obtain ⟨R, hR⟩ : ∃ R, defC d = R := ⟨_, rfl⟩
  rw [hR]
  rw [hR] at hd
  have HR := Lib.hid hd
  have hne := int_neq d.keys.length d.vals.length
  have l1 := hk.1
  have l2 := hk.2.1
  have l3 := hv.1
  have l4 := hv.2.1
  unfold maxLen at l2 l4
  go_enter Tryz.func124, Tryz.ntmps124
  go_upto_region 1 with fail
  generalize w.alloc (.cells #[.string d.kind, .slice ka d.keys.length kc, .slice va d.vals.length vc] 113) = wx at *
  obtain ⟨c0, c1, c2⟩ := hB.cells3
  have HBB := Lib.hid hB
  have HK := Lib.hid hk'
  have HV := Lib.hid hv'
  have HB := Lib.hid hb
  clear hd hR hA hk hv hs hb hB hk' hv'
  cases A with
  | false =>
    obtain rfl : R = false := by rw [HR.out]; rfl
    go_wp2_with (go_at_call 186; refine (HW.out _).mono ?_; rintro e w2 ⟨rfl, rfl⟩)
    go_ret
    exact ⟨rfl, HB.out⟩
  | true =>
  by_cases h64 : d.keys.length ≤ 64
  case neg =>
    obtain rfl : R = false := by rw [HR.out, decide_eq_false h64]; rfl
    go_wp2_with (go_at_call 186; refine (HW.out _).mono ?_; rintro e w2 ⟨rfl, rfl⟩)
    go_ret
    exact ⟨rfl, HB.out⟩
  by_cases heq : d.keys.length = d.vals.length
  case neg =>
    obtain rfl : R = false := by rw [HR.out, decide_eq_false heq, Bool.and_false, Bool.false_and]
    rw [decide_eq_false heq] at hne
    simp only [Bool.not_false] at hne
    clear heq
    go_wp2_with (go_at_call 186; refine (HW.out _).mono ?_; rintro e w2 ⟨rfl, rfl⟩)
    go_ret
    exact ⟨rfl, HB.out⟩
  rw [decide_eq_true heq] at hne
  simp only [Bool.not_true] at hne
  have HR2 : Hid (R = keysC d.keys d.vals) := Lib.hid (by rw [HR.out, decide_eq_true heq, decide_eq_true h64]; rfl)
  clear HR
  have HEQ := Lib.hid heq
  clear heq
  go_upto_region 3 with (go_at_call 186; refine (HW.out _).mono ?_; rintro e w2 ⟨rfl, rfl⟩)
  clear hne HW
  obtain ⟨J, hJ, hok, hend⟩ := keys_end d.keys d.vals
  have HOK := Lib.hid hok
  have HE := Lib.hid hend
  clear hok hend
  by_cases hkz : d.keys.length = 0
  · have h0 : keysC d.keys d.vals = true := by
      rw [List.eq_nil_of_length_eq_zero hkz]; rfl
    obtain rfl : R = true := by rw [HR2.out, h0]
    clear h0
    go_wp2_with fail
    refine wp_loop_rounds 1 ?_
    rw [rounds_succ]
    go_wp2_with fail
    go_ret
    exact ⟨rfl, HB.out⟩
  obtain ⟨b1, o1, rfl⟩ : ∃ b off, ka = some ⟨b, off, none⟩ := by
    rcases HK.out.2.2.2 with h | ⟨b, off, h, _⟩
    · exact absurd (by rw [h]; rfl) hkz
    · exact ⟨b, off, h⟩
  obtain ⟨b2, o2, rfl⟩ : ∃ b off, va = some ⟨b, off, none⟩ := by
    rcases HV.out.2.2.2 with h | ⟨b, off, h, _⟩
    · exact absurd (by rw [HEQ.out, h]; rfl) hkz
    · exact ⟨b, off, h⟩
  clear hkz
  go_wp2_with fail
  go_loop [27, 3, 4] (fun i _ _ => ∃ k : Nat, k ≤ J ∧ i = .int .i64 k) (fun i _ _ => d.keys.length - (intOf i).toNat)
  case atStart => exact ⟨0, Nat.zero_le _, rfl⟩
  case round =>
    obtain ⟨k, hkJ, rfl⟩ := hrel
    by_cases hkl : k < d.keys.length
    · have hkv : k < d.vals.length := by have := HEQ.out; omega
      have e1 := HK.out.at k hkl
      have e2 := HV.out.at k hkv
      have hm1 := mem_sizes HK.out k hkl
      have hm2 := mem_sizes HV.out k hkv
      have hcon := contains_any _ _ _ d.keys[k] wx (HK.out.takeN k)
      have hlt : (d.keys.take k).length = k := by rw [List.length_take]; omega
      rw [hlt] at hcon
      have ho := okD_at d.keys d.vals k hkl hkv
      obtain ⟨X, hX⟩ : ∃ X, d.keys[k] = X := ⟨_, rfl⟩
      obtain ⟨Y, hY⟩ : ∃ Y, d.vals[k] = Y := ⟨_, rfl⟩
      rw [hX] at e1 hm1 hcon ho
      rw [hY] at e2 hm2 ho
      have HW := Lib.hid (fun W => bWord_any X W hm1)
      have HV2 := Lib.hid (fun W => bValue_any Y W hm2)
      have HC := Lib.hid hcon
      obtain ⟨A, hA⟩ : ∃ A, bwC X.data.toList = A := ⟨_, rfl⟩
      obtain ⟨M, hM⟩ : ∃ M, memB X (d.keys.take k) = M := ⟨_, rfl⟩
      obtain ⟨V, hV⟩ : ∃ V, bvC Y.data.toList = V := ⟨_, rfl⟩
      rw [hA, hM, hV] at ho
      rw [hA] at HW
      rw [hM] at HC
      rw [hV] at HV2
      clear hm1 hm2 hcon hlt hX hY hA hM hV
      by_cases hkJ2 : k = J
      · have hbad : keysC d.keys d.vals = false ∧ okD d.keys d.vals k = false := by
          rcases HE.out with ⟨he, _⟩ | ⟨_, g1, g2⟩
          · omega
          · subst hkJ2; exact ⟨g2, g1⟩
        rw [hbad.2] at ho
        obtain rfl : R = false := by rw [HR2.out, hbad.1]
        clear hbad hkJ2 hkJ
        have h3 : A = false ∨ A = true ∧ M = true ∨ A = true ∧ M = false ∧ V = false := by revert ho; cases A <;> cases M <;> cases V <;> simp
        clear ho
        rcases h3 with rfl | ⟨rfl, rfl⟩ | ⟨rfl, rfl, rfl⟩
        all_goals
          go_wp2_with (first | (go_at_call 186; refine (HW.out _).mono ?_; rintro e w2 ⟨rfl, rfl⟩) | (go_at_call 138; refine HC.out.mono ?_; rintro e w2 ⟨rfl, rfl⟩) | (go_at_call 187; refine (HV2.out _).mono ?_; rintro e w2 ⟨rfl, rfl⟩))
          go_ret
          exact ⟨rfl, HB.out⟩
      · rw [HOK.out k (by omega)] at ho
        have h3 : A = true ∧ M = false ∧ V = true := by revert ho; cases A <;> cases M <;> cases V <;> simp
        obtain ⟨rfl, rfl, rfl⟩ := h3
        clear ho
        go_wp2_with (first | (go_at_call 186; refine (HW.out _).mono ?_; rintro e w2 ⟨rfl, rfl⟩) | (go_at_call 138; refine HC.out.mono ?_; rintro e w2 ⟨rfl, rfl⟩) | (go_at_call 187; refine (HV2.out _).mono ?_; rintro e w2 ⟨rfl, rfl⟩))
        go_round
        case rel => exact ⟨k + 1, by omega, by go_num⟩
        case measure => simp [intOf]; omega
    · have hR : keysC d.keys d.vals = true := by
        rcases HE.out with ⟨_, hr⟩ | ⟨hj, _, _⟩
        · exact hr
        · omega
      obtain rfl : R = true := by rw [HR2.out, hR]
      clear hR
      go_wp2_with fail
      go_ret
      exact ⟨rfl, HB.out⟩

set_option maxHeartbeats 3200000 in
set_option maxRecDepth 100000 in
theorem bRight_any (a : Option Addr) (c : Nat) (ds : List Dfn) (w : World) (h : HasDefs w a c ds) : Calls Tryz.prog 87 #[.slice a ds.length c] w (BoolW (defsC ds) w) := by
  have h1 := h.1
  have h2 := h.2.1
  unfold maxLen at h2
  by_cases h64 : ds.length ≤ 64
  case neg =>
    have hR : defsC ds = false := by unfold defsC; simp [h64]
    rw [hR]
    clear hR h
    go_enter Tryz.func87, Tryz.ntmps87
    go_wp2
    go_ret
    exact ⟨rfl, Below.refl _ _⟩
  have hR : defsC ds = ds.all defC := by unfold defsC; simp [h64]
  rw [hR]
  obtain ⟨R, hR2⟩ : ∃ R, ds.all defC = R := ⟨_, rfl⟩
  rw [hR2]
  have HR := Lib.hid hR2
  clear hR hR2
  rcases h.place with rfl | ⟨b, off, rfl⟩
  · clear h
    obtain rfl : R = true := by rw [← HR.out]; rfl
    go_enter Tryz.func87, Tryz.ntmps87
    go_wp2
    refine wp_loop_rounds 1 ?_
    rw [rounds_succ]
    go_wp2
    go_ret
    exact ⟨rfl, Below.refl _ _⟩
  obtain ⟨J, hJ, hok, hend⟩ := all_endB defC ds
  have HOK := Lib.hid hok
  have HE := Lib.hid hend
  have HD := Lib.hid h
  clear hok hend h
  go_enter Tryz.func87, Tryz.ntmps87
  go_wp2
  go_loopw [10, 4] (fun i _ wr => ∃ k : Nat, k ≤ J ∧ i = .int .i64 k ∧ Below w.heap.size w wr) (fun i _ _ => ds.length - (intOf i).toNat)
  case atStart => exact ⟨0, Nat.zero_le _, rfl, Below.refl _ _⟩
  case round =>
    obtain ⟨k, hkJ, rfl, hb⟩ := hrel
    by_cases hkl : k < ds.length
    · obtain ⟨q, hq, ⟨c0, c1, c2⟩, hqo⟩ := (HD.out.call hb).at k hkl
      have hx := Blk.new wr 113 (dCells q)
      have hbx := (Below.refl wr.heap.size wr).alloc (Nat.le_refl _) (.cells (dCells q) 113)
      have hcall := bBlock_any (.agg (dCells q)) q.d _ ⟨q, rfl, rfl, hqo.call hbx⟩
      have hall := HOK.out k
      have HBX := Lib.hid (bthen hb hbx)
      obtain ⟨B, hB⟩ : ∃ B, defC q.d = B := ⟨_, rfl⟩
      rw [hB] at hcall
      rw [hq] at hB
      obtain ⟨d, ka, kc, va, vc⟩ := q
      have HC := Lib.hid hcall
      have hcell := hx.cells3
      have HX := Lib.hid hcell
      clear hcall hx hbx hq hqo hcell hb
      simp only at c0 c1 c2
      by_cases hkJ2 : k = J
      · have hbad : B = false ∧ ds.all defC = false := by
          rcases HE.out with ⟨he, _⟩ | ⟨_, g1, g2⟩
          · omega
          · subst hkJ2; exact ⟨by rw [← hB]; exact g1, g2⟩
        obtain ⟨rfl, hr⟩ := hbad
        obtain rfl : R = false := by rw [← HR.out, hr]
        clear hr hB hall hkJ2 hkJ
        go_upto_region 7 with fail
        obtain ⟨x0, x1, x2⟩ := HX.out
        go_wp2_with (go_at_call 124; refine HC.out.mono ?_; rintro e w2 ⟨rfl, hb2⟩)
        go_ret
        exact ⟨rfl, bthen HBX.out hb2⟩
      · have hgood := hall (by omega) hkl
        rw [hB] at hgood
        subst hgood
        clear hB hall
        go_upto_region 7 with fail
        obtain ⟨x0, x1, x2⟩ := HX.out
        go_wp2_with (go_at_call 124; refine HC.out.mono ?_; rintro e w2 ⟨rfl, hb2⟩)
        go_roundw
        case rel => exact ⟨k + 1, by omega, by go_num, bthen HBX.out hb2⟩
        case measure => simp [intOf]; omega
    · have hR : ds.all defC = true := by
        rcases HE.out with ⟨_, hr⟩ | ⟨hj, _, _⟩
        · exact hr
        · omega
      obtain rfl : R = true := by rw [← HR.out, hR]
      clear hR
      go_wp2_with fail
      go_ret
      exact ⟨rfl, hb⟩
end Go.Proofs.YtmhekhilgllciaaGreat
