/- The contracts of block.likeBlock, block.Like, and of the document's own Like of layer 6. -/
import Derived.Test.YthodifgohdaedabDoorBlkE
import Derived.Test.YthodifgohdaedabDoorEqualD
import Derived.Test.YthodifgohdaedabDoorSameR
import Derived.Test.YthodifgohdaedabDoorLater
namespace Go.Proofs.YthodifgohdaedabDoor
open Go.RowKit

set_option maxHeartbeats 3200000 in
set_option maxRecDepth 100000 in
theorem likeBlock_any (q r : DefAt) (w : World) (h : q.ok w) (h' : r.ok w) : Calls Tryd.prog 38 #[.agg (dCells q), .agg (dCells r)] w (BoolW (likeD q.d r.d) w) := by
  obtain ⟨d, ka, kc, va, vc⟩ := q
  obtain ⟨e, la, lc, ua, uc⟩ := r
  obtain ⟨hk, hv, _⟩ := h
  obtain ⟨hl, hu, _⟩ := h'
  have HE := Lib.hid (fun W (hb : Below w.heap.size w W) => equalD_any ka la kc lc d.keys e.keys W (hk.call hb) (hl.call hb))
  have HE2 := Lib.hid (fun W (hb : Below w.heap.size w W) => equalD_any va ua vc uc d.vals e.vals W (hv.call hb) (hu.call hb))
  have hb1 := Blk.new w 44 #[.string d.kind, .slice ka d.keys.length kc, .slice va d.vals.length vc]
  have hb2 := hb1.alloc (.cells #[.string e.kind, .slice la e.keys.length lc, .slice ua e.vals.length uc] 44)
  have hb3 := Blk.new (w.alloc (.cells #[.string d.kind, .slice ka d.keys.length kc, .slice va d.vals.length vc] 44)) 44 #[.string e.kind, .slice la e.keys.length lc, .slice ua e.vals.length uc]
  have hbl := ((Below.refl _ w).alloc (Nat.le_refl _) (.cells #[.string d.kind, .slice ka d.keys.length kc, .slice va d.vals.length vc] 44)).alloc (by simp) (.cells #[.string e.kind, .slice la e.keys.length lc, .slice ua e.vals.length uc] 44)
  have e1 : (w.alloc (.cells #[.string d.kind, .slice ka d.keys.length kc, .slice va d.vals.length vc] 44)).heap.size = w.heap.size + 1 := by simp
  rw [e1] at hb3
  have hq := strEq d.kind e.kind
  have hlk : likeD d e = (decide (d.kind = e.kind) && decide (d.keys = e.keys) && decide (d.vals = e.vals)) := rfl
  rw [show likeD (DefAt.d ⟨d, ka, kc, va, vc⟩) (DefAt.d ⟨e, la, lc, ua, uc⟩) = likeD d e from rfl, hlk]
  obtain ⟨A, hA⟩ : ∃ A, decide (d.kind = e.kind) = A := ⟨_, rfl⟩
  obtain ⟨B, hB⟩ : ∃ B, decide (d.keys = e.keys) = B := ⟨_, rfl⟩
  obtain ⟨C, hC⟩ : ∃ C, decide (d.vals = e.vals) = C := ⟨_, rfl⟩
  rw [hA] at hq ⊢
  rw [hB] at HE ⊢
  rw [hC] at HE2 ⊢
  clear hA hB hC hlk hk hv hl hu e1
  go_enter Tryd.func38, Tryd.ntmps38
  go_upto_region 1 with fail
  generalize (w.alloc (.cells #[.string d.kind, .slice ka d.keys.length kc, .slice va d.vals.length vc] 44)).alloc (.cells #[.string e.kind, .slice la e.keys.length lc, .slice ua e.vals.length uc] 44) = wx at *
  obtain ⟨x0, x1, x2⟩ := hb2.cells3
  obtain ⟨y0, y1, y2⟩ := hb3.cells3
  have F2 := Lib.hid (fun W (h : Below wx.heap.size wx W) => (hb2.call h).cells3)
  have F3 := Lib.hid (fun W (h : Below wx.heap.size wx W) => (hb3.call h).cells3)
  have HB := Lib.hid hbl
  clear hb1 hb2 hb3 hbl
  cases A with
  | false =>
    go_wp2_with fail
    go_ret
    exact ⟨rfl, HB.out⟩
  | true =>
    cases B with
    | false =>
      go_wp2_with (go_at_call 55; refine (HE.out _ HB.out).mono ?_; rintro e w2 ⟨rfl, hb2⟩)
      go_ret
      exact ⟨rfl, bthen HB.out hb2⟩
    | true =>
      cases C <;> go_wp2_with (first
        | (go_at_call 55; (with_reducible refine (HE.out _ HB.out).mono ?_); rintro e w2 ⟨rfl, hb2⟩; obtain ⟨x0, x1, x2⟩ := F2.out _ hb2; obtain ⟨y0, y1, y2⟩ := F3.out _ hb2)
        | (go_at_call 55; (with_reducible refine (HE2.out _ (bthen HB.out hb2)).mono ?_); rintro e w3 ⟨rfl, hb3⟩))
      all_goals
        go_ret
        exact ⟨rfl, bthen (bthen HB.out hb2) hb3⟩

/-- where a walk over two rows of blocks of one length ends -/
theorem like_end : ∀ (a b : List Dfn), a.length = b.length → ∃ J, J ≤ a.length ∧ (∀ k (_h : k < J) (h2 : k < a.length) (h3 : k < b.length), likeD a[k] b[k] = true) ∧
    (J = a.length ∧ likeDs a b = true ∨ ∃ hj : J < a.length, ∃ hj2 : J < b.length, likeD a[J] b[J] = false ∧ likeDs a b = false)
  | [], [], _ => ⟨0, Nat.le_refl _, fun k hk => absurd hk (by omega), .inl ⟨rfl, rfl⟩⟩
  | [], _ :: _, h => by simp at h
  | _ :: _, [], h => by simp at h
  | x :: a, y :: b, h => by
    cases hxy : likeD x y with
    | false => exact ⟨0, Nat.zero_le _, fun k hk => absurd hk (by omega), .inr ⟨by simp, by simp, hxy, by simp [likeDs, hxy]⟩⟩
    | true =>
      obtain ⟨J, hJ, hok, hend⟩ := like_end a b (by simpa using h)
      refine ⟨J + 1, by simpa using hJ, fun k hk h2 h3 => ?_, ?_⟩
      · match k, hk, h2, h3 with
        | 0, _, _, _ => exact hxy
        | k + 1, hk, h2, h3 => exact hok k (by omega) (by simpa using h2) (by simpa using h3)
      · rcases hend with ⟨rfl, h1⟩ | ⟨hj, hj2, h1, h2⟩
        · exact .inl ⟨rfl, by simp [likeDs, hxy, h1]⟩
        · exact .inr ⟨by simpa using hj, by simpa using hj2, h1, by simp [likeDs, h2]⟩
theorem likeDs_len : ∀ (a b : List Dfn), a.length ≠ b.length → likeDs a b = false
  | [], [], h => absurd rfl h
  | [], _ :: _, _ => rfl
  | _ :: _, [], _ => rfl
  | x :: a, y :: b, h => by simp [likeDs, likeDs_len a b (by simpa using h)]

set_option maxHeartbeats 3200000 in
set_option maxRecDepth 100000 in
theorem likeF_some (b off c b' off' c' : Nat) (ds es : List Dfn) (w : World) (h : HasDefs w (some ⟨b, off, none⟩) c ds) (h' : HasDefs w (some ⟨b', off', none⟩) c' es) (hl : ds.length = es.length) :
    Calls Tryd.prog 37 #[.slice (some ⟨b, off, none⟩) ds.length c, .slice (some ⟨b', off', none⟩) es.length c', .func (.func 38) #[] #[]] w (BoolW (likeDs ds es) w) := by
  have h1 := h.1
  have h2 := h.2.1
  have g1 := h'.1
  have g2 := h'.2.1
  unfold maxLen at h2 g2
  obtain ⟨J, hJ, hok, hend⟩ := like_end ds es hl
  have hne := int_neq ds.length es.length
  rw [decide_eq_true hl] at hne
  simp only [Bool.not_true] at hne
  have HL := Lib.hid hl
  have HOK := Lib.hid hok
  have HE := Lib.hid hend
  have HD := Lib.hid h
  have HD' := Lib.hid h'
  obtain ⟨R, hR⟩ : ∃ R, likeDs ds es = R := ⟨_, rfl⟩
  rw [hR]
  have HR := Lib.hid hR
  clear hok hend h h' hl hR
  go_enter Tryd.func37, Tryd.ntmps37
  go_wp2_with fail
  clear hne
  go_loopw [17, 7, 8, 9] (fun i _ _ _ wr => ∃ k : Nat, k ≤ J ∧ i = .int .i64 k ∧ Below w.heap.size w wr) (fun i _ _ _ _ => ds.length - (intOf i).toNat)
  case atStart => exact ⟨0, Nat.zero_le _, rfl, Below.refl _ _⟩
  case round =>
    obtain ⟨k, hkJ, rfl, hb⟩ := hrel
    by_cases hkl : k < ds.length
    · have hke : k < es.length := by have := HL.out; omega
      obtain ⟨q, hq, ⟨c0, c1, c2⟩, hqo⟩ := (HD.out.call hb).at k hkl
      obtain ⟨r, hr, ⟨d0, d1, d2⟩, hro⟩ := (HD'.out.call hb).at k hke
      have hx := Blk.new wr 44 (dCells q)
      have hbx := (Below.refl wr.heap.size wr).alloc (Nat.le_refl _) (.cells (dCells q) 44)
      have hx2 := hx.alloc (.cells (dCells r) 44)
      have hy := Blk.new (wr.alloc (.cells (dCells q) 44)) 44 (dCells r)
      have hby := hbx.alloc hbx.size (.cells (dCells r) 44)
      have e1 : (wr.alloc (.cells (dCells q) 44)).heap.size = wr.heap.size + 1 := by simp
      rw [e1] at hy
      have e0 := cellL hbx d0
      have e2 := cellL hbx d1
      have e3 := cellL hbx d2
      have hcall := likeBlock_any q r _ (hqo.call hby) (hro.call hby)
      obtain ⟨B, hB⟩ : ∃ B, likeD q.d r.d = B := ⟨_, rfl⟩
      rw [hB] at hcall
      rw [hq, hr] at hB
      have HBX := Lib.hid (bthen hb hby)
      obtain ⟨d, ka, kc, va, vc⟩ := q
      obtain ⟨e, la, lc, ua, uc⟩ := r
      have HC := Lib.hid hcall
      have HX := Lib.hid hx.cells3
      have HX2 := Lib.hid hx2.cells3
      have HY := Lib.hid hy.cells3
      clear hcall hbx hq hr hqo hro hb hby hx hx2 hy e1
      simp only at c0 c1 c2 d0 d1 d2 e0 e2 e3
      have hall := fun h => HOK.out k h hkl hke
      by_cases hkJ2 : k = J
      · have hbad : B = false ∧ likeDs ds es = false := by
          rcases HE.out with ⟨he, _⟩ | ⟨_, _, g1, g2⟩
          · omega
          · subst hkJ2; exact ⟨by rw [← hB]; exact g1, g2⟩
        obtain ⟨rfl, hr⟩ := hbad
        obtain rfl : R = false := by rw [← HR.out, hr]
        clear hr hB hall hkJ2 hkJ
        go_upto_region 7 with fail
        obtain ⟨x0, x1, x2⟩ := HX2.out
        obtain ⟨y0, y1, y2⟩ := HY.out
        go_wp2_with (go_at_call 38; refine HC.out.mono ?_; rintro e w2 ⟨rfl, hb2⟩)
        go_ret
        exact ⟨rfl, bthen HBX.out hb2⟩
      · have hgood := hall (by omega)
        rw [hB] at hgood
        subst hgood
        clear hB hall
        go_upto_region 7 with fail
        obtain ⟨x0, x1, x2⟩ := HX2.out
        obtain ⟨y0, y1, y2⟩ := HY.out
        go_wp2_with (go_at_call 38; refine HC.out.mono ?_; rintro e w2 ⟨rfl, hb2⟩)
        go_roundw
        case rel => exact ⟨k + 1, by omega, by go_num, bthen HBX.out hb2⟩
        case measure => simp [intOf]; omega
    · have hR : likeDs ds es = true := by
        rcases HE.out with ⟨_, hr⟩ | ⟨hj, _, _⟩
        · exact hr
        · omega
      obtain rfl : R = true := by rw [← HR.out, hR]
      clear hR
      go_wp2_with fail
      go_ret
      exact ⟨rfl, hb⟩

theorem likeF_any (a a' : Option Addr) (c c' : Nat) (ds es : List Dfn) (w : World) (h : HasDefs w a c ds) (h' : HasDefs w a' c' es) :
    Calls Tryd.prog 37 #[.slice a ds.length c, .slice a' es.length c', .func (.func 38) #[] #[]] w (BoolW (likeDs ds es) w) := by
  have h1 := h.1
  have h2 := h.2.1
  have g1 := h'.1
  have g2 := h'.2.1
  unfold maxLen at h2 g2
  by_cases hl : ds.length = es.length
  · rcases h.place with rfl | ⟨b, off, rfl⟩
    · obtain rfl : es = [] := List.eq_nil_of_length_eq_zero hl.symm
      clear h h' hl
      go_enter Tryd.func37, Tryd.ntmps37
      go_wp2
      refine wp_loop_rounds 1 ?_
      rw [rounds_succ]
      go_wp2
      go_ret
      exact ⟨rfl, Below.refl _ _⟩
    · rcases h'.place with rfl | ⟨b', off', rfl⟩
      · obtain rfl : ds = [] := List.eq_nil_of_length_eq_zero hl
        clear h h' hl
        go_enter Tryd.func37, Tryd.ntmps37
        go_wp2
        refine wp_loop_rounds 1 ?_
        rw [rounds_succ]
        go_wp2
        go_ret
        exact ⟨rfl, Below.refl _ _⟩
      · exact likeF_some b off c b' off' c' ds es w h h' hl
  · have hne := int_neq ds.length es.length
    rw [decide_eq_false hl] at hne
    simp only [Bool.not_false] at hne
    rw [likeDs_len ds es hl]
    clear hl h h'
    go_enter Tryd.func37, Tryd.ntmps37
    go_wp2
    go_ret
    exact ⟨rfl, Below.refl _ _⟩

theorem bLike_any (a a' : Option Addr) (c c' : Nat) (ds es : List Dfn) (w : World) (h : HasDefs w a c ds) (h' : HasDefs w a' c' es) :
    Calls Tryd.prog 21 #[.slice a ds.length c, .slice a' es.length c'] w (BoolW (likeDs ds es) w) := by
  have HC := Lib.hid (likeF_any a a' c c' ds es w h h')
  clear h h'
  generalize likeDs ds es = R at *
  go_enter Tryd.func21, Tryd.ntmps21
  go_wp2_with (go_at_call 37; refine HC.out.mono ?_; rintro e w2 ⟨rfl, hb2⟩)
  go_ret
  exact ⟨rfl, hb2⟩
end Go.Proofs.YthodifgohdaedabDoor
