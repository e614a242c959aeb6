/- The contract of the document's own Like of layer 6. -/
import Derived.Test.YtekcmgajjbdmgabDoorBlkLM
import Derived.Test.YtekcmgajjbdmgabDoorSameR
import Derived.Test.YtekcmgajjbdmgabDoorLater
namespace Go.Proofs.YtekcmgajjbdmgabDoor
open Go.RowKit

theorem intNeq (a b : Nat) (h : a = b) : ((a : Int) != (b : Int)) = false := by rw [h]; simp
set_option maxHeartbeats 6400000 in
set_option maxRecDepth 100000 in
theorem rLike_some (b off c b' off' c' : Nat) (ds es : List Dfn) (w : World) (h : HasDefs w (some ⟨b, off, none⟩) c ds) (h' : HasDefs w (some ⟨b', off', none⟩) c' es) (hl : ds.length = es.length) :
    Calls Tryd.prog 12 #[.slice (some ⟨b, off, none⟩) ds.length c, .slice (some ⟨b', off', none⟩) es.length c'] w (BoolW (likeDs ds es) w) := by
  have h1 := h.1
  have h2 := h.2.1
  have g1 := h'.1
  have g2 := h'.2.1
  unfold maxLen at h2 g2
  obtain ⟨J, hJ, hok, hend⟩ := like_end ds es hl
  have hne := intNeq ds.length es.length hl
  have HL := Lib.hid hl
  have HOK := Lib.hid hok
  have HE := Lib.hid hend
  have HD := Lib.hid h
  have HD' := Lib.hid h'
  obtain ⟨R, hR⟩ : ∃ R, likeDs ds es = R := ⟨_, rfl⟩
  rw [hR]
  have HR := Lib.hid hR
  clear hok hend h h' hl hR
  go_enter Tryd.func12, Tryd.ntmps12
  go_wp2_with fail
  clear hne
  go_loopw [13, 5] (fun i _ wr => ∃ k : Nat, k ≤ J ∧ i = .int .i64 k ∧ Below w.heap.size w wr) (fun i _ _ => ds.length - (intOf i).toNat)
  case atStart => exact ⟨0, Nat.zero_le _, rfl, Below.refl _ _⟩
  case round =>
    obtain ⟨k, hkJ, rfl, hb⟩ := hrel
    by_cases hkl : k < ds.length
    · have hke : k < es.length := by have := HL.out; omega
      obtain ⟨q, hq, ⟨c0, c1, c2⟩, hqo⟩ := (HD.out.call hb).at k hkl
      obtain ⟨r, hr, ⟨d0, d1, d2⟩, hro⟩ := (HD'.out.call hb).at k hke
      obtain ⟨d, ka, kc, va, vc⟩ := q
      obtain ⟨e, la, lc, ua, uc⟩ := r
      have HE1 := Lib.hid (fun x => calls_later (same_any ka la kc lc d.keys e.keys (later wr x) (hqo.1.call (later_below _ _)) (hro.1.call (later_below _ _))))
      have HE2 := Lib.hid (fun x => calls_later (same_any va ua vc uc d.vals e.vals (later wr x) (hqo.2.1.call (later_below _ _)) (hro.2.1.call (later_below _ _))))
      simp only at c0 c1 c2 d0 d1 d2 hq hr
      have hsq := strEq d.kind e.kind
      have hlk : likeD d e = (decide (d.kind = e.kind) && decide (d.keys = e.keys) && decide (d.vals = e.vals)) := rfl
      obtain ⟨A, hA⟩ : ∃ A, decide (d.kind = e.kind) = A := ⟨_, rfl⟩
      obtain ⟨B, hB⟩ : ∃ B, decide (d.keys = e.keys) = B := ⟨_, rfl⟩
      obtain ⟨C, hC⟩ : ∃ C, decide (d.vals = e.vals) = C := ⟨_, rfl⟩
      rw [hA] at hsq hlk
      rw [hB] at HE1 hlk
      rw [hC] at HE2 hlk
      have HBX := Lib.hid hb
      have c0l := fun x => later_cell c0 x
      have c1l := fun x => later_cell c1 x
      have c2l := fun x => later_cell c2 x
      have d0l := fun x => later_cell d0 x
      have d1l := fun x => later_cell d1 x
      have d2l := fun x => later_cell d2 x
      have hall := fun h => HOK.out k h hkl hke
      have hrr : k = J → (A && B && C) = false ∧ R = false := fun hkJ2 => by
        rcases HE.out with ⟨he, _⟩ | ⟨_, _, g1, g2⟩
        · omega
        · subst hkJ2; exact ⟨by rw [← hlk, hq, hr]; exact g1, by rw [← HR.out]; exact g2⟩
      have hgg : k ≠ J → (A && B && C) = true := fun hkJ2 => by rw [← hlk, hq, hr]; exact hall (by omega)
      clear hA hB hC hq hr hqo hro hb c0 c1 c2 d0 d1 d2 hall hlk
      by_cases hkJ2 : k = J
      · obtain ⟨hf, rfl⟩ := hrr hkJ2
        clear hkJ2 hkJ hrr hgg
        have h3 : A = false ∨ A = true ∧ B = false ∨ A = true ∧ B = true ∧ C = false := by revert hf; cases A <;> cases B <;> cases C <;> simp
        clear hf
        rcases h3 with rfl | ⟨rfl, rfl⟩ | ⟨rfl, rfl, rfl⟩
        all_goals
          go_upto_region 6 with fail
          refine wp_region_later (by kernel_rfl) (by kernel_rfl) ?_
          repeat (go_big_quiet_step ((go_at_call 30; first | (with_reducible exact HE1.out _) | (with_reducible exact HE2.out _))))
          refine wpQuiet_nil ?_
          rintro _ ⟨x, rfl⟩
          have hb2 := bthen HBX.out (later_below wr x)
          generalize later wr x = w2 at *
          clear c0l c1l c2l d0l d1l d2l
          go_wp2_with fail
          go_ret
          exact ⟨rfl, hb2⟩
      · have hf := hgg hkJ2
        obtain ⟨⟨rfl, rfl⟩, rfl⟩ : (A = true ∧ B = true) ∧ C = true := by simpa using hf
        clear hrr hgg hf
        go_upto_region 6 with fail
        refine wp_region_later (by kernel_rfl) (by kernel_rfl) ?_
        repeat (go_big_quiet_step ((go_at_call 30; first | (with_reducible exact HE1.out _) | (with_reducible exact HE2.out _))))
        refine wpQuiet_nil ?_
        rintro _ ⟨x, rfl⟩
        have hb2 := bthen HBX.out (later_below wr x)
        generalize later wr x = w2 at *
        clear c0l c1l c2l d0l d1l d2l
        go_wp2_with fail
        go_roundw
        case rel => exact ⟨k + 1, by omega, by go_num, hb2⟩
        case measure => simp [intOf]; omega
    · have hR : likeDs ds es = true := by
        rcases HE.out with ⟨_, hr⟩ | ⟨hj, _, _⟩
        · exact hr
        · omega
      obtain rfl : R = true := by rw [← HR.out, hR]
      clear hR
      go_wp2_with fail
      go_ret
      exact ⟨rfl, hb⟩

theorem rLike_any (a a' : Option Addr) (c c' : Nat) (ds es : List Dfn) (w : World) (h : HasDefs w a c ds) (h' : HasDefs w a' c' es) :
    Calls Tryd.prog 12 #[.slice a ds.length c, .slice a' es.length c'] w (BoolW (likeDs ds es) w) := by
  have h1 := h.1
  have h2 := h.2.1
  have g1 := h'.1
  have g2 := h'.2.1
  unfold maxLen at h2 g2
  by_cases hl : ds.length = es.length
  · rcases h.place with rfl | ⟨b, off, rfl⟩
    · obtain rfl : es = [] := List.eq_nil_of_length_eq_zero hl.symm
      clear h h' hl
      go_enter Tryd.func12, Tryd.ntmps12
      go_wp2
      refine wp_loop_rounds 1 ?_
      rw [rounds_succ]
      go_wp2
      go_ret
      exact ⟨rfl, Below.refl _ _⟩
    · rcases h'.place with rfl | ⟨b', off', rfl⟩
      · obtain rfl : ds = [] := List.eq_nil_of_length_eq_zero hl
        clear h h' hl
        go_enter Tryd.func12, Tryd.ntmps12
        go_wp2
        refine wp_loop_rounds 1 ?_
        rw [rounds_succ]
        go_wp2
        go_ret
        exact ⟨rfl, Below.refl _ _⟩
      · exact rLike_some b off c b' off' c' ds es w h h' hl
  · have hne := int_neq ds.length es.length
    rw [decide_eq_false hl] at hne
    simp only [Bool.not_false] at hne
    rw [likeDs_len ds es hl]
    clear hl h h'
    go_enter Tryd.func12, Tryd.ntmps12
    go_wp2
    go_ret
    exact ⟨rfl, Below.refl _ _⟩
end Go.Proofs.YtekcmgajjbdmgabDoor
