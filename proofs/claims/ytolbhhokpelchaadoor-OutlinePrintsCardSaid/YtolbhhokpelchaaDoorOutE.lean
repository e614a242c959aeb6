/- The contracts of outline.right and Right. -/
import Derived.Test.YtolbhhokpelchaaDoorOutC
import Derived.Outline
namespace Go.Proofs.YtolbhhokpelchaaDoor
open Go.RowKit

set_option maxHeartbeats 6400000 in
set_option maxRecDepth 100000 in
theorem oright_any (d : Nat) : ∀ (q : NdAt) (w : World), d ≤ 8 → q.ok w → Calls Tryd.prog 32 #[.agg (nCells q), .int .i64 (d : Int)] w (BoolW (rightD d q.n) w) := by
  induction d with
  | zero =>
    intro q w _ h
    go_enter Tryd.func32, Tryd.ntmps32
    go_wp2_with fail
    go_ret
    exact ⟨rfl, (Below.refl _ _).alloc (Nat.le_refl _) _⟩
  | succ d ih =>
    intro q w hd h
    have hb := (Below.refl w.heap.size w).alloc (Nat.le_refl _) (.cells (nCells q) 25)
    have hB := Blk.new w 25 (nCells q)
    have hok := h.call hb
    have hh := hok.head
    have hic := hh.2.2.2
    have hpl := hok.place
    have hP := fun W (hW : Below (w.heap.size + 1) (w.alloc (.cells (nCells q) 25)) W) => oParts_any q W (hh.call (by simpa using hW))
    obtain ⟨A, hA⟩ : ∃ A, partsC q.n = A := ⟨_, rfl⟩
    have hR0 : rightD (d + 1) q.n = (A && q.n.items.all (rightD d)) := by rw [← hA]; rfl
    have h64 : A = true → q.n.items.length ≤ 64 := fun e => partsC_items (by rw [hA, e])
    simp only [hA] at hP
    obtain ⟨J, hJ, hgood, hend⟩ := items_end d q.n.items
    obtain ⟨R, hR⟩ : ∃ R, rightD (d + 1) q.n = R := ⟨_, rfl⟩
    rw [hR] at hR0 ⊢
    have hz : (w.alloc (.cells (nCells q) 25)).heap.size = w.heap.size + 1 := by simp
    have HB := Lib.hid hb
    have HOK := Lib.hid hok
    have HPL := Lib.hid hpl
    have HP := Lib.hid hP
    have HR := Lib.hid hR0
    have H64 := Lib.hid h64
    have HG := Lib.hid hgood
    have HE := Lib.hid hend
    have HIC := Lib.hid hic
    clear h hb hok hh hpl hP hR0 h64 hgood hend hR hA hic
    obtain ⟨n, na, nc, ia, ic⟩ := q
    simp only [nCells] at *
    have d1 : ¬ ((d : Int) + 1 < 1) := by omega
    go_enter Tryd.func32, Tryd.ntmps32
    go_upto_region 1 with fail
    generalize w.alloc (.cells #[.int .i64 n.kind, .string n.word, .slice na n.names.length nc, .slice ia n.items.length ic] 25) = wx at *
    obtain ⟨c0, c1, c2, c3⟩ := hB.cells4
    cases A with
    | false =>
      obtain rfl : R = false := by rw [HR.out]; rfl
      go_wp2_with (go_at_call 55; refine (HP.out _ (by rw [← hz]; exact Below.refl _ _)).mono ?_; rintro e w2 ⟨rfl, hb2⟩)
      go_ret
      exact ⟨rfl, bthen HB.out hb2⟩
    | true =>
    have h64 := H64.out rfl
    go_upto_region 3 with (go_at_call 55; refine (HP.out _ (by rw [← hz]; exact Below.refl _ _)).mono ?_; rintro e w2 ⟨rfl, hb2⟩; obtain ⟨c0, c1, c2, c3⟩ := (hB.call hb2).cells4)
    have HR2 : Hid (R = n.items.all (rightD d)) := Lib.hid (by rw [HR.out]; rfl)
    by_cases hz0 : n.items.length = 0
    · have hi0 : n.items = [] := List.eq_nil_of_length_eq_zero hz0
      obtain rfl : R = true := by rw [HR2.out, hi0]; rfl
      go_wp2_with fail
      refine wp_loop_rounds 1 ?_
      rw [rounds_succ]
      go_wp2_with fail
      go_ret
      exact ⟨rfl, bthen HB.out hb2⟩
    obtain ⟨b1, o1, rfl, hitems⟩ : ∃ b off, ia = some ⟨b, off, none⟩ ∧ ∀ i (h : i < n.items.length), ∃ r : NdAt, r.n = n.items[i] ∧ r.lies wx b (off + i * 4) ∧ r.ok wx := by
      rcases HPL.out with h | ⟨b, off, h1, _, h3⟩
      · exact absurd (by rw [h]; rfl) hz0
      · exact ⟨b, off, h1, h3⟩
    have HI := Lib.hid hitems
    clear hitems hz0
    go_wp2_with fail
    go_loopg [17, 6] n.items.length (fun gg iv _ wr => ∃ k : Nat, k + gg = n.items.length ∧ k ≤ J ∧ iv = .int .i64 k ∧ Below wx.heap.size wx wr)
    case atStart => exact ⟨0, by omega, Nat.zero_le _, rfl, hb2⟩
    case round =>
      obtain ⟨k, hkg, hkJ, rfl, hbr⟩ := hrel
      cases gk with
      | zero =>
        rcases HE.out with ⟨_, hR⟩ | ⟨hj, _⟩
        · obtain rfl : R = true := by rw [HR2.out, hR]
          obtain rfl : k = n.items.length := by omega
          go_wp2_with fail
          go_ret
          exact ⟨rfl, bthen HB.out hbr⟩
        · omega
      | succ gg =>
        have hkl : k < n.items.length := by omega
        obtain ⟨r, hrn, hrl, hro⟩ := HI.out k hkl
        obtain ⟨e0, e1, e2, e3⟩ := hrl.call hbr
        have hro' := hro.call hbr
        have hbn := (Below.refl wr.heap.size wr).alloc (Nat.le_refl _) (.cells (nCells r) 25)
        have hro2 := hro'.call hbn
        have hih := ih r _ (by omega) hro2
        obtain ⟨X, hX⟩ : ∃ X, rightD d r.n = X := ⟨_, rfl⟩
        have hXJ : X = rightD d n.items[k] := by rw [← hX, hrn]
        rw [hX] at hih
        obtain ⟨f0, f1, f2, f3⟩ := (Blk.new wr 25 (nCells r)).cells4
        have HIH := Lib.hid hih
        have HX := Lib.hid hXJ
        have HBN := Lib.hid hbn
        clear hX hrn hrl hro hro' hro2 hih hXJ hbn
        obtain ⟨m, ma, mc, ja, jc⟩ := r
        simp only [nCells] at *
        by_cases hkJ2 : k = J
        · subst hkJ2
          rcases HE.out with ⟨h, _⟩ | ⟨_, hbad, hR⟩
          · omega
          · obtain rfl : R = false := by rw [HR2.out, hR]
            obtain rfl : X = false := by rw [HX.out, hbad]
            go_wp2_with (go_at_call 32; refine HIH.out.mono ?_; rintro e w3 ⟨rfl, hb3⟩)
            go_ret
            exact ⟨rfl, bthen HB.out (bthen hbr (bthen HBN.out hb3))⟩
        · obtain rfl : X = true := by rw [HX.out, HG.out k hkl (by omega)]
          go_wp2_with (go_at_call 32; refine HIH.out.mono ?_; rintro e w3 ⟨rfl, hb3⟩)
          go_roundg gg
          case measure => omega
          case rel => exact ⟨k + 1, by omega, by omega, by go_num, bthen hbr (bthen HBN.out hb3)⟩
end Go.Proofs.YtolbhhokpelchaaDoor
