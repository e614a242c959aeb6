/- The contract of routes.Right: a closure that calls itself. -/
import Derived.Test.YtolbhhokpelchabDoorRteC
import Derived.Laws.EntriesVeiled
namespace Go.Proofs.YtolbhhokpelchabDoor
open Go.RowKit

abbrev rightF (x : Nat) : Value := .func (.func 24) #[] #[.pointer (some ⟨x, 0, none⟩)]
theorem Blk.cell1 {w : World} {g : Nat} {t : TypeId} {v : Value} (h : Blk w g t #[v]) : w.cell? ⟨g, 0, none⟩ = some v := h.cell 0
theorem Blk.set1 {w : World} {g : Nat} {t : TypeId} {v : Value} (h : Blk w g t #[v]) (u : Value) : Blk (w.setCell ⟨g, 0, none⟩ u) g t #[u] := h.set 0 u
theorem rightRt_succ (d : Nat) (n : Rt) : rightRt (d + 1) n = (aloneC n && n.kids.all (rightRt d)) := rfl
set_option maxHeartbeats 6400000 in
set_option maxRecDepth 100000 in
theorem right1_any (x d : Nat) : ∀ (q : RtAt) (w : World), d ≤ 4 → q.ok w → w.cell? ⟨x, 0, none⟩ = some (rightF x) → Calls Tryd.prog 24 #[.agg (tCells q), .int .i64 (5 - (d : Int)), .pointer (some ⟨x, 0, none⟩)] w (BoolB (rightRt d q.n) w) := by
  induction d with
  | zero =>
    intro q w _ h hx
    go_enter Tryd.func24, Tryd.ntmps24
    go_wp2_with fail
    go_ret
    exact ⟨rfl, (Below.refl _ _).alloc (Nat.le_refl _) _⟩
  | succ d ih =>
    intro q w hd h hx
    have hb := (Below.refl w.heap.size w).alloc (Nat.le_refl _) (.cells (tCells q) 26)
    have hB := Blk.new w 26 (tCells q)
    have hok := h.call hb
    have hx1 := cellL hb hx
    have hic := hok.head.2
    have hpl := hok.place
    have hP := rteAlone_any q _ hok.own
    obtain ⟨A, hA⟩ : ∃ A, aloneC q.n = A := ⟨_, rfl⟩
    have hR0 : rightRt (d + 1) q.n = (A && q.n.kids.all (rightRt d)) := by rw [← hA]; rfl
    have h16 : A = true → q.n.kids.length ≤ 16 := fun e => (alone_kids (by rw [hA, e])).1
    rw [hA] at hP
    obtain ⟨J, hJ, hgood, hend⟩ := kids_end (rightRt d) q.n.kids
    obtain ⟨R, hR⟩ : ∃ R, rightRt (d + 1) q.n = R := ⟨_, rfl⟩
    rw [hR] at hR0 ⊢
    have HB := Lib.hid hb
    have HPL := Lib.hid hpl
    have HP := Lib.hid hP
    have HR := Lib.hid hR0
    have H16 := Lib.hid h16
    have HG := Lib.hid hgood
    have HE := Lib.hid hend
    have HIC := Lib.hid hic
    obtain ⟨k1, hk1⟩ : ∃ k1 : Int, 5 - ((d + 1 : Nat) : Int) = k1 := ⟨_, rfl⟩
    have hk2 : k1 + 1 = 5 - (d : Int) := by omega
    have hk4 : ¬ 4 < k1 := by omega
    have hk0 : 0 ≤ k1 := by omega
    rw [hk1]
    have HK := Lib.hid hk2
    clear h hb hok hpl hP hR0 h16 hgood hend hR hA hic hk1 hk2 hx
    obtain ⟨n, ma, mc, ba, bc, ua, uc, ka, kc⟩ := q
    simp only [tCells] at *
    go_enter Tryd.func24, Tryd.ntmps24
    go_upto_region 1 with fail
    generalize w.alloc (.cells #[.string n.recv, .slice ma n.ms.length mc, .slice ba n.bys.length bc, .int .i64 n.wait, .int .i64 n.every, .int .i64 n.rep, .slice ua n.mute.length uc, .bool n.on, .slice ka n.kids.length kc] 26) = wx at *
    obtain ⟨c0, c1, c2, c3, c4, c5, c6, c7, c8⟩ := hB.cells9
    cases A with
    | false =>
      obtain rfl : R = false := by rw [HR.out]; rfl
      go_wp2_with (go_at_call 25; refine HP.out.mono ?_; rintro e w2 ⟨rfl, hb2⟩)
      go_ret
      exact ⟨rfl, bthen HB.out hb2⟩
    | true =>
    have h16 := H16.out rfl
    go_upto_region 3 with (go_at_call 25; refine HP.out.mono ?_; rintro e w2 ⟨rfl, hb2⟩; obtain ⟨d0, d1, d2, d3, d4, d5, d6, d7, d8⟩ := (hB.call hb2).cells9)
    have HR2 : Hid (R = n.kids.all (rightRt d)) := Lib.hid (by rw [HR.out]; rfl)
    by_cases hz0 : n.kids.length = 0
    · have hi0 : n.kids = [] := List.eq_nil_of_length_eq_zero hz0
      obtain rfl : R = true := by rw [HR2.out, hi0]; rfl
      clear hi0
      go_wp2_with fail
      refine wp_loop_rounds 1 ?_
      rw [rounds_succ]
      go_wp2_with fail
      go_ret
      exact ⟨rfl, bthen HB.out hb2⟩
    obtain ⟨b1, o1, rfl, hitems⟩ : ∃ b off, ka = some ⟨b, off, none⟩ ∧ ∀ i (h : i < n.kids.length), ∃ r : RtAt, r.n = n.kids[i] ∧ r.lies wx b (off + i * 9) ∧ r.ok wx := by
      rcases HPL.out with h | ⟨b, off, h1, _, h3⟩
      · exact absurd (by rw [h]; rfl) hz0
      · exact ⟨b, off, h1, h3⟩
    have HI := Lib.hid hitems
    have hic := HIC.out
    have HX := Lib.hid (fun W (hW : Below wx.heap.size wx W) => cellL hW hx1)
    clear hitems hz0 hx1 c0 c1 c2 c3 c4 c5 c6 c7 c8
    unfold maxLen at hic
    go_wp2_with fail
    go_loopg [18, 7] n.kids.length (fun gg iv _ wr => ∃ k : Nat, k + gg = n.kids.length ∧ k ≤ J ∧ iv = .int .i64 k ∧ Below wx.heap.size wx wr)
    case atStart => exact ⟨0, by omega, Nat.zero_le _, rfl, hb2⟩
    case round =>
      obtain ⟨k, hkg, hkJ, rfl, hbr⟩ := hrel
      cases gk with
      | zero =>
        rcases HE.out with ⟨_, hR⟩ | ⟨hj, _⟩
        · obtain rfl : R = true := by rw [HR2.out, hR]
          obtain rfl : k = n.kids.length := by omega
          clear hR
          go_wp2_with fail
          go_ret
          exact ⟨rfl, bthen HB.out hbr⟩
        · omega
      | succ gg =>
        have hkl : k < n.kids.length := by omega
        obtain ⟨r, hrn, hrl, hro⟩ := HI.out k hkl
        obtain ⟨e0, e1, e2, e3, e4, e5, e6, e7, e8⟩ := hrl.call hbr
        have hro' := hro.call hbr
        have hbn := (Below.refl wr.heap.size wr).alloc (Nat.le_refl _) (.cells (tCells r) 26)
        have hro2 := hro'.call hbn
        have hxn := HX.out _ (bthen hbr hbn)
        have hih := ih r _ (by omega) hro2 hxn
        rw [← HK.out] at hih
        obtain ⟨X, hX⟩ : ∃ X, rightRt d r.n = X := ⟨_, rfl⟩
        have hXJ : X = rightRt d n.kids[k] := by rw [← hX, hrn]
        rw [hX] at hih
        obtain ⟨f0, f1, f2, f3, f4, f5, f6, f7, f8⟩ := (Blk.new wr 26 (tCells r)).cells9
        have HIH := Lib.hid hih
        have HXX := Lib.hid hXJ
        have HBN := Lib.hid hbn
        clear hX hrn hrl hro hro' hro2 hih hXJ hbn d0 d1 d2 d3 d4 d5 d6 d7 d8
        obtain ⟨m, ma', mc', ba', bc', ua', uc', ka', kc'⟩ := r
        simp only [tCells] at *
        by_cases hkJ2 : k = J
        · subst hkJ2
          rcases HE.out with ⟨h, _⟩ | ⟨_, hbad, hR⟩
          · omega
          · obtain rfl : R = false := by rw [HR2.out, hR]
            obtain rfl : X = false := by rw [HXX.out, hbad]
            clear hbad hR
            go_wp2_with (go_at_call 24; refine HIH.out.mono ?_; rintro e w3 ⟨rfl, hb3⟩)
            go_ret
            exact ⟨rfl, bthen HB.out (bthen hbr (bthen HBN.out hb3))⟩
        · obtain rfl : X = true := by rw [HXX.out, HG.out k hkl (by omega)]
          go_wp2_with (go_at_call 24; refine HIH.out.mono ?_; rintro e w3 ⟨rfl, hb3⟩)
          go_roundg gg
          case measure => omega
          case rel => exact ⟨k + 1, by omega, by omega, by go_num, bthen hbr (bthen HBN.out hb3)⟩

set_option maxHeartbeats 1600000 in
set_option maxRecDepth 100000 in
theorem rteRight_any (q : RtAt) (w : World) (h : q.ok w) : Calls Tryd.prog 9 #[.agg (tCells q)] w (BoolB (rteC q.n) w) := by
  have hb := (Below.refl w.heap.size w).alloc (Nat.le_refl _) (.cells (tCells q) 26)
  have hB := Blk.new w 26 (tCells q)
  have hz : (w.alloc (.cells (tCells q) 26)).heap.size = w.heap.size + 1 := by simp
  have hX := Blk.new (w.alloc (.cells (tCells q) 26)) 54 #[rightF (w.heap.size + 1)]
  rw [hz] at hX
  have hB3 := hB.alloc (.cells #[rightF (w.heap.size + 1)] 54)
  have hb3 := hb.alloc (by omega) (.cells #[rightF (w.heap.size + 1)] 54)
  have hr := right1_any (w.heap.size + 1) 4 q _ (Nat.le_refl _) (h.call hb3) hX.cell1
  rw [show rightRt 4 q.n = rteC q.n from rfl, show (5 - ((4 : Nat) : Int)) = 1 from rfl] at hr
  have HB := Lib.hid hb3
  have HR := Lib.hid hr
  obtain ⟨c0, c1, c2, c3, c4, c5, c6, c7, c8⟩ := hB3.cells9
  have hx3 := hX.cell1
  clear hb hB hz hX hb3 hB3 hr h
  obtain ⟨n, ma, mc, ba, bc, ua, uc, ka, kc⟩ := q
  simp only [tCells, rightF] at *
  go_enter Tryd.func9, Tryd.ntmps9
  go_upto_region 3 with fail
  generalize (w.alloc (.cells #[.string n.recv, .slice ma n.ms.length mc, .slice ba n.bys.length bc, .int .i64 n.wait, .int .i64 n.every, .int .i64 n.rep, .slice ua n.mute.length uc, .bool n.on, .slice ka n.kids.length kc] 26)).alloc (.cells #[.func (.func 24) #[] #[.pointer (some ⟨w.heap.size + 1, 0, none⟩)]] 54) = wz at *
  go_wp2_with (go_at_call 24; refine HR.out.mono ?_; rintro e w3 ⟨rfl, hb3⟩)
  go_ret
  exact ⟨rfl, bthen HB.out hb3⟩
end Go.Proofs.YtolbhhokpelchabDoor
