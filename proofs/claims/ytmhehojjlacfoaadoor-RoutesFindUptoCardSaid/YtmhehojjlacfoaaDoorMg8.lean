/- The contract of routes.Count. -/
import Derived.Test.YtmhehojjlacfoaaDoorZRteR
import Derived.Test.YtmhehojjlacfoaaDoorMg7
import Derived.Test.YtmhehojjlacfoaaDoorMg1
namespace Go.Proofs.YtmhehojjlacfoaaDoor
open Go.RowKit

/-- the closure's cell holds a count -/
structure CouW (w0 : World) (nB : Nat) (W : World) (m : Nat) : Prop where
  below : Below w0.heap.size w0 W
  cell : Blk W nB 3 #[.int .i64 (m : Int)]
  young : w0.heap.size ≤ nB
theorem CouW.call {w0 W W1 : World} {nB m : Nat} (h : CouW w0 nB W m) (hb : Below W.heap.size W W1) : CouW w0 nB W1 m := ⟨h.below.trans (hb.mono h.below.size), h.cell.call hb, h.young⟩
def KeepN (w w' : World) : Prop := w.heap.size ≤ w'.heap.size ∧ ∀ g t cs, t ≠ 3 → Blk w g t cs → Blk w' g t cs
theorem KeepN.trans {w w1 w2 : World} (h : KeepN w w1) (k : KeepN w1 w2) : KeepN w w2 := ⟨Nat.le_trans h.1 k.1, fun g t cs h1 hb => k.2 g t cs h1 (h.2 g t cs h1 hb)⟩
theorem KeepN.of {w w' : World} (h : Below w.heap.size w w') : KeepN w w' := ⟨h.size, fun _ _ _ _ hb => hb.call h⟩
theorem CouW.set {w0 W : World} {nB m : Nat} (h : CouW w0 nB W m) (k : Nat) : CouW w0 nB (W.setCell ⟨nB, 0, none⟩ (.int .i64 (k : Int))) k ∧ KeepN W (W.setCell ⟨nB, 0, none⟩ (.int .i64 (k : Int))) := by
  have gs := grown_setCell W nB 0 (.int .i64 (k : Int))
  refine ⟨⟨h.below.setCell (p := ⟨nB, 0, none⟩) h.young _, h.cell.set 0 _, h.young⟩, gs.size, fun g t cs ht hb => hb.setO _ _ (fun e => ?_)⟩
  have e : g = nB := e
  rw [e] at hb
  have := (show W.heap[nB]? = _ from hb).symm.trans (show W.heap[nB]? = _ from h.cell)
  simp at this
  exact ht this.2
def CouP (w0 : World) (nB : Nat) (W : World) (m : Nat) (e : Ending) (W' : World) : Prop := e = .returned (.tuple #[]) ∧ CouW w0 nB W' m ∧ KeepN W W'
set_option maxHeartbeats 1600000 in
set_option maxRecDepth 100000 in
theorem count1_any {w0 : World} {nB : Nat} (q : RtAt) (W : World) (m : Nat) (hm : m ≤ 1000000) (h : CouW w0 nB W m) :
    Calls Tryd.prog 29 #[.agg (tCells q), .pointer (some ⟨nB, 0, none⟩)] W (CouP w0 nB W (m + 1)) := by
  have hb := (Below.refl W.heap.size W).alloc (Nat.le_refl _) (.cells (tCells q) 26)
  have h1 := h.call hb
  have x1 := h1.cell.cell1
  have x2 := h1.cell.frozen 0
  have HF := Lib.hid (h1.set (m + 1))
  have HK := Lib.hid (KeepN.of hb)
  clear hb h h1
  obtain ⟨n, ma, mc, ba, bc, ua, uc, ka, kc⟩ := q
  simp only [tCells] at *
  go_enter Tryd.func29, Tryd.ntmps29
  go_upto_region 1 with fail
  generalize W.alloc (.cells #[.string n.recv, .slice ma n.ms.length mc, .slice ba n.bys.length bc, .int .i64 n.wait, .int .i64 n.every, .int .i64 n.rep, .slice ua n.mute.length uc, .bool n.on, .slice ka n.kids.length kc] 26) = wx at *
  go_wp2_with fail
  go_end0
  exact ⟨rfl, HF.out.1, HK.out.trans HF.out.2⟩
abbrev couF (nB : Nat) : Value := .func (.func 29) #[] #[.pointer (some ⟨nB, 0, none⟩)]
abbrev visN (dB vB : Nat) : Value := .func (.func 48) #[] #[.pointer (some ⟨dB, 0, none⟩), .pointer (some ⟨vB, 0, none⟩)]
structure EacN (w0 : World) (nB dB vB : Nat) (W : World) (m : Nat) : Prop where
  cou : CouW w0 nB W m
  doC : Blk W dB 57 #[couF nB]
  vis : Blk W vB 57 #[visN dB vB]
theorem EacN.call {w0 W W1 : World} {nB dB vB m : Nat} (h : EacN w0 nB dB vB W m) (hb : Below W.heap.size W W1) : EacN w0 nB dB vB W1 m := ⟨h.cou.call hb, h.doC.call hb, h.vis.call hb⟩
theorem EacN.keep {w0 W W1 : World} {nB dB vB m m' : Nat} (h : EacN w0 nB dB vB W m) (hg : CouW w0 nB W1 m') (hk : KeepN W W1) : EacN w0 nB dB vB W1 m' :=
  ⟨hg, hk.2 _ _ _ (by decide) h.doC, hk.2 _ _ _ (by decide) h.vis⟩
def EacAll (w0 : World) (nB dB vB : Nat) (q : RtAt) : Prop :=
  ∀ (W : World) (m : Nat), m + q.n.count ≤ 1000000 → EacN w0 nB dB vB W m →
    Calls Tryd.prog 48 #[.agg (tCells q), .pointer (some ⟨dB, 0, none⟩), .pointer (some ⟨vB, 0, none⟩)] W (CouP w0 nB W (m + q.n.count))
theorem countRs_le (xs : List Rt) (k : Nat) : countRs (xs.take k) ≤ countRs xs := by
  induction xs generalizing k with
  | nil => simp
  | cons x xs ih =>
    cases k with
    | zero => simp [countRs]
    | succ k =>
      have := ih k
      simp only [List.take_succ_cons, countRs]
      omega
set_option maxHeartbeats 6400000 in
set_option maxRecDepth 100000 in
theorem eac_step {w0 : World} {nB dB vB : Nat} (q : RtAt) (hkc : q.n.kids.length ≤ q.kc ∧ q.kc ≤ maxLen)
    (HK : q.n.kids = [] ∨ ∃ b off, q.ka = some ⟨b, off, none⟩ ∧ b < w0.heap.size ∧ ∀ i (h : i < q.n.kids.length), ∃ r : RtAt, r.n = q.n.kids[i] ∧ r.lies w0 b (off + i * 9) ∧ r.ok w0 ∧ EacAll w0 nB dB vB r) : EacAll w0 nB dB vB q := by
  intro W m hL hW
  have hb := (Below.refl W.heap.size W).alloc (Nat.le_refl _) (.cells (tCells q) 26)
  have hB := Blk.new W 26 (tCells q)
  have hW1 := hW.call hb
  have hce := q.n.count_eq
  have hg := count1_any q _ m (by omega) hW1.cou
  have HGG := Lib.hid hg
  have HCE := Lib.hid hce
  have HK1 := Lib.hid (KeepN.of hb)
  have HKK := Lib.hid HK
  have HLB := Lib.hid hL
  clear hg hb HK hW hL hce
  obtain ⟨n, ma, mc, ba, bc, ua, uc, ka, kc⟩ := q
  simp only [tCells] at *
  unfold maxLen at hkc
  go_enter Tryd.func48, Tryd.ntmps48
  go_upto_region 1 with fail
  generalize W.alloc (.cells #[.string n.recv, .slice ma n.ms.length mc, .slice ba n.bys.length bc, .int .i64 n.wait, .int .i64 n.every, .int .i64 n.rep, .slice ua n.mute.length uc, .bool n.on, .slice ka n.kids.length kc] 26) = wx at *
  obtain ⟨c0, c1, c2, c3, c4, c5, c6, c7, c8⟩ := hB.cells9
  have x1 := hW1.doC.cell1
  simp only [couF] at x1
  go_upto_region 2 with (go_at_call 29; refine HGG.out.mono ?_; rintro e w2 ⟨rfl, hg2, hk2⟩)
  have hW2 := hW1.keep hg2 hk2
  have hB2 := hk2.2 _ _ _ (by decide) hB
  have HK2 := Lib.hid (HK1.out.trans hk2)
  clear hg2 hk2 hW1 x1 c0 c1 c2 c3 c4 c5 c6 c7 c8 hB HGG HK1
  obtain ⟨-, -, -, -, -, -, -, -, c8⟩ := hB2.cells9
  clear hB2
  by_cases hl0 : n.kids.length = 0
  · have hk0 : n.kids = [] := List.eq_nil_of_length_eq_zero hl0
    have hfin : m + 1 = m + n.count := by have := HCE.out; rw [hk0] at this; simp only [countRs] at this; omega
    have HF := Lib.hid hfin
    have HW2 := Lib.hid hW2
    rw [hl0] at c8
    clear hk0 hfin hW2 hl0 hkc
    go_wp2_with fail
    refine wp_loop_rounds 1 ?_
    rw [rounds_succ]
    go_wp2_with fail
    go_end0
    exact ⟨rfl, by rw [← HF.out]; exact HW2.out.cou, HK2.out⟩
  · obtain ⟨kb, kof, rfl, _, hkk⟩ : ∃ b off, ka = some ⟨b, off, none⟩ ∧ b < w0.heap.size ∧ ∀ i (h : i < n.kids.length), ∃ r : RtAt, r.n = n.kids[i] ∧ r.lies w0 b (off + i * 9) ∧ r.ok w0 ∧ EacAll w0 nB dB vB r := by
      rcases HKK.out with h | h
      · exact absurd (by rw [h]; rfl) hl0
      · exact h
    have HKI := Lib.hid hkk
    clear hkk HKK hl0
    go_wp2_with fail
    clear c8
    go_loopg [12, 5] n.kids.length (fun gg iv _ wr => ∃ (k : Nat), k + gg = n.kids.length ∧ iv = .int .i64 (k : Int) ∧ EacN w0 nB dB vB wr (m + 1 + countRs (n.kids.take k)) ∧ Hid (KeepN W wr))
    case atStart => exact ⟨0, by omega, rfl, by simpa [countRs] using hW2, HK2⟩
    case round =>
      obtain ⟨k, hkg, rfl, hWk, HKk⟩ := hrel
      cases gk with
      | zero =>
        obtain rfl : k = n.kids.length := by omega
        have hfin : m + 1 + countRs (n.kids.take n.kids.length) = m + n.count := by rw [List.take_length]; have := HCE.out; omega
        rw [hfin] at hWk
        have HWK := Lib.hid hWk
        clear hWk hfin
        go_wp2_with fail
        go_end0
        exact ⟨rfl, HWK.out.cou, HKk.out⟩
      | succ gg =>
        have hkl : k < n.kids.length := by omega
        obtain ⟨r, hrn, hrl, hro, hra⟩ := HKI.out k hkl
        obtain ⟨e0, e1, e2, e3, e4, e5, e6, e7, e8⟩ := hrl.call hWk.cou.below
        have hbn := (Below.refl wr.heap.size wr).alloc (Nat.le_refl _) (.cells (tCells r) 26)
        have hat := countRs_take n.kids k hkl
        rw [← hrn] at hat
        have hlt := countRs_le n.kids (k + 1)
        have hWn := hWk.call hbn
        have hcall := hra _ _ (by have := HLB.out; have := HCE.out; omega) hWn
        obtain ⟨f0, f1, f2, f3, f4, f5, f6, f7, f8⟩ := (Blk.new wr 26 (tCells r)).cells9
        have x2 := hWn.vis.cell1
        simp only [visN] at x2
        have hnx : m + 1 + countRs (n.kids.take k) + r.n.count = m + 1 + countRs (n.kids.take (k + 1)) := by omega
        rw [hnx] at hcall
        have HCALL := Lib.hid hcall
        have HKN := Lib.hid (HKk.out.trans (KeepN.of hbn))
        have HWN := Lib.hid hWn
        clear hrn hrl hro hra hbn hat hlt hWn hcall hnx hWk HKk
        obtain ⟨r, ma', mc', ba', bc', ua', uc', ka', kc'⟩ := r
        simp only [tCells] at *
        go_wp2_with (go_at_call 48; refine HCALL.out.mono ?_; rintro e w3 ⟨rfl, hg3, hk3⟩)
        go_roundg gg
        case measure => omega
        case rel => exact ⟨k + 1, by omega, by go_num, HWN.out.keep hg3 hk3, Lib.hid (HKN.out.trans hk3)⟩
theorem eac_any {w0 : World} {nB dB vB : Nat} {q : RtAt} (h : q.ok w0) : EacAll w0 nB dB vB q := by
  induction h with
  | flat q h0 h1 => exact eac_step q h0.2 (.inl h1)
  | row q b off R h0 h1 h2 h3 h4 h5 ih => exact eac_step q h0.2 (.inr ⟨b, off, h1, h2, fun i hi => ⟨R i, h3 i hi, h4 i hi, h5 i hi, ih i hi⟩⟩)
set_option maxHeartbeats 6400000 in
set_option maxRecDepth 100000 in
theorem eachN_any {w0 : World} {nB : Nat} {q : RtAt} (h : q.ok w0) (W : World) (m : Nat) (hL : m + q.n.count ≤ 1000000) (hW : CouW w0 nB W m) :
    Calls Tryd.prog 28 #[.agg (tCells q), couF nB] W (CouP w0 nB W (m + q.n.count)) := by
  have hb1 := (Below.refl W.heap.size W).alloc (Nat.le_refl _) (.cells (tCells q) 26)
  have hz1 : (W.alloc (.cells (tCells q) 26)).heap.size = W.heap.size + 1 := by simp
  have hb2 := hb1.alloc (by omega) (.cells #[couF nB] 57)
  have hz2 : ((W.alloc (.cells (tCells q) 26)).alloc (.cells #[couF nB] 57)).heap.size = W.heap.size + 2 := by simp
  have hb3 := hb2.alloc (by omega) (.cells #[visN (W.heap.size + 1) (W.heap.size + 2)] 57)
  have hB := ((Blk.new W 26 (tCells q)).alloc (.cells #[couF nB] 57)).alloc (.cells #[visN (W.heap.size + 1) (W.heap.size + 2)] 57)
  have hD := (Blk.new (W.alloc (.cells (tCells q) 26)) 57 #[couF nB]).alloc (.cells #[visN (W.heap.size + 1) (W.heap.size + 2)] 57)
  rw [hz1] at hD
  have hV := Blk.new ((W.alloc (.cells (tCells q) 26)).alloc (.cells #[couF nB] 57)) 57 #[visN (W.heap.size + 1) (W.heap.size + 2)]
  rw [hz2] at hV
  have hcall := eac_any h _ m hL ⟨hW.call hb3, hD, hV⟩
  have hv1 := hV.cell1
  have HK := Lib.hid (KeepN.of hb3)
  have HC := Lib.hid hcall
  clear hb1 hz1 hb2 hz2 hb3 hD hV hcall hW h hL
  obtain ⟨n, ma, mc, ba, bc, ua, uc, ka, kc⟩ := q
  simp only [tCells, couF, visN] at *
  go_enter Tryd.func28, Tryd.ntmps28
  go_upto_region 3 with fail
  generalize ((W.alloc (.cells #[.string n.recv, .slice ma n.ms.length mc, .slice ba n.bys.length bc, .int .i64 n.wait, .int .i64 n.every, .int .i64 n.rep, .slice ua n.mute.length uc, .bool n.on, .slice ka n.kids.length kc] 26)).alloc (.cells #[.func (.func 29) #[] #[.pointer (some ⟨nB, 0, none⟩)]] 57)).alloc (.cells #[.func (.func 48) #[] #[.pointer (some ⟨W.heap.size + 1, 0, none⟩), .pointer (some ⟨W.heap.size + 2, 0, none⟩)]] 57) = wx at *
  obtain ⟨c0, c1, c2, c3, c4, c5, c6, c7, c8⟩ := hB.cells9
  go_wp2_with (go_at_call 48; refine HC.out.mono ?_; rintro e w2 ⟨rfl, hg2, hk2⟩)
  go_end0
  exact ⟨rfl, hg2, HK.out.trans hk2⟩
set_option maxHeartbeats 6400000 in
set_option maxRecDepth 100000 in
theorem count_any (w : World) (q : RtAt) (h : q.ok w) (hc : q.n.count ≤ 100000) :
    Calls Tryd.prog 12 #[.agg (tCells q)] w (fun e w' => e = .returned (.int .i64 (q.n.count : Int)) ∧ Below w.heap.size w w') := by
  have hb1 := (Below.refl w.heap.size w).alloc (Nat.le_refl _) (.cells (tCells q) 26)
  have hz1 : (w.alloc (.cells (tCells q) 26)).heap.size = w.heap.size + 1 := by simp
  have hb2 := hb1.alloc (by omega) (.cells #[.int .i64 0] 3)
  have hB := (Blk.new w 26 (tCells q)).alloc (.cells #[.int .i64 0] 3)
  have hN := Blk.new (w.alloc (.cells (tCells q) 26)) 3 #[.int .i64 0]
  rw [hz1] at hN
  have hcall := eachN_any h _ 0 (by omega) (nB := w.heap.size + 1) ⟨hb2, hN, by omega⟩
  rw [Nat.zero_add] at hcall
  have HC := Lib.hid hcall
  clear hb1 hz1 hb2 hN hcall h hc
  obtain ⟨n, ma, mc, ba, bc, ua, uc, ka, kc⟩ := q
  simp only [tCells, couF] at *
  go_enter Tryd.func12, Tryd.ntmps12
  go_upto_region 2 with fail
  generalize (w.alloc (.cells #[.string n.recv, .slice ma n.ms.length mc, .slice ba n.bys.length bc, .int .i64 n.wait, .int .i64 n.every, .int .i64 n.rep, .slice ua n.mute.length uc, .bool n.on, .slice ka n.kids.length kc] 26)).alloc (.cells #[.int .i64 0] 3) = w2 at *
  obtain ⟨c0, c1, c2, c3, c4, c5, c6, c7, c8⟩ := hB.cells9
  go_wp2_with (go_at_call 28; refine HC.out.mono ?_; rintro e w3 ⟨rfl, hg3, hk3⟩; have y1 := hg3.cell.cell1)
  go_ret
  exact ⟨rfl, hg3.below⟩
end Go.Proofs.YtmhehojjlacfoaaDoor
/- The contracts of routes.Like, of its closure, and of slices.EqualFunc around that. -/
namespace Go.Proofs.YtmhehojjlacfoaaDoor
open Go.RowKit

abbrev likF (fB : Nat) : Value := .func (.func 23) #[] #[.pointer (some ⟨fB, 0, none⟩)]
/-- what the closure tells of a route that lies in w0 and any other -/
def LkR (w0 : World) (fB : Nat) (q : RtAt) : Prop := ∀ (p : RtAt) (w : World), p.ok w → Below w0.heap.size w0 w → Blk w fB 36 #[likF fB] →
  Calls Tryd.prog 23 #[.agg (tCells q), .agg (tCells p), .pointer (some ⟨fB, 0, none⟩)] w (BoolB (eqB (q.n = p.n)) w)

set_option maxHeartbeats 6400000 in
set_option maxRecDepth 100000 in
theorem eqRts_of {w0 : World} {fB : Nat} (q : RtAt) (hic : q.n.kids.length ≤ q.kc ∧ q.kc ≤ maxLen) (hpl : q.n.kids = [] ∨ ∃ b off, q.ka = some ⟨b, off, none⟩ ∧ b < w0.heap.size ∧ ∀ i (h : i < q.n.kids.length), ∃ r : RtAt, r.n = q.n.kids[i] ∧ r.lies w0 b (off + i * 9) ∧ r.ok w0 ∧ LkR w0 fB r)
    (p : RtAt) (w : World) (hp : p.ok w) (hw : Below w0.heap.size w0 w) (hf : Blk w fB 36 #[likF fB]) :
    Calls Tryd.prog 25 #[.slice q.ka q.n.kids.length q.kc, .slice p.ka p.n.kids.length p.kc, likF fB] w (BoolB (eqB (q.n.kids = p.n.kids)) w) := by
  have hjc := hp.head.2
  have hpp := hp.place
  obtain ⟨R, hR⟩ : ∃ R, eqB (q.n.kids = p.n.kids) = R := ⟨_, rfl⟩
  rw [hR]
  have HR := Lib.hid hR
  have HPL := Lib.hid hpl
  have HPP := Lib.hid hpp
  have HW := Lib.hid hw
  have HF := Lib.hid hf
  unfold maxLen at hic hjc
  obtain ⟨hic1, hic2⟩ := hic
  obtain ⟨hjc1, hjc2⟩ := hjc
  clear hpl hpp hR hp hw hf
  obtain ⟨n, ma, mc, ba, bc, ua, uc, ka, kc⟩ := q
  obtain ⟨m, ma2, mc2, ba2, bc2, ua2, uc2, ka2, kc2⟩ := p
  simp only at *
  simp only [likF]
  go_enter Tryd.func25, Tryd.ntmps25
  by_cases hl : n.kids.length = m.kids.length
  case neg =>
    obtain rfl : R = false := by rw [← HR.out]; exact eqB_no (fun e => hl (by rw [e]))
    have f4 := natNeR hl
    clear hl
    go_wp2_with fail
    go_ret
    exact ⟨rfl, Below.refl _ _⟩
  have f4 := natEqR hl
  obtain ⟨I, hI, hgood, hend⟩ := rowsP n.kids m.kids hl
  have HGI := Lib.hid hgood
  have HEI := Lib.hid hend
  have HIL := Lib.hid hl
  clear hgood hend hl
  go_wp2_with fail
  go_loopg [17, 7, 8, 9] n.kids.length (fun gg iv _ _ _ wr => ∃ k : Nat, k + gg = n.kids.length ∧ k ≤ I ∧ iv = .int .i64 k ∧ Below w.heap.size w wr)
  case atStart => exact ⟨0, by omega, Nat.zero_le _, rfl, Below.refl _ _⟩
  case round =>
    clear f4
    obtain ⟨k, hkg, hkI, rfl, hbr⟩ := hrel
    cases gk with
    | zero =>
      obtain rfl : k = n.kids.length := by omega
      obtain rfl : R = true := by
        rcases HEI.out with ⟨_, e⟩ | ⟨h1, _, _, _⟩
        · rw [← HR.out]
          exact eqB_yes e
        · omega
      go_wp2_with fail
      go_ret
      exact ⟨rfl, hbr⟩
    | succ gg =>
      have hkl : k < n.kids.length := by omega
      have hkm : k < m.kids.length := by have := HIL.out; omega
      obtain ⟨b1, o1, rfl, r, hrn, hrl, _, hrM⟩ : ∃ b off, ka = some ⟨b, off, none⟩ ∧ ∃ r : RtAt, r.n = n.kids[k] ∧ r.lies w0 b (off + k * 9) ∧ r.ok w0 ∧ LkR w0 fB r := by
        rcases HPL.out with h | ⟨b, off, h1, _, h3⟩
        · rw [h] at hkl; simp at hkl
        · exact ⟨b, off, h1, h3 k hkl⟩
      obtain ⟨b2, o2, rfl, s, hsn, hsl, hso⟩ : ∃ b off, ka2 = some ⟨b, off, none⟩ ∧ ∃ r : RtAt, r.n = m.kids[k] ∧ r.lies w b (off + k * 9) ∧ r.ok w := by
        rcases HPP.out with h | ⟨b, off, h1, _, h3⟩
        · rw [h] at hkm; simp at hkm
        · exact ⟨b, off, h1, h3 k hkm⟩
      obtain ⟨x0, x1, x2, x3, x4, x5, x6, x7, x8⟩ := hrl.call (bthen HW.out hbr)
      have hb1 := balR (o := .cells (tCells r) 26) (Below.refl wr.heap.size wr)
      obtain ⟨y0, y1, y2, y3, y4, y5, y6, y7, y8⟩ := hsl.call (bthen hbr hb1)
      have hb2 := balR (o := .cells (tCells s) 26) hb1
      have hA := (Blk.new wr 26 (tCells r)).alloc (.cells (tCells s) 26)
      have hB := nbR wr (.cells (tCells r) 26) (tCells s) 26
      have hM := hrM s ((wr.alloc (.cells (tCells r) 26)).alloc (.cells (tCells s) 26)) (hso.call (bthen hbr hb2)) (bthen (bthen HW.out hbr) hb2) (HF.out.call (bthen hbr hb2))
      obtain ⟨X, hX⟩ : ∃ X, eqB (r.n = s.n) = X := ⟨_, rfl⟩
      rw [hX] at hM
      rw [hrn, hsn] at hX
      have HM := Lib.hid hM
      have HB2 := Lib.hid (bthen hbr hb2)
      have hrr : k = I → X = false ∧ R = false := fun e => by
        rcases HEI.out with ⟨h1, _⟩ | ⟨_, _, h3, h4⟩
        · omega
        · subst e
          exact ⟨by rw [← hX]; exact eqB_no h3, by rw [← HR.out]; exact eqB_no h4⟩
      have hgg : k ≠ I → X = true := fun e => by rw [← hX]; exact eqB_yes (HGI.out k hkl hkm (by omega))
      obtain ⟨c0, c1, c2, c3, c4, c5, c6, c7, c8⟩ := hA.cells9
      obtain ⟨d0, d1, d2, d3, d4, d5, d6, d7, d8⟩ := hB.cells9
      clear hX hrn hsn hrl hsl hso hrM hM hb1 hb2 hA hB hbr
      obtain ⟨r, ra, rc, rba, rbc, rua, ruc, qa, qc⟩ := r
      obtain ⟨s, sa, sc, sba, sbc, sua, suc, pa, pc⟩ := s
      simp only [tCells] at *
      by_cases hkI2 : k = I
      · obtain ⟨rfl, rfl⟩ := hrr hkI2
        clear hrr hgg hkI2 hkI
        go_wp2_with (go_at_call 23; refine HM.out.mono ?_; rintro e w3 ⟨rfl, hb3⟩)
        go_ret
        exact ⟨rfl, bthen HB2.out hb3⟩
      · obtain rfl := hgg hkI2
        clear hrr hgg
        go_wp2_with (go_at_call 23; refine HM.out.mono ?_; rintro e w3 ⟨rfl, hb3⟩)
        go_roundg gg
        case measure => omega
        case rel => exact ⟨k + 1, by omega, by omega, by go_num, bthen HB2.out hb3⟩

set_option maxHeartbeats 6400000 in
set_option maxRecDepth 100000 in
theorem like_step {w0 : World} {fB : Nat} (q : RtAt) (hqo : q.own w0) (hkc : q.n.kids.length ≤ q.kc ∧ q.kc ≤ maxLen) (hpl : q.n.kids = [] ∨ ∃ b off, q.ka = some ⟨b, off, none⟩ ∧ b < w0.heap.size ∧ ∀ i (h : i < q.n.kids.length), ∃ r : RtAt, r.n = q.n.kids[i] ∧ r.lies w0 b (off + i * 9) ∧ r.ok w0 ∧ LkR w0 fB r) : LkR w0 fB q := by
  intro p w hp hw hf
  have hb := balR (o := .cells (tCells q) 26) (Below.refl w.heap.size w)
  have hb2 := balR (o := .cells (tCells p) 26) hb
  have hB := (Blk.new w 26 (tCells q)).alloc (.cells (tCells p) 26)
  have hP := nbR w (.cells (tCells q) 26) (tCells p) 26
  have hA := fun W (hW : Below w.heap.size w W) => likeAlone_any q p W ((hqo.call hw).call hW) (hp.own.call hW)
  have hE := fun W (hW : Below w.heap.size w W) => eqRts_of q hkc hpl p W (hp.call hW) (bthen hw hW) (hf.call hW)
  have hR : eqB (q.n = p.n) = (eqB (aloneB q.n p.n) && eqB (q.n.kids = p.n.kids)) := by
    rw [← eqB_and]
    congr 1
    exact propext (alone_ext _ _)
  rw [hR]
  generalize eqB (aloneB q.n p.n) = B1 at *
  generalize eqB (q.n.kids = p.n.kids) = B2 at *
  have HA := Lib.hid hA
  have HE := Lib.hid hE
  have HF := Lib.hid (hf.call hb2)
  have HB := Lib.hid hb2
  clear hA hE hb hb2 hp hw hf hqo hpl hkc hR
  obtain ⟨n, m1a, m1c, b1a, b1c, u1a, u1c, k1a, k1c⟩ := q
  obtain ⟨m, m2a, m2c, b2a, b2c, u2a, u2c, k2a, k2c⟩ := p
  simp only [tCells, likF] at *
  go_enter Tryd.func23, Tryd.ntmps23
  go_upto_region 1 with fail
  obtain ⟨g, hg⟩ : ∃ g, w.heap.size = g := ⟨_, rfl⟩
  generalize (w.alloc (.cells #[.string n.recv, .slice m1a n.ms.length m1c, .slice b1a n.bys.length b1c, .int .i64 n.wait, .int .i64 n.every, .int .i64 n.rep, .slice u1a n.mute.length u1c, .bool n.on, .slice k1a n.kids.length k1c] 26)).alloc (.cells #[.string m.recv, .slice m2a m.ms.length m2c, .slice b2a m.bys.length b2c, .int .i64 m.wait, .int .i64 m.every, .int .i64 m.rep, .slice u2a m.mute.length u2c, .bool m.on, .slice k2a m.kids.length k2c] 26) = wx at *
  rw [hg] at hB hP ⊢
  clear hg
  have HBQ := Lib.hid (fun W (hW : Below wx.heap.size wx W) => (hB.call hW).cells9)
  have HBP := Lib.hid (fun W (hW : Below wx.heap.size wx W) => (hP.call hW).cells9)
  obtain ⟨c0, c1, c2, c3, c4, c5, c6, c7, c8⟩ := hB.cells9
  obtain ⟨d0, d1, d2, d3, d4, d5, d6, d7, d8⟩ := hP.cells9
  clear hB hP
  have HF2 : Hid (∀ W, Below wx.heap.size wx W → W.cell? ⟨fB, 0, none⟩ = some (.func (.func 23) #[] #[.pointer (some ⟨fB, 0, none⟩)])) := Lib.hid (fun W hW => (HF.out.call hW).cell 0)
  cases B1 with
  | false =>
    go_wp2_with (go_at_call 24; refine (HA.out _ HB.out).mono ?_; rintro e w2 ⟨rfl, hb2⟩)
    go_ret
    exact ⟨rfl, bthen HB.out hb2⟩
  | true =>
    go_wp2_with (first
      | (go_at_call 24; refine (HA.out _ HB.out).mono ?_; rintro e w2 ⟨rfl, hb2⟩; obtain ⟨x0, x1, x2, x3, x4, x5, x6, x7, x8⟩ := HBQ.out _ hb2; obtain ⟨y0, y1, y2, y3, y4, y5, y6, y7, y8⟩ := HBP.out _ hb2; have z0 := HF2.out _ hb2)
      | (go_at_call 25; refine (HE.out _ (bthen HB.out hb2)).mono ?_; rintro e w3 ⟨rfl, hb3⟩))
    go_ret
    exact ⟨rfl, bthen HB.out (bthen hb2 hb3)⟩
theorem likeIn_any {w0 : World} {fB : Nat} {q : RtAt} (h : q.ok w0) : LkR w0 fB q := by
  induction h with
  | flat q h0 h1 => exact like_step q h0.1 h0.2 (.inl h1)
  | row q b off R h0 h1 h2 h3 h4 h5 ih => exact like_step q h0.1 h0.2 (.inr ⟨b, off, h1, h2, fun i hi => ⟨R i, h3 i hi, h4 i hi, h5 i hi, ih i hi⟩⟩)
set_option maxHeartbeats 6400000 in
set_option maxRecDepth 100000 in
theorem routesLike_any (q p : RtAt) (w : World) (hq : q.ok w) (hp : p.ok w) : Calls Tryd.prog 10 #[.agg (tCells q), .agg (tCells p)] w (BoolB (eqB (q.n = p.n)) w) := by
  have hb := balR (o := .cells (tCells q) 26) (Below.refl w.heap.size w)
  have hb2 := balR (o := .cells (tCells p) 26) hb
  have hB := (Blk.new w 26 (tCells q)).alloc (.cells (tCells p) 26)
  have hP := nbR w (.cells (tCells q) 26) (tCells p) 26
  generalize hw2 : (w.alloc (.cells (tCells q) 26)).alloc (.cells (tCells p) 26) = w2 at *
  have hb3 := balR (o := .cells #[likF (w2.heap.size)] 36) hb2
  have hF := Blk.new w2 36 #[likF (w2.heap.size)]
  have hB3 := hB.alloc (.cells #[likF (w2.heap.size)] 36)
  have hP3 := hP.alloc (.cells #[likF (w2.heap.size)] 36)
  have hL := likeIn_any hq p _ (hp.call hb3) hb3 hF
  have hf1 := hF.cells1
  have HL := Lib.hid hL
  have HB := Lib.hid hb3
  clear hb hb2 hb3 hB hP hF hL hq hp
  generalize eqB (q.n = p.n) = R at *
  obtain ⟨n, m1a, m1c, b1a, b1c, u1a, u1c, k1a, k1c⟩ := q
  obtain ⟨m, m2a, m2c, b2a, b2c, u2a, u2c, k2a, k2c⟩ := p
  simp only [tCells, likF] at *
  go_enter Tryd.func10, Tryd.ntmps10
  go_upto_region 1 with fail
  clear hw2
  go_upto_region 3 with fail
  generalize w2.alloc (.cells #[.func (.func 23) #[] #[.pointer (some ⟨w2.heap.size, 0, none⟩)]] 36) = wx at *
  obtain ⟨c0, c1, c2, c3, c4, c5, c6, c7, c8⟩ := hB3.cells9
  obtain ⟨d0, d1, d2, d3, d4, d5, d6, d7, d8⟩ := hP3.cells9
  go_wp2_with (go_at_call 23; refine HL.out.mono ?_; rintro e w3 ⟨rfl, hb3⟩)
  go_ret
  exact ⟨rfl, bthen HB.out hb3⟩
end Go.Proofs.YtmhehojjlacfoaaDoor
