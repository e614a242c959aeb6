/- Two nodes that are like: the contract of the document's own Like of layer 5. -/
import Derived.Test.YtolbhhokpelchaaDoorOutF
import Derived.Test.YtolbhhokpelchaaDoorLater
import Derived.Test.YtolbhhokpelchaaDoorOutB
import Derived.Deep.CutBlock
namespace Go.Proofs.YtolbhhokpelchaaDoor
open Go.RowKit

/-- whether two nodes are the same -/
noncomputable def likeN (n m : Nd) : Bool := @decide (n = m) (Classical.propDecidable _)
theorem likeN_yes {n m : Nd} (h : n = m) : likeN n m = true := by unfold likeN; simp [h]
theorem likeN_no {n m : Nd} (h : n ≠ m) : likeN n m = false := by unfold likeN; simp [h]
theorem likeN_iff {n m : Nd} : likeN n m = true ↔ n = m := by unfold likeN; simp
theorem Nd.ext4 {n m : Nd} (h1 : n.kind = m.kind) (h2 : n.word = m.word) (h3 : n.names = m.names) (h4 : n.items = m.items) : n = m := by
  cases n; cases m
  simp only [Nd.kind, Nd.word, Nd.names, Nd.items] at h1 h2 h3 h4
  subst h1 h2 h3 h4
  rfl
/-- where two rows of one length part -/
theorem rows_part {α : Type} : ∀ (xs ys : List α), xs.length = ys.length → ∃ J, J ≤ xs.length ∧ (∀ k (h : k < xs.length) (h' : k < ys.length), k < J → xs[k] = ys[k]) ∧ (J = xs.length ∧ xs = ys ∨ ∃ (h : J < xs.length) (h' : J < ys.length), xs[J] ≠ ys[J] ∧ xs ≠ ys)
  | [], [], _ => ⟨0, Nat.le_refl _, fun k h => by simp at h, .inl ⟨rfl, rfl⟩⟩
  | [], _ :: _, h => by simp at h
  | _ :: _, [], h => by simp at h
  | x :: xs, y :: ys, h => by
    by_cases e : x = y
    · obtain ⟨J, h1, h2, h3⟩ := rows_part xs ys (by simpa using h)
      refine ⟨J + 1, by simpa using h1, fun k hk hk' hJ => ?_, ?_⟩
      · cases k with
        | zero => exact e
        | succ k => exact h2 k (by simpa using hk) (by simpa using hk') (by omega)
      · rcases h3 with ⟨e1, e2⟩ | ⟨g1, g2, g3, g4⟩
        · exact .inl ⟨by simp [e1], by rw [e, e2]⟩
        · exact .inr ⟨by simpa using g1, by simpa using g2, g3, fun e' => g4 (by simpa [e] using e')⟩
    · exact ⟨0, Nat.zero_le _, fun k _ _ hk => by omega, .inr ⟨by simp, by simp, e, fun e' => e (by simpa using (List.cons.inj e').1)⟩⟩
/-- a node in memory, by its items -/
theorem NdAt.ok.ind {w0 : World} {M : NdAt → Prop}
    (step : ∀ q : NdAt, q.ok w0 → (q.n.items = [] ∨ ∃ b off, q.ia = some ⟨b, off, none⟩ ∧ b < w0.heap.size ∧ ∀ i (h : i < q.n.items.length), ∃ r : NdAt, r.n = q.n.items[i] ∧ r.lies w0 b (off + i * 4) ∧ r.ok w0 ∧ M r) → M q)
    {q : NdAt} (h : q.ok w0) : M q := by
  induction h with
  | flat q h0 h1 => exact step q (.flat q h0 h1) (.inl h1)
  | row q b off R h0 h1 h2 h3 h4 h5 ih => exact step q (.row q b off R h0 h1 h2 h3 h4 h5) (.inr ⟨b, off, h1, h2, fun i hi => ⟨R i, h3 i hi, h4 i hi, h5 i hi, ih i hi⟩⟩)
theorem nbK (w : World) (o : Obj) (cs : Array Value) (t : TypeId) : Blk ((w.alloc o).alloc (.cells cs t)) (w.heap.size + 1) t cs := by
  have h := Blk.new (w.alloc o) t cs
  rwa [World.size_alloc] at h
theorem natNe {a b : Nat} (h : a ≠ b) : ((a : Int) != (b : Int)) = true := by rw [bne_iff_ne]; omega
theorem natEq' {a b : Nat} (h : a = b) : ((a : Int) != (b : Int)) = false := by subst h; simp

set_option maxHeartbeats 12800000 in
set_option maxRecDepth 100000 in
theorem rLikeN_any {w0 : World} {q : NdAt} (h : q.ok w0) : ∀ (p : NdAt) (w : World), p.ok w → Below w0.heap.size w0 w → Calls Tryd.prog 15 #[.agg (nCells q), .agg (nCells p)] w (BoolW (likeN q.n p.n) w) := by
  refine NdAt.ok.ind (M := fun q => ∀ (p : NdAt) (w : World), p.ok w → Below w0.heap.size w0 w → Calls Tryd.prog 15 #[.agg (nCells q), .agg (nCells p)] w (BoolW (likeN q.n p.n) w)) ?_ h
  intro q hq hpl p w hp hw
  have hb := ((Below.refl w.heap.size w).alloc (Nat.le_refl _) (.cells (nCells q) 25))
  have hb2 : Below w.heap.size w ((w.alloc (.cells (nCells q) 25)).alloc (.cells (nCells p) 25)) := hb.alloc hb.size _
  have hB := (Blk.new w 25 (nCells q)).alloc (.cells (nCells p) 25)
  have hP := nbK w (.cells (nCells q) 25) (nCells p) 25
  obtain ⟨R, hR⟩ : ∃ R, likeN q.n p.n = R := ⟨_, rfl⟩
  rw [hR]
  have hqw := hq.call hw
  have hq1 := (hqw.call hb2).head
  have hp1 := (hp.call hb2).head
  have hplp := (hp.call hb2).place
  have HW := Lib.hid (bthen hw hb2)
  have HR := Lib.hid hR
  have HB := Lib.hid hb2
  have HPL := Lib.hid hpl
  have HPP := Lib.hid hplp
  have HQ1 := Lib.hid hq1.1
  have HP1 := Lib.hid hp1.1
  have li := hq1.2.2.2
  have lj := hp1.2.2.2
  have ln1 := hq1.1.1
  have ln2 := hq1.1.2.1
  have lm1 := hp1.1.1
  have lm2 := hp1.1.2.1
  unfold maxLen at li lj ln2 lm2
  obtain ⟨li1, li2⟩ := li
  obtain ⟨lj1, lj2⟩ := lj
  clear hq hpl hp hw hb hb2 hR hqw hq1 hp1 hplp
  obtain ⟨n, na, nc, ia, ic⟩ := q
  obtain ⟨m, ma, mc, ja, jc⟩ := p
  simp only [nCells] at *
  go_enter Tryd.func15, Tryd.ntmps15
  go_upto_region 1 with fail
  obtain ⟨g, hg⟩ : ∃ g, w.heap.size = g := ⟨_, rfl⟩
  have HG := Lib.hid hg
  generalize (w.alloc (.cells #[.int .i64 n.kind, .string n.word, .slice na n.names.length nc, .slice ia n.items.length ic] 25)).alloc (.cells #[.int .i64 m.kind, .string m.word, .slice ma m.names.length mc, .slice ja m.items.length jc] 25) = wx at *
  rw [hg] at hB hP ⊢
  clear hg
  obtain ⟨c0, c1, c2, c3⟩ := hB.cells4
  obtain ⟨d0, d1, d2, d3⟩ := hP.cells4
  by_cases hk : n.kind = m.kind
  case neg =>
    obtain rfl : R = false := by rw [← HR.out]; exact likeN_no (fun e => hk (by rw [e]))
    have f1 : (n.kind != m.kind) = true := bne_iff_ne.2 hk
    clear hk
    go_wp2_with fail
    go_ret
    exact ⟨rfl, HB.out⟩
  have f1 : (n.kind != m.kind) = false := by rw [hk]; simp
  by_cases hwd : n.word = m.word
  case neg =>
    obtain rfl : R = false := by rw [← HR.out]; exact likeN_no (fun e => hwd (by rw [e]))
    have f2 : (!(n.word.toList == m.word.toList)) = true := by rw [strEq]; simp [hwd]
    clear hwd hk
    go_wp2_with fail
    go_ret
    exact ⟨rfl, HB.out⟩
  have f2 : (!(n.word.toList == m.word.toList)) = false := by rw [strEq]; simp [hwd]
  by_cases hnl : n.names.length = m.names.length
  case neg =>
    obtain rfl : R = false := by rw [← HR.out]; exact likeN_no (fun e => hnl (by rw [e]))
    have f3 := natNe hnl
    clear hnl hwd hk
    go_wp2_with fail
    go_ret
    exact ⟨rfl, HB.out⟩
  have f3 := natEq' hnl
  by_cases hil : n.items.length = m.items.length
  case neg =>
    obtain rfl : R = false := by rw [← HR.out]; exact likeN_no (fun e => hil (by rw [e]))
    have f4 := natNe hil
    clear hil hnl hwd hk
    go_wp2_with fail
    go_ret
    exact ⟨rfl, HB.out⟩
  have f4 := natEq' hil
  obtain ⟨J, hJ, hgood, hend⟩ := rows_part n.names m.names hnl
  obtain ⟨I, hI, hgood2, hend2⟩ := rows_part n.items m.items hil
  have HK := Lib.hid hk
  have HWD := Lib.hid hwd
  have HGJ := Lib.hid hgood
  have HEJ := Lib.hid hend
  have HGI := Lib.hid hgood2
  have HEI := Lib.hid hend2
  have HNL := Lib.hid hnl
  have HIL := Lib.hid hil
  clear hk hwd hgood hend hgood2 hend2 hnl hil
  go_upto_block 0 with fail
  clear f1 f2 f3 f4
  go_cut [] (fun wy => Below wx.heap.size wx wy ∧ n.names = m.names)
  case first =>
    go_wp2_with fail
    go_loopg [40, 5] n.names.length (fun gg iv _ wr => ∃ k : Nat, k + gg = n.names.length ∧ k ≤ J ∧ iv = .int .i64 k ∧ Below wx.heap.size wx wr)
    case atStart => exact ⟨0, by omega, Nat.zero_le _, rfl, Below.refl _ _⟩
    case round =>
      obtain ⟨k, hkg, hkJ, rfl, hbr⟩ := hrel
      cases gk with
      | zero =>
        obtain rfl : k = n.names.length := by omega
        go_wp2_with fail
        go_meet
        rcases HEJ.out with ⟨_, e⟩ | ⟨h1, _, _, _⟩
        · exact ⟨hbr, e⟩
        · omega
      | succ gg =>
        have hkl : k < n.names.length := by omega
        have hkm : k < m.names.length := by have := HNL.out; omega
        obtain ⟨b1, o1, rfl⟩ : ∃ b off, na = some ⟨b, off, none⟩ := by
          rcases HQ1.out.2.2.2 with h | ⟨b, off, h, _, _⟩
          · rw [h] at hkl; simp at hkl
          · exact ⟨b, off, h⟩
        obtain ⟨b2, o2, rfl⟩ : ∃ b off, ma = some ⟨b, off, none⟩ := by
          rcases HP1.out.2.2.2 with h | ⟨b, off, h, _, _⟩
          · rw [h] at hkm; simp at hkm
          · exact ⟨b, off, h⟩
        have x1 := (HQ1.out.call hbr).atN k hkl
        have x2 := (HP1.out.call hbr).atN k hkm
        have hsq := strEq n.names[k] m.names[k]
        obtain ⟨e0, e1, e2, e3⟩ := (hB.call hbr).cells4
        obtain ⟨y0, y1, y2, y3⟩ := (hP.call hbr).cells4
        have HBR := Lib.hid hbr
        have x1l := fun x => later_cell x1 x
        have x2l := fun x => later_cell x2 x
        have e2l := fun x => later_cell e2 x
        have y2l := fun x => later_cell y2 x
        have hrr : k = J → n.names[k] ≠ m.names[k] ∧ R = false := fun e => by
          rcases HEJ.out with ⟨h1, _⟩ | ⟨_, _, h3, h4⟩
          · omega
          · subst e
            exact ⟨h3, by rw [← HR.out]; exact likeN_no (fun e => h4 (by rw [e]))⟩
        have hgg : k ≠ J → n.names[k] = m.names[k] := fun e => HGJ.out k hkl hkm (by omega)
        generalize n.names[k] = s1 at *
        generalize m.names[k] = s2 at *
        clear x1 x2 e0 e1 e2 e3 y0 y1 y2 y3 hbr
        by_cases hkJ2 : k = J
        · obtain ⟨hne, rfl⟩ := hrr hkJ2
          have f : (!(s1.toList == s2.toList)) = true := by rw [hsq]; simp [hne]
          clear hrr hgg hne hsq hkJ2 hkJ
          go_upto_region 6 with fail
          refine wp_region_later (by kernel_rfl) (by kernel_rfl) ?_
          repeat (go_big_quiet_step (fail))
          refine wpQuiet_nil ?_
          rintro _ ⟨x, rfl⟩
          have hb2 := bthen HBR.out (later_below wr x)
          generalize later wr x = w2 at *
          go_wp2_with fail
          go_ret
          exact ⟨rfl, bthen HB.out hb2⟩
        · have heq := hgg hkJ2
          have f : (!(s1.toList == s2.toList)) = false := by rw [hsq]; simp [heq]
          clear hrr hgg heq hsq
          go_upto_region 6 with fail
          refine wp_region_later (by kernel_rfl) (by kernel_rfl) ?_
          repeat (go_big_quiet_step (fail))
          refine wpQuiet_nil ?_
          rintro _ ⟨x, rfl⟩
          have hb2 := bthen HBR.out (later_below wr x)
          generalize later wr x = w2 at *
          go_wp2_with fail
          go_roundg gg
          case measure => omega
          case rel => exact ⟨k + 1, by omega, by omega, by go_num, hb2⟩
  case rest =>
  obtain ⟨hbc, hnames⟩ := hcut
  have HNN := Lib.hid hnames
  have HBC := Lib.hid hbc
  obtain ⟨c0, c1, c2, c3⟩ := (hB.call hbc).cells4
  clear hnames hbc
  go_wp2_with fail
  go_loopg [58, 6] n.items.length (fun gg iv _ wr => ∃ k : Nat, k + gg = n.items.length ∧ k ≤ I ∧ iv = .int .i64 k ∧ Below wc.heap.size wc wr)
  case atStart => exact ⟨0, by omega, Nat.zero_le _, rfl, Below.refl _ _⟩
  case round =>
    obtain ⟨k, hkg, hkI, rfl, hbr0⟩ := hrel
    have hbr := bthen HBC.out hbr0
    have HB0 := Lib.hid hbr0
    clear hbr0
    cases gk with
    | zero =>
      obtain rfl : k = n.items.length := by omega
      obtain rfl : R = true := by
        rcases HEI.out with ⟨_, e⟩ | ⟨h1, _, _, _⟩
        · rw [← HR.out]
          exact likeN_yes (Nd.ext4 HK.out HWD.out HNN.out e)
        · omega
      go_wp2_with fail
      go_ret
      exact ⟨rfl, bthen HB.out hbr⟩
    | succ gg =>
      have hkl : k < n.items.length := by omega
      have hkm : k < m.items.length := by have := HIL.out; omega
      obtain ⟨b1, o1, rfl, hit⟩ : ∃ b off, ia = some ⟨b, off, none⟩ ∧ ∃ r : NdAt, r.n = n.items[k] ∧ r.lies w0 b (off + k * 4) ∧ r.ok w0 ∧ ∀ (p : NdAt) (w : World), p.ok w → Below w0.heap.size w0 w → Calls Tryd.prog 15 #[.agg (nCells r), .agg (nCells p)] w (BoolW (likeN r.n p.n) w) := by
        rcases HPL.out with h | ⟨b, off, h1, _, h3⟩
        · rw [h] at hkl; simp at hkl
        · exact ⟨b, off, h1, h3 k hkl⟩
      obtain ⟨b2, o2, rfl, hjt⟩ : ∃ b off, ja = some ⟨b, off, none⟩ ∧ ∃ r : NdAt, r.n = m.items[k] ∧ r.lies wx b (off + k * 4) ∧ r.ok wx := by
        rcases HPP.out with h | ⟨b, off, h1, _, h3⟩
        · rw [h] at hkm; simp at hkm
        · exact ⟨b, off, h1, h3 k hkm⟩
      obtain ⟨r, hrn, hrl, _, hrM⟩ := hit
      obtain ⟨s, hsn, hsl, hso⟩ := hjt
      obtain ⟨x0, x1, x2, x3⟩ := hrl.call (bthen HW.out hbr)
      obtain ⟨y0, y1, y2, y3⟩ := hsl.call hbr
      have hsr := hso.call hbr
      obtain ⟨X, hX⟩ : ∃ X, likeN r.n s.n = X := ⟨_, rfl⟩
      have HX := Lib.hid (fun x => calls_later (show Calls Tryd.prog 15 #[.agg (nCells r), .agg (nCells s)] (later wr x) (fun e w' => e = .returned (.bool X) ∧ Below (later wr x).heap.size (later wr x) w') from by
        rw [← hX]
        exact hrM s (later wr x) (hsr.call (later_below _ _)) (bthen (bthen HW.out hbr) (later_below _ _))))
      rw [hrn, hsn] at hX
      obtain ⟨_, _, _, e3⟩ := (hB.call hbr).cells4
      obtain ⟨_, _, _, z3⟩ := (hP.call hbr).cells4
      have HBR := Lib.hid hbr
      have e3l := fun x => later_cell e3 x
      have z3l := fun x => later_cell z3 x
      have x0l := fun x => later_cell x0 x
      have x1l := fun x => later_cell x1 x
      have x2l := fun x => later_cell x2 x
      have x3l := fun x => later_cell x3 x
      have y0l := fun x => later_cell y0 x
      have y1l := fun x => later_cell y1 x
      have y2l := fun x => later_cell y2 x
      have y3l := fun x => later_cell y3 x
      have hrr : k = I → X = false ∧ R = false := fun e => by
        rcases HEI.out with ⟨h1, _⟩ | ⟨_, _, h3, h4⟩
        · omega
        · subst e
          exact ⟨by rw [← hX]; exact likeN_no h3, by rw [← HR.out]; exact likeN_no (fun e => h4 (by rw [e]))⟩
      have hgg : k ≠ I → X = true := fun e => by rw [← hX]; exact likeN_yes (HGI.out k hkl hkm (by omega))
      clear hX hrn hsn hrl hsl hso hsr hrM x0 x1 x2 x3 y0 y1 y2 y3 e3 z3 hbr
      obtain ⟨r, ra, rc, qa, qc⟩ := r
      obtain ⟨s, sa, sc, pa, pc⟩ := s
      simp only [nCells] at *
      by_cases hkI2 : k = I
      · obtain ⟨rfl, rfl⟩ := hrr hkI2
        clear hrr hgg hkI2 hkI
        go_upto_region 12 with fail
        refine wp_region_later (by kernel_rfl) (by kernel_rfl) ?_
        repeat (go_big_quiet_step ((go_at_call 15; with_reducible exact HX.out _)))
        refine wpQuiet_nil ?_
        rintro _ ⟨x, rfl⟩
        have hb2 := bthen HBR.out (later_below wr x)
        generalize later wr x = w2 at *
        go_wp2_with fail
        go_ret
        exact ⟨rfl, bthen HB.out hb2⟩
      · obtain rfl := hgg hkI2
        clear hrr hgg
        go_upto_region 12 with fail
        refine wp_region_later (by kernel_rfl) (by kernel_rfl) ?_
        repeat (go_big_quiet_step ((go_at_call 15; with_reducible exact HX.out _)))
        refine wpQuiet_nil ?_
        rintro _ ⟨x, rfl⟩
        have hb2 := bthen HB0.out (later_below wr x)
        generalize later wr x = w2 at *
        go_wp2_with fail
        go_roundg gg
        case measure => omega
        case rel => exact ⟨k + 1, by omega, by omega, by go_num, hb2⟩
end Go.Proofs.YtolbhhokpelchaaDoor
