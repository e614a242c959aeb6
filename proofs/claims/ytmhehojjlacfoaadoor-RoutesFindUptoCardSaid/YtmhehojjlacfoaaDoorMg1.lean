/- routes.Like: rows compared place by place; the contract of slices.EqualFunc around matcher.Like. -/
import Derived.Test.YtmhehojjlacfoaaDoorMatK
import Derived.Test.YtmhehojjlacfoaaDoorRteA
import Derived.Test.YtmhehojjlacfoaaDoorSameP
namespace Go.Proofs.YtmhehojjlacfoaaDoor
open Go.RowKit

noncomputable def eqB (p : Prop) : Bool := @decide p (Classical.propDecidable p)
theorem eqB_yes {p : Prop} (h : p) : eqB p = true := by unfold eqB; simp [h]
theorem eqB_no {p : Prop} (h : ¬ p) : eqB p = false := by unfold eqB; simp [h]
theorem rowsP {α : Type} : ∀ (xs ys : List α), xs.length = ys.length → ∃ J, J ≤ xs.length ∧ (∀ k (h : k < xs.length) (h' : k < ys.length), k < J → xs[k] = ys[k]) ∧ (J = xs.length ∧ xs = ys ∨ ∃ (h : J < xs.length) (h' : J < ys.length), xs[J] ≠ ys[J] ∧ xs ≠ ys)
  | [], [], _ => ⟨0, Nat.le_refl _, fun k h => by simp at h, .inl ⟨rfl, rfl⟩⟩
  | [], _ :: _, h => by simp at h
  | _ :: _, [], h => by simp at h
  | x :: xs, y :: ys, h => by
    by_cases e : x = y
    · obtain ⟨J, h1, h2, h3⟩ := rowsP xs ys (by simpa using h)
      refine ⟨J + 1, by simpa using h1, fun k hk hk' hJ => ?_, ?_⟩
      · cases k with
        | zero => exact e
        | succ k => exact h2 k (by simpa using hk) (by simpa using hk') (by omega)
      · rcases h3 with ⟨e1, e2⟩ | ⟨g1, g2, g3, g4⟩
        · exact .inl ⟨by simp [e1], by rw [e, e2]⟩
        · exact .inr ⟨by simpa using g1, by simpa using g2, g3, fun e' => g4 (by simpa [e] using e')⟩
    · exact ⟨0, Nat.zero_le _, fun k _ _ hk => by omega, .inr ⟨by simp, by simp, e, fun e' => e (by simpa using (List.cons.inj e').1)⟩⟩
theorem nbR (w : World) (o : Obj) (cs : Array Value) (t : TypeId) : Blk ((w.alloc o).alloc (.cells cs t)) (w.heap.size + 1) t cs := by
  have h := Blk.new (w.alloc o) t cs
  rwa [World.size_alloc] at h
theorem natNeR {a b : Nat} (h : a ≠ b) : ((a : Int) != (b : Int)) = true := by rw [bne_iff_ne]; omega
theorem natEqR {a b : Nat} (h : a = b) : ((a : Int) != (b : Int)) = false := by subst h; simp
theorem balR {w W : World} {o : Obj} (h : Below w.heap.size w W) : Below w.heap.size w (W.alloc o) := h.alloc h.size _
theorem likeM_eq (m m' : Mat) : likeM m m' = eqB (m = m') := by
  by_cases h : m = m'
  · subst h
    rw [eqB_yes rfl]
    simp [likeM]
  · rw [eqB_no h]
    cases e : likeM m m' with
    | false => rfl
    | true =>
      obtain ⟨a, b, c⟩ := m
      obtain ⟨a', b', c'⟩ := m'
      simp only [likeM, Bool.and_eq_true, decide_eq_true_eq] at e
      obtain ⟨⟨rfl, rfl⟩, rfl⟩ := e
      exact absurd rfl h
set_option maxHeartbeats 6400000 in
set_option maxRecDepth 100000 in
theorem eqMats_any (ma mb : Option Addr) (ca cb : Nat) (ms ns : List Mat) (w : World) (h : HasMats w ma ca ms) (h' : HasMats w mb cb ns) :
    Calls Tryd.prog 45 #[.slice ma ms.length ca, .slice mb ns.length cb, .func (.func 46) #[] #[]] w (BoolB (eqB (ms = ns)) w) := by
  obtain ⟨R, hR⟩ : ∃ R, eqB (ms = ns) = R := ⟨_, rfl⟩
  rw [hR]
  have HR := Lib.hid hR
  obtain ⟨hic1, hic2, hpl⟩ := h
  obtain ⟨hjc1, hjc2, hpp⟩ := h'
  have HPL := Lib.hid hpl
  have HPP := Lib.hid hpp
  unfold maxLen at hic2 hjc2
  clear hpl hpp hR
  go_enter Tryd.func45, Tryd.ntmps45
  by_cases hl : ms.length = ns.length
  case neg =>
    obtain rfl : R = false := by rw [← HR.out]; exact eqB_no (fun e => hl (by rw [e]))
    have f4 := natNeR hl
    clear hl
    go_wp2_with fail
    go_ret
    exact ⟨rfl, Below.refl _ _⟩
  have f4 := natEqR hl
  obtain ⟨I, hI, hgood, hend⟩ := rowsP ms ns hl
  have HGI := Lib.hid hgood
  have HEI := Lib.hid hend
  have HIL := Lib.hid hl
  clear hgood hend hl
  go_wp2_with fail
  go_loopg [17, 7, 8, 9] ms.length (fun gg iv _ _ _ wr => ∃ k : Nat, k + gg = ms.length ∧ k ≤ I ∧ iv = .int .i64 k ∧ Below w.heap.size w wr)
  case atStart => exact ⟨0, by omega, Nat.zero_le _, rfl, Below.refl _ _⟩
  case round =>
    clear f4
    obtain ⟨k, hkg, hkI, rfl, hbr⟩ := hrel
    cases gk with
    | zero =>
      obtain rfl : k = ms.length := by omega
      obtain rfl : R = true := by
        rcases HEI.out with ⟨_, e⟩ | ⟨h1, _, _, _⟩
        · rw [← HR.out]
          exact eqB_yes e
        · omega
      go_wp2_with fail
      go_ret
      exact ⟨rfl, hbr⟩
    | succ gg =>
      have hkl : k < ms.length := by omega
      have hkm : k < ns.length := by have := HIL.out; omega
      obtain ⟨b1, o1, rfl, x1, y1, ⟨g0, g1, g2⟩, gs, gn, gw⟩ : ∃ b off, ma = some ⟨b, off, none⟩ ∧ ∃ x y,
          (w.cell? ⟨b, off + k * 3, none⟩ = some (.string ms[k].name) ∧ w.cell? ⟨b, off + k * 3 + 1, none⟩ = some (.int .i64 ms[k].how) ∧ w.cell? ⟨b, off + k * 3 + 2, none⟩ = some (.slice x ms[k].words.length y)) ∧ HasStrs w x y ms[k].words ∧ ms[k].name.size ≤ maxLen ∧ (Lit.int .i64 ms[k].how).wf = true := by
        rcases HPL.out with h | ⟨b, off, h1, _, h3⟩
        · rw [h] at hkl; simp at hkl
        · exact ⟨b, off, h1, h3 k hkl⟩
      obtain ⟨b2, o2, rfl, x2, y2, ⟨k0, k1, k2⟩, ks, kn, kw⟩ : ∃ b off, mb = some ⟨b, off, none⟩ ∧ ∃ x y,
          (w.cell? ⟨b, off + k * 3, none⟩ = some (.string ns[k].name) ∧ w.cell? ⟨b, off + k * 3 + 1, none⟩ = some (.int .i64 ns[k].how) ∧ w.cell? ⟨b, off + k * 3 + 2, none⟩ = some (.slice x ns[k].words.length y)) ∧ HasStrs w x y ns[k].words ∧ ns[k].name.size ≤ maxLen ∧ (Lit.int .i64 ns[k].how).wf = true := by
        rcases HPP.out with h | ⟨b, off, h1, _, h3⟩
        · rw [h] at hkm; simp at hkm
        · exact ⟨b, off, h1, h3 k hkm⟩
      have e0 := cellL hbr g0
      have e1 := cellL hbr g1
      have e2 := cellL hbr g2
      generalize hmk : ms[k] = m at *
      generalize hnk : ns[k] = n at *
      have hb1 := balR (o := .cells #[.string m.name, .int .i64 m.how, .slice x1 m.words.length y1] 54) (Below.refl wr.heap.size wr)
      have f0 := cellL (bthen hbr hb1) k0
      have f1 := cellL (bthen hbr hb1) k1
      have f2 := cellL (bthen hbr hb1) k2
      have hb2 := balR (o := .cells #[.string n.name, .int .i64 n.how, .slice x2 n.words.length y2] 54) hb1
      have hA := (Blk.new wr 54 #[.string m.name, .int .i64 m.how, .slice x1 m.words.length y1]).alloc (.cells #[.string n.name, .int .i64 n.how, .slice x2 n.words.length y2] 54)
      have hB := nbR wr (.cells #[.string m.name, .int .i64 m.how, .slice x1 m.words.length y1] 54) #[.string n.name, .int .i64 n.how, .slice x2 n.words.length y2] 54
      have hM := like_any (.agg #[.string m.name, .int .i64 m.how, .slice x1 m.words.length y1]) (.agg #[.string n.name, .int .i64 n.how, .slice x2 n.words.length y2]) m n ((wr.alloc (.cells #[.string m.name, .int .i64 m.how, .slice x1 m.words.length y1] 54)).alloc (.cells #[.string n.name, .int .i64 n.how, .slice x2 n.words.length y2] 54))
        ⟨x1, y1, rfl, gs.call (bthen hbr hb2), gn, gw⟩ ⟨x2, y2, rfl, ks.call (bthen hbr hb2), kn, kw⟩
      rw [likeM_eq] at hM
      obtain ⟨X, hX⟩ : ∃ X, eqB (m = n) = X := ⟨_, rfl⟩
      rw [hX] at hM
      have HM := Lib.hid hM
      have HB2 := Lib.hid (bthen hbr hb2)
      have hrr : k = I → X = false ∧ R = false := fun e => by
        rcases HEI.out with ⟨h1, _⟩ | ⟨_, _, h3, h4⟩
        · omega
        · subst e
          rw [hmk, hnk] at h3
          exact ⟨by rw [← hX]; exact eqB_no h3, by rw [← HR.out]; exact eqB_no h4⟩
      have hgg : k ≠ I → X = true := fun e => by
        have := HGI.out k hkl hkm (by omega)
        rw [hmk, hnk] at this
        rw [← hX]; exact eqB_yes this
      obtain ⟨c0, c1, c2⟩ := hA.cells3
      obtain ⟨d0, d1, d2⟩ := hB.cells3
      clear hX hmk hnk hM hb1 hb2 hA hB hbr g0 g1 g2 k0 k1 k2 gs gn ks kn
      by_cases hkI2 : k = I
      · obtain ⟨rfl, rfl⟩ := hrr hkI2
        clear hrr hgg hkI2 hkI
        go_wp2_with (go_at_call 46; refine HM.out.mono ?_; rintro e w3 ⟨rfl, hb3⟩)
        go_ret
        exact ⟨rfl, bthen HB2.out hb3⟩
      · obtain rfl := hgg hkI2
        clear hrr hgg
        go_wp2_with (go_at_call 46; refine HM.out.mono ?_; rintro e w3 ⟨rfl, hb3⟩)
        go_roundg gg
        case measure => omega
        case rel => exact ⟨k + 1, by omega, by omega, by go_num, bthen HB2.out hb3⟩
end Go.Proofs.YtmhehojjlacfoaaDoor
/- The contract of the library's Equal of rows of texts. -/
namespace Go.Proofs.YtmhehojjlacfoaaDoor
open Go.RowKit
open Go.WideShapes (bytes_inj)

set_option maxHeartbeats 800000 in
set_option maxRecDepth 100000 in
theorem equalD_some (b off c b' off' c' : Nat) (ss ts : List ByteArray) (w : World) (hlc : ss.length ≤ c) (hcm : c ≤ maxLen) (hlc' : ts.length ≤ c') (_hcm' : c' ≤ maxLen) (hb : b < w.heap.size) (hb' : b' < w.heap.size)
    (hcell : ∀ i (h : i < ss.length), w.cell? ⟨b, off + i, none⟩ = some (.string ss[i])) (hcell' : ∀ i (h : i < ts.length), w.cell? ⟨b', off' + i, none⟩ = some (.string ts[i])) (hl : ss.length = ts.length) :
    Calls Tryd.prog 47 #[.slice (some ⟨b, off, none⟩) ss.length c, .slice (some ⟨b', off', none⟩) ts.length c'] w (SamePost (decide (ss = ts)) w) := by
  unfold maxLen at hcm
  have HC := Lib.hid hcell
  have HC' := Lib.hid hcell'
  have hlen : ((ss.length : Int) != (ts.length : Int)) = false := by rw [hl]; simp
  have hlb : ts.length ≤ ss.length := by omega
  have hlb' : ss.length ≤ ts.length := by omega
  have HL := Lib.hid hl
  clear hcell hcell' hl
  go_enter Tryd.func47, Tryd.ntmps47
  go_wp2
  go_loopw [13] (fun i wr => ∃ k : Nat, k ≤ ss.length ∧ i = .int .i64 k ∧ ss.take k = ts.take k ∧ Below w.heap.size w wr) (fun i _ => ss.length - (intOf i).toNat)
  case atStart => exact ⟨0, Nat.zero_le _, rfl, rfl, Below.refl _ _⟩
  case round =>
    obtain ⟨k, hk, rfl, he, hbl⟩ := hrel
    have HE := Lib.hid he
    clear he
    by_cases hkl : k < ss.length
    · have hc := (hbl.cell (p := ⟨b, off + k, none⟩) hb).trans (HC.out k hkl)
      have hc' := (hbl.cell (p := ⟨b', off' + k, none⟩) hb').trans (HC'.out k (by omega))
      by_cases hq : ss[k] = ts[k]'(by omega)
      · have hq2 : (ss[k].toList == (ts[k]'(by omega)).toList) = true := by rw [hq]; simp
        have htk : ss.take (k + 1) = ts.take (k + 1) := by
          rw [List.take_succ_eq_append_getElem hkl, List.take_succ_eq_append_getElem (by omega), HE.out, hq]
        have HT := Lib.hid htk
        clear htk hq
        go_wp2_with fail
        go_quiet (fail)
        go_wp2
        go_roundw
        case rel => exact ⟨k + 1, by omega, by go_num, HT.out, below_drewN hbl _⟩
        case measure => simp [intOf]; omega
      · have hq2 : (ss[k].toList == (ts[k]'(by omega)).toList) = false := by
          rw [beq_eq_false_iff_ne, ne_eq, ByteArray.toList_eq, ByteArray.toList_eq]
          intro e
          exact hq (bytes_inj e)
        have hf : decide (ss = ts) = false := by
          rw [decide_eq_false_iff_not]
          intro e
          subst e
          exact hq rfl
        have HF := Lib.hid hf
        clear hq hf
        go_wp2_with fail
        go_quiet (fail)
        go_wp2
        go_ret
        rw [HF.out]
        exact ⟨rfl, below_drewN hbl _⟩
    · have ht : decide (ss = ts) = true := by
        have := HE.out
        rw [List.take_of_length_le (by omega), List.take_of_length_le (by omega)] at this
        rw [decide_eq_true_iff]; exact this
      go_wp2
      go_ret
      rw [ht]
      exact ⟨rfl, hbl⟩

theorem equalD_any (a a' : Option Addr) (c c' : Nat) (ss ts : List ByteArray) (w : World) (h : HasStrs w a c ss) (h' : HasStrs w a' c' ts) :
    Calls Tryd.prog 47 #[.slice a ss.length c, .slice a' ts.length c'] w (SamePost (decide (ss = ts)) w) := by
  obtain ⟨h1, h2, h3, h4⟩ := h
  obtain ⟨g1, g2, g3, g4⟩ := h'
  unfold maxLen at h2 g2
  by_cases hl : ss.length = ts.length
  · rcases h4 with rfl | ⟨b, off, rfl, hb, hc⟩
    · obtain rfl : ts = [] := List.eq_nil_of_length_eq_zero hl.symm
      go_enter Tryd.func47, Tryd.ntmps47
      go_wp2
      refine wp_loop_rounds 1 ?_
      rw [rounds_succ]
      go_wp2
      go_ret
      exact ⟨rfl, Below.refl _ _⟩
    · rcases g4 with rfl | ⟨b', off', rfl, hb', hc'⟩
      · obtain rfl : ss = [] := List.eq_nil_of_length_eq_zero hl
        go_enter Tryd.func47, Tryd.ntmps47
        go_wp2
        refine wp_loop_rounds 1 ?_
        rw [rounds_succ]
        go_wp2
        go_ret
        exact ⟨rfl, Below.refl _ _⟩
      · exact equalD_some b off c b' off' c' ss ts w h1 (by unfold maxLen; omega) g1 (by unfold maxLen; omega) hb hb' hc hc' hl
  · have hlen : ((ss.length : Int) != (ts.length : Int)) = true := by rw [bne_iff_ne]; omega
    have hf : decide (ss = ts) = false := by
      rw [decide_eq_false_iff_not]
      intro e
      exact hl (by rw [e])
    rw [hf]
    clear hl hf h3 h4 g3 g4
    go_enter Tryd.func47, Tryd.ntmps47
    go_wp2
    go_ret
    exact ⟨rfl, Below.refl _ _⟩
end Go.Proofs.YtmhehojjlacfoaaDoor
/- The contract of routes.likeAlone. -/
namespace Go.Proofs.YtmhehojjlacfoaaDoor
open Go.RowKit

/-- two routes are the same, by all but the routes within them -/
def aloneB (a b : Rt) : Prop := a.recv = b.recv ∧ a.ms = b.ms ∧ a.bys = b.bys ∧ a.wait = b.wait ∧ a.every = b.every ∧ a.rep = b.rep ∧ a.mute = b.mute ∧ a.on = b.on
theorem alone_ext (a b : Rt) : a = b ↔ aloneB a b ∧ a.kids = b.kids := by
  obtain ⟨⟩ := a
  obtain ⟨⟩ := b
  simp only [aloneB, Rt.recv, Rt.ms, Rt.bys, Rt.wait, Rt.every, Rt.rep, Rt.mute, Rt.on, Rt.kids, Rt.mk.injEq, and_assoc]
theorem eqB_iff {p : Prop} : eqB p = true ↔ p := by
  constructor
  · intro h
    refine Classical.byContradiction fun e => ?_
    rw [eqB_no e] at h
    cases h
  · exact eqB_yes
theorem eqB_and (p q : Prop) : eqB (p ∧ q) = (eqB p && eqB q) := by
  rw [Bool.eq_iff_iff, eqB_iff, Bool.and_eq_true, eqB_iff, eqB_iff]
theorem eqB_dec (p : Prop) [Decidable p] : eqB p = decide p := by
  rw [Bool.eq_iff_iff, eqB_iff, decide_eq_true_iff]
set_option maxHeartbeats 12800000 in
set_option maxRecDepth 100000 in
theorem likeAlone_any (q p : RtAt) (w : World) (hq : q.own w) (hp : p.own w) : Calls Tryd.prog 24 #[.agg (tCells q), .agg (tCells p)] w (BoolB (eqB (aloneB q.n p.n)) w) := by
  have hb := balR (o := .cells (tCells q) 26) (Below.refl w.heap.size w)
  have hb2 := balR (o := .cells (tCells p) 26) hb
  have hB := (Blk.new w 26 (tCells q)).alloc (.cells (tCells p) 26)
  have hP := nbR w (.cells (tCells q) 26) (tCells p) 26
  have hem := fun W (hW : Below w.heap.size w W) => eqMats_any q.ma p.ma q.mc p.mc q.n.ms p.n.ms W (hq.1.call hW) (hp.1.call hW)
  have heb := fun W (hW : Below w.heap.size w W) => equalD_any q.ba p.ba q.bc p.bc q.n.bys p.n.bys W (hq.2.1.call hW) (hp.2.1.call hW)
  have heu := fun W (hW : Below w.heap.size w W) => equalD_any q.ua p.ua q.uc p.uc q.n.mute p.n.mute W (hq.2.2.1.call hW) (hp.2.2.1.call hW)
  have hR : eqB (aloneB q.n p.n) = (decide (q.n.recv = p.n.recv) && (eqB (q.n.ms = p.n.ms) && (decide (q.n.bys = p.n.bys) && (decide (q.n.wait = p.n.wait) && (decide (q.n.every = p.n.every) && (decide (q.n.rep = p.n.rep) && (decide (q.n.mute = p.n.mute) && decide (q.n.on = p.n.on)))))))) := by
    unfold aloneB
    rw [eqB_and, eqB_and, eqB_and, eqB_and, eqB_and, eqB_and, eqB_and]
    rw [eqB_dec (q.n.recv = p.n.recv), eqB_dec (q.n.bys = p.n.bys), eqB_dec (q.n.wait = p.n.wait), eqB_dec (q.n.every = p.n.every), eqB_dec (q.n.rep = p.n.rep), eqB_dec (q.n.mute = p.n.mute), eqB_dec (q.n.on = p.n.on)]
  rw [hR]
  have f1 := strEq q.n.recv p.n.recv
  have f4 : (q.n.wait == p.n.wait) = decide (q.n.wait = p.n.wait) := by rw [Bool.eq_iff_iff]; simp
  have f5 : (q.n.every == p.n.every) = decide (q.n.every = p.n.every) := by rw [Bool.eq_iff_iff]; simp
  have f6 : (q.n.rep == p.n.rep) = decide (q.n.rep = p.n.rep) := by rw [Bool.eq_iff_iff]; simp
  have f8 : (q.n.on == p.n.on) = decide (q.n.on = p.n.on) := by rw [Bool.eq_iff_iff]; simp
  generalize decide (q.n.recv = p.n.recv) = B1 at *
  generalize eqB (q.n.ms = p.n.ms) = B2 at *
  generalize decide (q.n.bys = p.n.bys) = B3 at *
  generalize decide (q.n.wait = p.n.wait) = B4 at *
  generalize decide (q.n.every = p.n.every) = B5 at *
  generalize decide (q.n.rep = p.n.rep) = B6 at *
  generalize decide (q.n.mute = p.n.mute) = B7 at *
  generalize decide (q.n.on = p.n.on) = B8 at *
  have HEM := Lib.hid hem
  have HEB := Lib.hid heb
  have HEU := Lib.hid heu
  have HB := Lib.hid hb2
  clear hq hp hb hb2 hem heb heu hR
  obtain ⟨n, m1a, m1c, b1a, b1c, u1a, u1c, k1a, k1c⟩ := q
  obtain ⟨m, m2a, m2c, b2a, b2c, u2a, u2c, k2a, k2c⟩ := p
  simp only [tCells] at *
  go_enter Tryd.func24, Tryd.ntmps24
  go_upto_region 1 with fail
  obtain ⟨g, hg⟩ : ∃ g, w.heap.size = g := ⟨_, rfl⟩
  generalize (w.alloc (.cells #[.string n.recv, .slice m1a n.ms.length m1c, .slice b1a n.bys.length b1c, .int .i64 n.wait, .int .i64 n.every, .int .i64 n.rep, .slice u1a n.mute.length u1c, .bool n.on, .slice k1a n.kids.length k1c] 26)).alloc (.cells #[.string m.recv, .slice m2a m.ms.length m2c, .slice b2a m.bys.length b2c, .int .i64 m.wait, .int .i64 m.every, .int .i64 m.rep, .slice u2a m.mute.length u2c, .bool m.on, .slice k2a m.kids.length k2c] 26) = wx at *
  rw [hg] at hB hP ⊢
  clear hg
  have HBQ := Lib.hid (fun W (hW : Below wx.heap.size wx W) => (hB.call hW).cells9)
  have HBP := Lib.hid (fun W (hW : Below wx.heap.size wx W) => (hP.call hW).cells9)
  obtain ⟨c0, c1, c2, c3, c4, c5, c6, c7, c8⟩ := hB.cells9
  obtain ⟨d0, d1, d2, d3, d4, d5, d6, d7, d8⟩ := hP.cells9
  clear hB hP
  cases B1
  case false =>
    go_wp2_with fail
    go_ret
    exact ⟨rfl, HB.out⟩
  cases B2
  case false =>
    go_wp2_with (go_at_call 45; refine (HEM.out _ HB.out).mono ?_; rintro e w2 ⟨rfl, hb2⟩; obtain ⟨x0, x1, x2, x3, x4, x5, x6, x7, x8⟩ := HBQ.out _ hb2; obtain ⟨y0, y1, y2, y3, y4, y5, y6, y7, y8⟩ := HBP.out _ hb2)
    go_ret
    exact ⟨rfl, bthen HB.out hb2⟩
  cases B3
  case false =>
    go_wp2_with (first
      | (go_at_call 45; refine (HEM.out _ HB.out).mono ?_; rintro e w2 ⟨rfl, hb2⟩; obtain ⟨x0, x1, x2, x3, x4, x5, x6, x7, x8⟩ := HBQ.out _ hb2; obtain ⟨y0, y1, y2, y3, y4, y5, y6, y7, y8⟩ := HBP.out _ hb2)
      | (go_at_call 47; (with_reducible refine (HEB.out w2 (bthen HB.out hb2)).mono ?_); rintro e w3 ⟨rfl, hb3⟩; obtain ⟨x0, x1, x2, x3, x4, x5, x6, x7, x8⟩ := HBQ.out _ (bthen hb2 hb3); obtain ⟨y0, y1, y2, y3, y4, y5, y6, y7, y8⟩ := HBP.out _ (bthen hb2 hb3)))
    go_ret
    exact ⟨rfl, bthen HB.out (bthen hb2 hb3)⟩
  cases B4
  case false =>
    go_wp2_with (first
      | (go_at_call 45; refine (HEM.out _ HB.out).mono ?_; rintro e w2 ⟨rfl, hb2⟩; obtain ⟨x0, x1, x2, x3, x4, x5, x6, x7, x8⟩ := HBQ.out _ hb2; obtain ⟨y0, y1, y2, y3, y4, y5, y6, y7, y8⟩ := HBP.out _ hb2)
      | (go_at_call 47; (with_reducible refine (HEB.out w2 (bthen HB.out hb2)).mono ?_); rintro e w3 ⟨rfl, hb3⟩; obtain ⟨x0, x1, x2, x3, x4, x5, x6, x7, x8⟩ := HBQ.out _ (bthen hb2 hb3); obtain ⟨y0, y1, y2, y3, y4, y5, y6, y7, y8⟩ := HBP.out _ (bthen hb2 hb3)))
    go_ret
    exact ⟨rfl, bthen HB.out (bthen hb2 hb3)⟩
  cases B5
  case false =>
    go_wp2_with (first
      | (go_at_call 45; refine (HEM.out _ HB.out).mono ?_; rintro e w2 ⟨rfl, hb2⟩; obtain ⟨x0, x1, x2, x3, x4, x5, x6, x7, x8⟩ := HBQ.out _ hb2; obtain ⟨y0, y1, y2, y3, y4, y5, y6, y7, y8⟩ := HBP.out _ hb2)
      | (go_at_call 47; (with_reducible refine (HEB.out w2 (bthen HB.out hb2)).mono ?_); rintro e w3 ⟨rfl, hb3⟩; obtain ⟨x0, x1, x2, x3, x4, x5, x6, x7, x8⟩ := HBQ.out _ (bthen hb2 hb3); obtain ⟨y0, y1, y2, y3, y4, y5, y6, y7, y8⟩ := HBP.out _ (bthen hb2 hb3)))
    go_ret
    exact ⟨rfl, bthen HB.out (bthen hb2 hb3)⟩
  cases B6
  case false =>
    go_wp2_with (first
      | (go_at_call 45; refine (HEM.out _ HB.out).mono ?_; rintro e w2 ⟨rfl, hb2⟩; obtain ⟨x0, x1, x2, x3, x4, x5, x6, x7, x8⟩ := HBQ.out _ hb2; obtain ⟨y0, y1, y2, y3, y4, y5, y6, y7, y8⟩ := HBP.out _ hb2)
      | (go_at_call 47; (with_reducible refine (HEB.out w2 (bthen HB.out hb2)).mono ?_); rintro e w3 ⟨rfl, hb3⟩; obtain ⟨x0, x1, x2, x3, x4, x5, x6, x7, x8⟩ := HBQ.out _ (bthen hb2 hb3); obtain ⟨y0, y1, y2, y3, y4, y5, y6, y7, y8⟩ := HBP.out _ (bthen hb2 hb3)))
    go_ret
    exact ⟨rfl, bthen HB.out (bthen hb2 hb3)⟩
  cases B7
  case false =>
    go_wp2_with (first
      | (go_at_call 45; refine (HEM.out _ HB.out).mono ?_; rintro e w2 ⟨rfl, hb2⟩; obtain ⟨x0, x1, x2, x3, x4, x5, x6, x7, x8⟩ := HBQ.out _ hb2; obtain ⟨y0, y1, y2, y3, y4, y5, y6, y7, y8⟩ := HBP.out _ hb2)
      | (go_at_call 47; (with_reducible refine (HEB.out w2 (bthen HB.out hb2)).mono ?_); rintro e w3 ⟨rfl, hb3⟩; obtain ⟨x0, x1, x2, x3, x4, x5, x6, x7, x8⟩ := HBQ.out _ (bthen hb2 hb3); obtain ⟨y0, y1, y2, y3, y4, y5, y6, y7, y8⟩ := HBP.out _ (bthen hb2 hb3))
      | (go_at_call 47; (with_reducible refine (HEU.out w3 (bthen HB.out (bthen hb2 hb3))).mono ?_); rintro e w4 ⟨rfl, hb4⟩; obtain ⟨x0, x1, x2, x3, x4, x5, x6, x7, x8⟩ := HBQ.out _ (bthen hb2 (bthen hb3 hb4)); obtain ⟨y0, y1, y2, y3, y4, y5, y6, y7, y8⟩ := HBP.out _ (bthen hb2 (bthen hb3 hb4))))
    go_ret
    exact ⟨rfl, bthen HB.out (bthen hb2 (bthen hb3 hb4))⟩
  cases B8
  all_goals
    go_wp2_with (first
      | (go_at_call 45; refine (HEM.out _ HB.out).mono ?_; rintro e w2 ⟨rfl, hb2⟩; obtain ⟨x0, x1, x2, x3, x4, x5, x6, x7, x8⟩ := HBQ.out _ hb2; obtain ⟨y0, y1, y2, y3, y4, y5, y6, y7, y8⟩ := HBP.out _ hb2)
      | (go_at_call 47; (with_reducible refine (HEB.out w2 (bthen HB.out hb2)).mono ?_); rintro e w3 ⟨rfl, hb3⟩; obtain ⟨x0, x1, x2, x3, x4, x5, x6, x7, x8⟩ := HBQ.out _ (bthen hb2 hb3); obtain ⟨y0, y1, y2, y3, y4, y5, y6, y7, y8⟩ := HBP.out _ (bthen hb2 hb3))
      | (go_at_call 47; (with_reducible refine (HEU.out w3 (bthen HB.out (bthen hb2 hb3))).mono ?_); rintro e w4 ⟨rfl, hb4⟩; obtain ⟨x0, x1, x2, x3, x4, x5, x6, x7, x8⟩ := HBQ.out _ (bthen hb2 (bthen hb3 hb4)); obtain ⟨y0, y1, y2, y3, y4, y5, y6, y7, y8⟩ := HBP.out _ (bthen hb2 (bthen hb3 hb4))))
    go_ret
    exact ⟨rfl, bthen HB.out (bthen hb2 (bthen hb3 hb4))⟩
end Go.Proofs.YtmhehojjlacfoaaDoor
