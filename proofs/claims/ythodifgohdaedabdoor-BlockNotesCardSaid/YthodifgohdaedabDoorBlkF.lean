/- The contract of 'few' of the statements of layer 6. -/
import Derived.Test.YthodifgohdaedabDoorBlkE
import Derived.RegionTactic
import Derived.BigRegion
import Derived.Deep.RegionLaw
import Derived.Deep.CutBlock
import Derived.Deep.RegionWith
import Derived.Outline
namespace Go.Proofs.YthodifgohdaedabDoor
open Go.RowKit

def cutD (d : Dfn) : Dfn := ⟨cutN 70 d.kind, (d.keys.take 66).map (cutN 70), (d.vals.take 66).map (cutN 205)⟩
def fewD (ds : List Dfn) : List Dfn := (ds.take 66).map cutD

/-- the texts' block is a row of texts -/
def InTx (w : World) (a : Option Addr) : Prop := ∀ b o s, a = some ⟨b, o, s⟩ → ∃ cs fr, w.heap[b]? = some (.cells cs 9 fr)
theorem InTx.call {w w1 : World} {a : Option Addr} (h : InTx w a) (hb : Below w.heap.size w w1) : InTx w1 a := fun b o s e => by
  obtain ⟨cs, fr, hc⟩ := h b o s e
  exact ⟨cs, fr, (hb.block b (lt_of_block hc)).trans hc⟩
/-- all blocks below B but g are as they were -/
def AllBut (B g : Nat) (w w' : World) : Prop := w.heap.size ≤ w'.heap.size ∧ ∀ k, k < B → k ≠ g → w'.heap[k]? = w.heap[k]?
theorem AllBut.refl (B g : Nat) (w : World) : AllBut B g w w := ⟨Nat.le_refl _, fun _ _ _ => rfl⟩
theorem AllBut.grown {B g base : Nat} {w w1 w2 : World} {v : Value} (h : AllBut B g w w1) (hB : B ≤ base) (hv : ∀ k, v.ownBlock = some k → base ≤ k) (hz : B ≤ w1.heap.size) (hg : w1.grownBy w2 v.ownBlock) : AllBut B g w w2 :=
  ⟨Nat.le_trans h.1 hg.size, fun k hk hne => (hg.block k (by omega) (fun e => by have := hv k e.symm; omega)).trans (h.2 k hk hne)⟩
theorem AllBut.set {B g : Nat} {w w1 : World} (h : AllBut B g w w1) (i : Nat) (u : Value) : AllBut B g w (w1.setCell ⟨g, i, none⟩ u) :=
  ⟨by simpa [World.setCell] using h.1, fun k hk hne => (Below.heap_setCell w1 ⟨g, i, none⟩ u k hne).trans (h.2 k hk hne)⟩
theorem AllBut.blk {B g b : Nat} {w w1 : World} {t : TypeId} {cs : Array Value} (h : AllBut B g w w1) (hb : Blk w b t cs) (hlt : b < B) (hne : b ≠ g) : Blk w1 b t cs := (h.2 b hlt hne).trans hb
theorem AllBut.strs {B g : Nat} {w w1 : World} {a : Option Addr} {c : Nat} {ss : List ByteArray} (h : AllBut B g w w1) (hs : HasStrs w a c ss) (hp : ∀ b o s, a = some ⟨b, o, s⟩ → b < B ∧ b ≠ g) : HasStrs w1 a c ss := by
  obtain ⟨h1, h2, h3, h4⟩ := hs
  refine ⟨h1, h2, h3, ?_⟩
  rcases h4 with h4 | ⟨b, off, rfl, hlt, hc⟩
  · exact .inl h4
  · obtain ⟨p1, p2⟩ := hp b off none rfl
    refine .inr ⟨b, off, rfl, Nat.lt_of_lt_of_le hlt h.1, fun i hi => ?_⟩
    have := hc i hi
    unfold World.cell? at this ⊢
    rw [h.2 b p1 p2]
    exact this
theorem AllBut.tx {B g : Nat} {w w1 : World} {a : Option Addr} (h : AllBut B g w w1) (hs : InTx w a) (hp : ∀ b o s, a = some ⟨b, o, s⟩ → b < B ∧ b ≠ g) : InTx w1 a := fun b o s e => by
  obtain ⟨cs, fr, hc⟩ := hs b o s e
  obtain ⟨p1, p2⟩ := hp b o s e
  exact ⟨cs, fr, (h.2 b p1 p2).trans hc⟩
theorem inTx_own {w : World} {base n c : Nat} {a : Option Addr} {ss : List ByteArray} (h : OwnS 9 w base (.slice a n c) ss) : InTx w a ∧ ∀ b o s, a = some ⟨b, o, s⟩ → base ≤ b ∧ b < w.heap.size := by
  have h' : w.ownsRow base 9 1 (.slice a n c) ss.length (strsV ss) := h
  constructor
  · intro b o s e
    subst e
    rcases h'.2 with ⟨e2, _⟩ | ⟨g, cap, cur, e2, hb2, hg2, _⟩
    · cases e2
    · simp only [Value.slice.injEq, Option.some.injEq, Addr.mk.injEq] at e2
      obtain ⟨⟨rfl, _, _⟩, _, _⟩ := e2
      exact ⟨cur, (0, 0), hg2⟩
  · intro b o s e
    subst e
    rcases h'.2 with ⟨e2, _⟩ | ⟨g, cap, cur, e2, hb2, hg2, _⟩
    · cases e2
    · simp only [Value.slice.injEq, Option.some.injEq, Addr.mk.injEq] at e2
      obtain ⟨⟨rfl, _, _⟩, _, _⟩ := e2
      exact ⟨hb2, lt_of_block hg2⟩
/-- an append to a row of blocks leaves a row of texts alone -/
theorem InTx.grown {w w1 : World} {base : Nat} {v : Value} {qs : List DefAt} {a : Option Addr} (h : InTx w a) (hown : OwnD 44 w base v qs) (hg : w.grownBy w1 v.ownBlock) : ∀ b o s, a = some ⟨b, o, s⟩ → w1.heap[b]? = w.heap[b]? := fun b o s e => by
  obtain ⟨cs, fr, hc⟩ := h b o s e
  refine hg.block b (lt_of_block hc) (fun e2 => ?_)
  have hown' : w.ownsRow base 44 3 v qs.length (defsV qs) := hown
  rcases hown'.2 with ⟨rfl, _⟩ | ⟨g, cap, cur, rfl, hb2, hg2, _⟩
  · simp [Value.ownBlock] at e2
  · simp [Value.ownBlock] at e2
    subst e2
    rw [hc] at hg2
    simp at hg2
theorem strs_kept {w w1 : World} {a : Option Addr} {c : Nat} {ss : List ByteArray} (hs : HasStrs w a c ss) (hz : w.heap.size ≤ w1.heap.size) (hp : ∀ b o s, a = some ⟨b, o, s⟩ → w1.heap[b]? = w.heap[b]?) : HasStrs w1 a c ss := by
  obtain ⟨h1, h2, h3, h4⟩ := hs
  refine ⟨h1, h2, h3, ?_⟩
  rcases h4 with h4 | ⟨b, off, rfl, hlt, hc⟩
  · exact .inl h4
  · refine .inr ⟨b, off, rfl, Nat.lt_of_lt_of_le hlt hz, fun i hi => ?_⟩
    have := hc i hi
    unfold World.cell? at this ⊢
    rw [hp b off none rfl]
    exact this
theorem tx_kept {w w1 : World} {a : Option Addr} (hs : InTx w a) (hp : ∀ b o s, a = some ⟨b, o, s⟩ → w1.heap[b]? = w.heap[b]?) : InTx w1 a := fun b o s e => by
  obtain ⟨cs, fr, hc⟩ := hs b o s e
  exact ⟨cs, fr, (hp b o s e).trans hc⟩
/-- a block of texts that lie in rows of texts -/
def DefAt.okT (w : World) (q : DefAt) : Prop := q.ok w ∧ InTx w q.ka ∧ InTx w q.va
theorem DefAt.okT.call {w w1 : World} {q : DefAt} (h : q.okT w) (hb : Below w.heap.size w w1) : q.okT w1 := ⟨h.1.call hb, h.2.1.call hb, h.2.2.call hb⟩
theorem DefAt.okT.grown {w w1 : World} {base : Nat} {v : Value} {qs : List DefAt} {q : DefAt} (h : q.okT w) (hown : OwnD 44 w base v qs) (hg : w.grownBy w1 v.ownBlock) : q.okT w1 := by
  obtain ⟨⟨h1, h2, h3⟩, t1, t2⟩ := h
  exact ⟨⟨strs_kept h1 hg.size (t1.grown hown hg), strs_kept h2 hg.size (t2.grown hown hg), h3⟩, tx_kept t1 (t1.grown hown hg), tx_kept t2 (t2.grown hown hg)⟩

def FewP (ds : List Dfn) (w : World) (e : Ending) (w' : World) : Prop := ∃ a c, e = .returned (.slice a ds.length c) ∧ HasDefs w' a c ds ∧ Below w.heap.size w w'

set_option maxHeartbeats 6400000 in
set_option maxRecDepth 100000 in
theorem few_some (b off c : Nat) (ds : List Dfn) (w : World) (h : HasDefs w (some ⟨b, off, none⟩) c ds) : Calls Tryd.prog 12 #[.slice (some ⟨b, off, none⟩) ds.length c] w (FewP (fewD ds) w) := by
  obtain ⟨i0, hi, hz0, hz1, hz2⟩ := info_partsD Tryd.infoD
  obtain ⟨i1, hj, hy0, hy1, hy2⟩ := info_parts Tryd.infoS
  have h1 := h.1
  have h2 := h.2.1
  unfold maxLen at h2
  have HD := Lib.hid h
  clear h
  have hmn := fun W (t : TypeId) (ts : Array TypeId) => run_minN (P := Tryd.prog) W ts t ds.length 66
  obtain ⟨L, hL⟩ : ∃ L, min ds.length 66 = L := ⟨_, rfl⟩
  rw [hL] at hmn
  have hL1 : L ≤ ds.length := by omega
  have hL2 : L ≤ 66 := by omega
  have HF : Hid (fewD ds = (ds.take L).map cutD) := Lib.hid (by
    unfold fewD
    congr 1
    rw [← hL]
    by_cases h : ds.length ≤ 66
    · rw [Nat.min_eq_left h, List.take_of_length_le (Nat.le_refl _), List.take_of_length_le h]
    · rw [Nat.min_eq_right (by omega)])
  clear hL
  have hmn66 : ∀ W (t : TypeId) (ts : Array TypeId), (Builtin.min_ ts t #[.int .i64 (ds.length : Int), .int .i64 66]).run Tryd.prog W = .ok (.int .i64 (L : Int)) W := hmn
  clear hmn
  go_enter Tryd.func12, Tryd.ntmps12
  go_wp2_with fail
  clear hmn66
  go_loopg [3, 17] L (fun gg v iv wr => ∃ (k : Nat) (qs : List DefAt) (u : Value), u = v ∧ k + gg = L ∧ iv = .int .i64 (k : Int) ∧ OwnD 44 wr w.heap.size u qs ∧ qs.map (·.d) = (ds.take k).map cutD ∧ (∀ q ∈ qs, q.okT wr) ∧ Below w.heap.size w wr)
  case atStart => exact ⟨0, [], _, rfl, by omega, rfl, OwnD.nil _ _ _, by simp, (fun q hq => by cases hq), Below.refl _ _⟩
  case round =>
    obtain ⟨k, qs, u, rfl, hkg, rfl, hown, hqs, hok, hb⟩ := hrel
    obtain ⟨W0, rfl⟩ : ∃ W0, W0 = wr := ⟨_, rfl⟩
    have hql : qs.length = k := by
      have h1 : (qs.map (·.d)).length = qs.length := by simp
      rw [hqs] at h1
      simp at h1
      omega
    have HOWN := Lib.hid hown
    have HQS := Lib.hid hqs
    have HOK := Lib.hid hok
    have HB := Lib.hid hb
    clear hown hqs hok hb
    cases gk with
    | zero =>
      obtain rfl : k = L := by omega
      clear hkg
      obtain ⟨a', c', e9, hds⟩ := HOWN.out.defs fun q hq => (HOK.out q hq).1
      rw [HQS.out, ← HF.out] at hds
      rw [e9]
      have hlen : qs.length = (fewD ds).length := by rw [HF.out, ← HQS.out]; simp
      rw [hlen]
      have HDS := Lib.hid hds
      clear e9 hds hlen hql
      go_wp2_with fail
      go_ret
      exact ⟨a', c', rfl, HDS.out, HB.out⟩
    | succ gg =>
      have hkl : k < L := by omega
      have hkd : k < ds.length := by omega
      obtain ⟨q, hq, ⟨c0, c1, c2⟩, hqo⟩ := (HD.out.call HB.out).at k hkd
      obtain ⟨d, ka, kc, va, vc⟩ := q
      simp only at hq hqo c0 c1 c2
      obtain ⟨hk, hv, hs⟩ := hqo
      unfold maxLen at hs
      have hkl1 : d.keys.length ≤ kc := hk.1
      have hkl2 := hk.2.1
      have hvl1 : d.vals.length ≤ vc := hv.1
      have hvl2 := hv.2.1
      unfold maxLen at hkl2 hvl2
      have HK := Lib.hid hk
      have HV := Lib.hid hv
      have HQ := Lib.hid hq
      clear hk hv hq
      go_upto_region 5 with fail
      have hm1 : ∀ W (t : TypeId) (ts : Array TypeId), (Builtin.min_ ts t #[.int .i64 (d.kind.size : Int), .int .i64 70]).run Tryd.prog W = .ok (.int .i64 ((min d.kind.size 70 : Nat) : Int)) W := fun W t ts => run_minN W ts t d.kind.size 70
      have hs1 := fun W => run_cutN (P := Tryd.prog) W 9 70 d.kind Tryd.underlying9
      have hYs := cutN_size 70 d.kind
      have HYD : Hid (cutN 70 d.kind = (cutD d).kind) := Lib.hid rfl
      have hB5 := Blk.new W0 44 #[.string d.kind, .slice ka d.keys.length kc, .slice va d.vals.length vc]
      have hb5 := (Below.refl W0.heap.size W0).alloc (Nat.le_refl _) (.cells #[.string d.kind, .slice ka d.keys.length kc, .slice va d.vals.length vc] 44)
      have hsz5 : (W0.alloc (.cells #[.string d.kind, .slice ka d.keys.length kc, .slice va d.vals.length vc] 44)).heap.size = W0.heap.size + 1 := by simp
      generalize W0.alloc (.cells #[.string d.kind, .slice ka d.keys.length kc, .slice va d.vals.length vc] 44) = w5 at *
      have HB5 := Lib.hid hB5
      have Hb5 := Lib.hid hb5
      have HSZ5 := Lib.hid hsz5
      obtain ⟨x0, x1, x2⟩ := hB5.cells3
      clear c0 c1 c2 hB5 hb5
      go_upto_region 6 with fail
      clear hm1 hs1 hsz5 x0 x1 x2
      generalize cutN 70 d.kind = Y at *
      generalize min d.kind.size 70 = m1 at *
      have hB6 := Blk.new w5 44 #[.string Y, .slice none 0 0, .slice none 0 0]
      rw [HSZ5.out] at hB6
      have hB5 := HB5.out.alloc (.cells #[.string Y, .slice none 0 0, .slice none 0 0] 44)
      have hb6 := Hb5.out.alloc Hb5.out.size (.cells #[.string Y, .slice none 0 0, .slice none 0 0] 44)
      have hz6 : W0.heap.size + 2 ≤ (w5.alloc (.cells #[.string Y, .slice none 0 0, .slice none 0 0] 44)).heap.size := by rw [World.size_alloc, HSZ5.out]; omega
      generalize w5.alloc (.cells #[.string Y, .slice none 0 0, .slice none 0 0] 44) = w6 at *
      have HB5' := Lib.hid hB5
      have HB6 := Lib.hid hB6
      have Hb6 := Lib.hid hb6
      have HZ6 := Lib.hid hz6
      clear hB5 hB6 hb6 hz6 HB5 Hb5 HSZ5
      clear w5
      -- the keys
      have hmk : ∀ W (t : TypeId) (ts : Array TypeId), (Builtin.min_ ts t #[.int .i64 (d.keys.length : Int), .int .i64 66]).run Tryd.prog W = .ok (.int .i64 ((min d.keys.length 66 : Nat) : Int)) W := fun W t ts => run_minN W ts t d.keys.length 66
      have hmv : ∀ W (t : TypeId) (ts : Array TypeId), (Builtin.min_ ts t #[.int .i64 (d.vals.length : Int), .int .i64 66]).run Tryd.prog W = .ok (.int .i64 ((min d.vals.length 66 : Nat) : Int)) W := fun W t ts => run_minN W ts t d.vals.length 66
      obtain ⟨NK, hNK⟩ : ∃ NK, min d.keys.length 66 = NK := ⟨_, rfl⟩
      obtain ⟨NV, hNV⟩ : ∃ NV, min d.vals.length 66 = NV := ⟨_, rfl⟩
      rw [hNK] at hmk
      rw [hNV] at hmv
      have nk1 : NK ≤ d.keys.length := by omega
      have nk2 : NK ≤ 66 := by omega
      have nv1 : NV ≤ d.vals.length := by omega
      have nv2 : NV ≤ 66 := by omega
      have HTK : Hid ((cutD d).keys = (d.keys.take NK).map (cutN 70)) := Lib.hid (by
        show (d.keys.take 66).map (cutN 70) = _
        congr 1
        rw [← hNK]
        by_cases h : d.keys.length ≤ 66
        · rw [Nat.min_eq_left h, List.take_of_length_le (Nat.le_refl _), List.take_of_length_le h]
        · rw [Nat.min_eq_right (by omega)])
      have HTV : Hid ((cutD d).vals = (d.vals.take NV).map (cutN 205)) := Lib.hid (by
        show (d.vals.take 66).map (cutN 205) = _
        congr 1
        rw [← hNV]
        by_cases h : d.vals.length ≤ 66
        · rw [Nat.min_eq_left h, List.take_of_length_le (Nat.le_refl _), List.take_of_length_le h]
        · rw [Nat.min_eq_right (by omega)])
      have nk3 : NK ≤ kc := by omega
      have nv3 : NV ≤ vc := by omega
      clear hNK hNV
      have HMK := Lib.hid hmk
      have HMV := Lib.hid hmv
      clear hmk hmv
      obtain ⟨x0, x1, x2⟩ := HB5'.out.cells3
      have hm := HMK.out

      have hts : ∀ k, (d.keys.take (k + 1)).map (cutN 70) = (d.keys.take k).map (cutN 70) ++ (if h : k < d.keys.length then [cutN 70 d.keys[k]] else []) := by
        intro k
        by_cases h : k < d.keys.length
        · rw [List.take_succ_eq_append_getElem h, List.map_append, dif_pos h]; rfl
        · rw [dif_neg h, List.take_of_length_le (by omega), List.take_of_length_le (by omega)]; simp
      have HCS := Lib.hid hts
      have hsz : ∀ k, ∀ s ∈ (d.keys.take k).map (cutN 70), s.size ≤ maxLen := by
        intro k s hs
        obtain ⟨x, _, rfl⟩ := List.mem_map.1 hs
        have := cutN_size 70 x
        unfold maxLen; omega
      have HSZ := Lib.hid hsz
      clear hts hsz
      go_upto_block 2 with fail
      clear x0 x1 x2 hm
      go_cut [37] (fun _ wy => ∃ p q, Blk wy (W0.heap.size + 1) 44 #[.string Y, .slice p NK q, .slice none 0 0] ∧ Blk wy W0.heap.size 44 #[.string d.kind, .slice ka d.keys.length kc, .slice va d.vals.length vc] ∧ HasStrs wy p q ((d.keys.take NK).map (cutN 70)) ∧ InTx wy p ∧ (∀ b o s, p = some ⟨b, o, s⟩ → W0.heap.size + 2 ≤ b ∧ b < wy.heap.size) ∧ Below W0.heap.size W0 wy ∧ W0.heap.size + 2 ≤ wy.heap.size)
      case first =>
        go_wp2_with fail
        obtain ⟨B2, hB2⟩ : ∃ B2, w6.heap.size = B2 := ⟨_, rfl⟩
        have HB2 : Hid (w6.heap.size = B2) := Lib.hid hB2
        clear hB2
        go_loopg [37] NK (fun gg iv wq => ∃ (k : Nat) (p : Option Addr) (q : Nat), k + gg = NK ∧ iv = .int .i64 (k : Int) ∧ Blk wq (W0.heap.size + 1) 44 #[.string Y, .slice p k q, .slice none 0 0] ∧ OwnS 9 wq B2 (.slice p k q) ((d.keys.take k).map (cutN 70)) ∧ AllBut B2 (W0.heap.size + 1) w6 wq ∧ Below W0.heap.size W0 wq ∧ B2 ≤ wq.heap.size)
        case atStart => exact ⟨0, none, 0, by omega, rfl, HB6.out, OwnS.nil _ _ _, AllBut.refl _ _ _, Hb6.out, Nat.le_of_eq HB2.out.symm⟩
        case round =>
          obtain ⟨k, p, q, hkg, rfl, hg, hown, hab, hbw, hzq⟩ := hrel
          cases gk with
          | zero =>
            obtain rfl : k = NK := by omega
            obtain ⟨p', q', e, hh⟩ := hown.strs (HSZ.out k)
            obtain ⟨rfl, rfl⟩ : p = p' ∧ q = q' := by
              simp only [Value.slice.injEq] at e
              exact ⟨e.1, e.2.2⟩
            obtain ⟨ht1, ht2⟩ := inTx_own hown
            have hBd := hab.blk HB5'.out (by have := HB2.out; have := HZ6.out; omega) (by omega)
            have hzz : W0.heap.size + 2 ≤ wr.heap.size := by have := HB2.out; have := HZ6.out; omega
            have ht3 : ∀ b o s, p = some ⟨b, o, s⟩ → W0.heap.size + 2 ≤ b ∧ b < wr.heap.size := fun b o s e => by have := ht2 b o s e; have := HB2.out; have := HZ6.out; omega
            clear e hkg hown ht2
            have HG := Lib.hid hg
            have HH := Lib.hid hh
            have H1 := Lib.hid ht1
            have H3 := Lib.hid ht3
            have H4 := Lib.hid hBd
            have H5 := Lib.hid hbw
            have H6 := Lib.hid hzz
            clear hg hh ht1 ht3 hBd hbw hzz hab hzq
            go_wp2_with fail
            go_meet
            exact ⟨p, q, HG.out, H4.out, HH.out, H1.out, H3.out, H5.out, H6.out⟩
          | succ gg =>
            have hkw : k < NK := by omega
            have hkx : k < d.keys.length := by omega
            obtain ⟨b1, o1, rfl⟩ : ∃ b1 o1, ka = some ⟨b1, o1, none⟩ := by
              rcases HK.out.2.2.2 with h | ⟨b1, o1, h, _⟩
              · rw [h] at hkx; simp at hkx
              · exact ⟨b1, o1, h⟩
            have hc := (HK.out.call hbw).at k hkx
            have hts := HCS.out k
            rw [dif_pos hkx] at hts
            have hsx := HK.out.2.2.1 _ (List.getElem_mem hkx)
            obtain ⟨X, hX⟩ : ∃ X, d.keys[k] = X := ⟨_, rfl⟩
            rw [hX] at hc hts hsx
            have HTS := Lib.hid hts
            have hlk : ((d.keys.take k).map (cutN 70)).length = k := by simp; omega
            have hll : ((d.keys.take k).map (cutN 70)).length ≤ 1000000 := by omega
            have HSK := Lib.hid (HSZ.out (k + 1))
            obtain ⟨M, HM⟩ : ∃ M, Hid ((d.keys.take k).map (cutN 70) = M) := ⟨_, Lib.hid rfl⟩
            rw [HM.out] at hown hll HTS hlk
            rw [HTS.out] at HSK
            have HLK := Lib.hid hlk
            clear hts hX hlk
            have hs1 := fun W => run_cutN (P := Tryd.prog) W 9 70 X Tryd.underlying9
            have hm1 : ∀ W (t : TypeId) (ts : Array TypeId), (Builtin.min_ ts t #[.int .i64 (X.size : Int), .int .i64 70]).run Tryd.prog W = .ok (.int .i64 ((min X.size 70 : Nat) : Int)) W := fun W t ts => run_minN W ts t X.size 70
            unfold maxLen at hsx
            go_upto_region 9 with fail
            generalize cutN 70 X = Z at *
            generalize min X.size 70 = m1 at *
            have hgB : W0.heap.size + 1 < B2 := by have := HB2.out; have := HZ6.out; omega
            have hne : some (W0.heap.size + 1) ≠ (Value.slice p k q).ownBlock := hown.ne hgB
            have hgD : Blk wr.drew (W0.heap.size + 1) 44 _ := hg
            have hownD : OwnS 9 wr.drew B2 _ M := hown
            have hzD : B2 ≤ wr.drew.heap.size := hzq
            have HR := Lib.hid hab
            have HBW := Lib.hid hbw
            have q2 := hgD.cells3.2.1
            have q2a := fun o => (Blk.alloc hg o).cells3.2.1
            clear hab hbw
            go_region_law (refine step_pushS wr.drew (by rfl) (.tmp 42) (.tmp 48) 36 (by rfl) B2 9 i1 (.string ⟨#[]⟩) Tryd.underlying36 hj hy0 hy1 hy2 rfl (.slice p k q) M Z (by rfl) hownD wr.heap.size (by rfl) rfl hll hzD ?_; intro v2 w2 hown2 hg2; have hk2 := hgD.push hg2 hne; obtain ⟨p2, qq2, rfl, _⟩ := hown2.strs HSK.out; obtain ⟨x0, x1, x2⟩ := hk2.cells3; have f2 := hk2.frozen 1)
            all_goals
              have hb2 := hownD.grown HBW.out.drew (by omega) HBW.out.size hg2
              have hab2 := HR.out.grown (w1 := wr.drew) (Nat.le_refl _) (fun k hk => (World.ownsRow.lt hownD k hk).1) hzD hg2
              have hz2 := Nat.le_trans hzD hg2.size
              have hl1 : (M ++ [Z]).length = k + 1 := by rw [List.length_append, HLK.out]; rfl
              rw [hl1] at hown2
              have HK2 := Lib.hid hk2
              have HO2 := Lib.hid hown2
              have HAB2 := Lib.hid hab2
              have HB22 := Lib.hid hb2
              have HZ22 := Lib.hid hz2
              have HGB := Lib.hid hgB
              clear hl1 hown2 hab2 hb2 hz2 hk2 hg2 hgD hownD hzD q2 q2a hne hs1 hm1 x0 x1 x2 f2 hg hown hzq hc hgB
              go_wp2_with fail
              go_roundg gg
              case measure => omega
              case rel =>
                rw [HLK.out]
                exact ⟨k + 1, p2, qq2, by omega, by go_num, HK2.out.set 1 _, by rw [HTS.out]; exact HO2.out.setCell HGB.out 1 _, HAB2.out.set 1 _, HB22.out.setCell (by show W0.heap.size ≤ W0.heap.size + 1; omega) _, by simpa [World.setCell] using HZ22.out⟩
      case rest =>
      obtain ⟨p1, q1, hB6, hB5, hs1, ht1, hp1, hb6, hz6⟩ := hcut
      clear HB6 HB5' Hb6 HZ6
      obtain ⟨w6, rfl⟩ : ∃ w6, w6 = wc := ⟨_, rfl⟩
      have HB6 := Lib.hid hB6
      have HB5' := Lib.hid hB5
      have HS1 := Lib.hid hs1
      have HT1 := Lib.hid ht1
      have HP1 : Hid (∀ b o s, p1 = some ⟨b, o, s⟩ → b < w6.heap.size ∧ b ≠ W0.heap.size + 1) := Lib.hid (fun b o s e => by have := hp1 b o s e; omega)
      have Hb6 := Lib.hid hb6
      have HZ6 := Lib.hid hz6
      clear hB6 hB5 hs1 ht1 hp1 hb6 hz6 HCS HSZ
      obtain ⟨x0, x1, x2⟩ := HB5'.out.cells3
      have hm := HMV.out

      have hts : ∀ k, (d.vals.take (k + 1)).map (cutN 205) = (d.vals.take k).map (cutN 205) ++ (if h : k < d.vals.length then [cutN 205 d.vals[k]] else []) := by
        intro k
        by_cases h : k < d.vals.length
        · rw [List.take_succ_eq_append_getElem h, List.map_append, dif_pos h]; rfl
        · rw [dif_neg h, List.take_of_length_le (by omega), List.take_of_length_le (by omega)]; simp
      have HCS := Lib.hid hts
      have hsz : ∀ k, ∀ s ∈ (d.vals.take k).map (cutN 205), s.size ≤ maxLen := by
        intro k s hs
        obtain ⟨x, _, rfl⟩ := List.mem_map.1 hs
        have := cutN_size 205 x
        unfold maxLen; omega
      have HSZ := Lib.hid hsz
      clear hts hsz
      go_upto_block 4 with fail
      clear x0 x1 x2 hm
      go_cut [60] (fun _ wy => ∃ p q, Blk wy (W0.heap.size + 1) 44 #[.string Y, .slice p1 NK q1, .slice p NV q] ∧ Blk wy W0.heap.size 44 #[.string d.kind, .slice ka d.keys.length kc, .slice va d.vals.length vc] ∧ HasStrs wy p q ((d.vals.take NV).map (cutN 205)) ∧ InTx wy p ∧ (∀ b o s, p = some ⟨b, o, s⟩ → W0.heap.size + 2 ≤ b ∧ b < wy.heap.size) ∧ HasStrs wy p1 q1 ((d.keys.take NK).map (cutN 70)) ∧ InTx wy p1 ∧ Below W0.heap.size W0 wy ∧ W0.heap.size + 2 ≤ wy.heap.size)
      case first =>
        go_wp2_with fail
        obtain ⟨B2, hB2⟩ : ∃ B2, w6.heap.size = B2 := ⟨_, rfl⟩
        have HB2 : Hid (w6.heap.size = B2) := Lib.hid hB2
        clear hB2
        go_loopg [60] NV (fun gg iv wq => ∃ (k : Nat) (p : Option Addr) (q : Nat), k + gg = NV ∧ iv = .int .i64 (k : Int) ∧ Blk wq (W0.heap.size + 1) 44 #[.string Y, .slice p1 NK q1, .slice p k q] ∧ OwnS 9 wq B2 (.slice p k q) ((d.vals.take k).map (cutN 205)) ∧ AllBut B2 (W0.heap.size + 1) w6 wq ∧ Below W0.heap.size W0 wq ∧ B2 ≤ wq.heap.size)
        case atStart => exact ⟨0, none, 0, by omega, rfl, HB6.out, OwnS.nil _ _ _, AllBut.refl _ _ _, Hb6.out, Nat.le_of_eq HB2.out.symm⟩
        case round =>
          obtain ⟨k, p, q, hkg, rfl, hg, hown, hab, hbw, hzq⟩ := hrel
          cases gk with
          | zero =>
            obtain rfl : k = NV := by omega
            obtain ⟨p', q', e, hh⟩ := hown.strs (HSZ.out k)
            obtain ⟨rfl, rfl⟩ : p = p' ∧ q = q' := by
              simp only [Value.slice.injEq] at e
              exact ⟨e.1, e.2.2⟩
            obtain ⟨ht1, ht2⟩ := inTx_own hown
            have hBd := hab.blk HB5'.out (by have := HB2.out; have := HZ6.out; omega) (by omega)
            have hzz : W0.heap.size + 2 ≤ wr.heap.size := by have := HB2.out; have := HZ6.out; omega
            have ht3 : ∀ b o s, p = some ⟨b, o, s⟩ → W0.heap.size + 2 ≤ b ∧ b < wr.heap.size := fun b o s e => by have := ht2 b o s e; have := HB2.out; have := HZ6.out; omega
            have hk1 := hab.strs HS1.out (fun b o s e => by have := HP1.out b o s e; have := HB2.out; omega)
            have hk2 := hab.tx HT1.out (fun b o s e => by have := HP1.out b o s e; have := HB2.out; omega)
            clear e hkg hown ht2
            have HG := Lib.hid hg
            have HH := Lib.hid hh
            have H1 := Lib.hid ht1
            have H3 := Lib.hid ht3
            have H4 := Lib.hid hBd
            have H5 := Lib.hid hbw
            have H6 := Lib.hid hzz
            have H7 := Lib.hid hk1
            have H8 := Lib.hid hk2
            clear hg hh ht1 ht3 hBd hbw hzz hab hzq hk1 hk2
            go_wp2_with fail
            go_meet
            exact ⟨p, q, HG.out, H4.out, HH.out, H1.out, H3.out, H7.out, H8.out, H5.out, H6.out⟩
          | succ gg =>
            have hkw : k < NV := by omega
            have hkx : k < d.vals.length := by omega
            obtain ⟨b1, o1, rfl⟩ : ∃ b1 o1, va = some ⟨b1, o1, none⟩ := by
              rcases HV.out.2.2.2 with h | ⟨b1, o1, h, _⟩
              · rw [h] at hkx; simp at hkx
              · exact ⟨b1, o1, h⟩
            have hc := (HV.out.call hbw).at k hkx
            have hts := HCS.out k
            rw [dif_pos hkx] at hts
            have hsx := HV.out.2.2.1 _ (List.getElem_mem hkx)
            obtain ⟨X, hX⟩ : ∃ X, d.vals[k] = X := ⟨_, rfl⟩
            rw [hX] at hc hts hsx
            have HTS := Lib.hid hts
            have hlk : ((d.vals.take k).map (cutN 205)).length = k := by simp; omega
            have hll : ((d.vals.take k).map (cutN 205)).length ≤ 1000000 := by omega
            have HSK := Lib.hid (HSZ.out (k + 1))
            obtain ⟨M, HM⟩ : ∃ M, Hid ((d.vals.take k).map (cutN 205) = M) := ⟨_, Lib.hid rfl⟩
            rw [HM.out] at hown hll HTS hlk
            rw [HTS.out] at HSK
            have HLK := Lib.hid hlk
            clear hts hX hlk
            have hs1 := fun W => run_cutN (P := Tryd.prog) W 9 205 X Tryd.underlying9
            have hm1 : ∀ W (t : TypeId) (ts : Array TypeId), (Builtin.min_ ts t #[.int .i64 (X.size : Int), .int .i64 205]).run Tryd.prog W = .ok (.int .i64 ((min X.size 205 : Nat) : Int)) W := fun W t ts => run_minN W ts t X.size 205
            unfold maxLen at hsx
            go_upto_region 14 with fail
            generalize cutN 205 X = Z at *
            generalize min X.size 205 = m1 at *
            have hgB : W0.heap.size + 1 < B2 := by have := HB2.out; have := HZ6.out; omega
            have hne : some (W0.heap.size + 1) ≠ (Value.slice p k q).ownBlock := hown.ne hgB
            have hgD : Blk wr.drew (W0.heap.size + 1) 44 _ := hg
            have hownD : OwnS 9 wr.drew B2 _ M := hown
            have hzD : B2 ≤ wr.drew.heap.size := hzq
            have HR := Lib.hid hab
            have HBW := Lib.hid hbw
            have q2 := hgD.cells3.2.2
            have q2a := fun o => (Blk.alloc hg o).cells3.2.2
            clear hab hbw
            go_region_law (refine step_pushS wr.drew (by rfl) (.tmp 65) (.tmp 71) 36 (by rfl) B2 9 i1 (.string ⟨#[]⟩) Tryd.underlying36 hj hy0 hy1 hy2 rfl (.slice p k q) M Z (by rfl) hownD wr.heap.size (by rfl) rfl hll hzD ?_; intro v2 w2 hown2 hg2; have hk2 := hgD.push hg2 hne; obtain ⟨p2, qq2, rfl, _⟩ := hown2.strs HSK.out; obtain ⟨x0, x1, x2⟩ := hk2.cells3; have f2 := hk2.frozen 2)
            all_goals
              have hb2 := hownD.grown HBW.out.drew (by omega) HBW.out.size hg2
              have hab2 := HR.out.grown (w1 := wr.drew) (Nat.le_refl _) (fun k hk => (World.ownsRow.lt hownD k hk).1) hzD hg2
              have hz2 := Nat.le_trans hzD hg2.size
              have hl1 : (M ++ [Z]).length = k + 1 := by rw [List.length_append, HLK.out]; rfl
              rw [hl1] at hown2
              have HK2 := Lib.hid hk2
              have HO2 := Lib.hid hown2
              have HAB2 := Lib.hid hab2
              have HB22 := Lib.hid hb2
              have HZ22 := Lib.hid hz2
              have HGB := Lib.hid hgB
              clear hl1 hown2 hab2 hb2 hz2 hk2 hg2 hgD hownD hzD q2 q2a hne hs1 hm1 x0 x1 x2 f2 hg hown hzq hc hgB
              go_wp2_with fail
              go_roundg gg
              case measure => omega
              case rel =>
                rw [HLK.out]
                exact ⟨k + 1, p2, qq2, by omega, by go_num, HK2.out.set 2 _, by rw [HTS.out]; exact HO2.out.setCell HGB.out 2 _, HAB2.out.set 2 _, HB22.out.setCell (by show W0.heap.size ≤ W0.heap.size + 1; omega) _, by simpa [World.setCell] using HZ22.out⟩
      case rest =>
      obtain ⟨p2, q2, hB6, hB5, hs2, ht2, hp2, hs1, ht1, hb6, hz6⟩ := hcut
      clear HB6 HB5' Hb6 HZ6 HS1 HT1 HP1 HCS HSZ
      obtain ⟨C, hC⟩ : ∃ C, cutD d = C := ⟨_, rfl⟩
      have hlk : ((d.keys.take NK).map (cutN 70)).length = NK := by simp; omega
      have hlv : ((d.vals.take NV).map (cutN 205)).length = NV := by simp; omega
      rw [← HTK.out] at hs1 hlk
      rw [← HTV.out] at hs2 hlv
      have hyd := HYD.out
      rw [hC] at hs1 hs2 hlk hlv hyd
      have hokC : (⟨C, p1, q1, p2, q2⟩ : DefAt).okT wc := ⟨⟨hs1, hs2, by rw [← hyd]; unfold maxLen; omega⟩, ht1, ht2⟩
      have hW : W0.heap.size ≤ W0.heap.size := Nat.le_refl _
      have hown := HOWN.out.call hb6
      have hok := fun x hx => (HOK.out x hx).call hb6
      have hbb := bthen HB.out hb6
      have HOKC := Lib.hid hokC
      have HOW := Lib.hid hown
      have HOK2 := Lib.hid hok
      have HBB := Lib.hid hbb
      have hbz := hbb.size
      have HDS : Hid ((qs ++ [(⟨C, p1, q1, p2, q2⟩ : DefAt)]).map (·.d) = (ds.take (k + 1)).map cutD) := Lib.hid (by
        rw [List.map_append, HQS.out, List.take_succ_eq_append_getElem hkd, List.map_append]
        congr 1
        simp only [List.map_cons, List.map_nil]
        rw [← hC, HQ.out])
      rw [hyd, ← hlk, ← hlv] at hB6
      have hB6' : Blk wc (W0.heap.size + 1) 44 (dCells ⟨C, p1, q1, p2, q2⟩) := hB6
      clear hB6 hB5 hs1 hs2 ht1 ht2 hp2 hb6 hz6 hlk hlv hyd hC hokC hown hok hbb hW HTK HTV HYD HMK HMV nk1 nk2 nk3 nv1 nv2 nv3 hkl1 hkl2 hvl1 hvl2 HK HV HOWN HOK HB HQS HQ hs
      have x0 : wc.cell? ⟨W0.heap.size + 1, 0, none⟩ = some (.string C.kind) := hB6'.cells3.1
      have x1 : wc.cell? ⟨W0.heap.size + 1, 1, none⟩ = some (.slice p1 C.keys.length q1) := hB6'.cells3.2.1
      have x2 : wc.cell? ⟨W0.heap.size + 1, 2, none⟩ = some (.slice p2 C.vals.length q2) := hB6'.cells3.2.2
      clear hB6'
      have hql2 : qs.length ≤ 1000000 := by omega
      go_wp2_with (at_builtin; refine (wpList_pushD wc rfl _ _ 22 rfl w.heap.size 44 i0 (.agg #[.string ⟨#[]⟩, .slice none 0 0, .slice none 0 0]) Tryd.underlying22 hi hz0 hz1 hz2 rfl u qs rfl HOW.out ⟨C, p1, q1, p2, q2⟩ rfl hql2 hbz ?_))
      intro v2 w2 hown2 hg2
      have hb2 := HOW.out.grown HBB.out (Nat.le_refl _) hbz hg2
      have hok2 : ∀ x ∈ qs ++ [(⟨C, p1, q1, p2, q2⟩ : DefAt)], x.okT w2 := fun x hx => by
        rw [List.mem_append, List.mem_singleton] at hx
        rcases hx with hx | rfl
        · exact (HOK2.out x hx).grown HOW.out hg2
        · exact HOKC.out.grown HOW.out hg2
      have HO2 := Lib.hid hown2
      have HB2 := Lib.hid hb2
      have HK2 := Lib.hid hok2
      clear hown2 hb2 hok2 hg2 x0 x1 x2 hql2 hbz
      go_wp2_with fail
      go_roundg gg
      case measure => omega
      case rel => exact ⟨k + 1, _, v2, rfl, by omega, by go_num, HO2.out, HDS.out, HK2.out, HB2.out⟩

theorem few_nil (a : Option Addr) (c : Nat) (w : World) (hc : c ≤ maxLen) : Calls Tryd.prog 12 #[.slice a 0 c] w (FewP [] w) := by
  unfold maxLen at hc
  go_enter Tryd.func12, Tryd.ntmps12
  go_wp2
  refine wp_loop_rounds 1 ?_
  rw [rounds_succ]
  go_wp2
  go_ret
  exact ⟨none, 0, rfl, HasDefs.nil _ _ _ (by unfold maxLen; omega), Below.refl _ _⟩
theorem few_any (a : Option Addr) (c : Nat) (ds : List Dfn) (w : World) (h : HasDefs w a c ds) : Calls Tryd.prog 12 #[.slice a ds.length c] w (FewP (fewD ds) w) := by
  rcases h.place with rfl | ⟨b, off, rfl⟩
  · exact few_nil a c w h.2.1
  · exact few_some b off c ds w h
end Go.Proofs.YthodifgohdaedabDoor
