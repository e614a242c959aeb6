/- RoutesFind: which routes may be, which two are the same, how many there are in one, and where any labels lead, is as the document says, or refused: the law's walk. -/
import Derived.Test.YtmhehojjlacfoaaDoorMg4
import Derived.Test.YtmhehojjlacfoaaDoorZFn9A
import Derived.Test.YtmhehojjlacfoaaDoorMg8
import Derived.Test.YtmhehojjlacfoaaDoorMg9
import Derived.Test.YtmhehojjlacfoaaDoorZRteR
import Derived.Test.YtmhehojjlacfoaaDoorLabR
namespace Go.Proofs.YtmhehojjlacfoaaDoor
open Go.RowKit

def Cells9 (w : World) (g : Nat) (v0 v1 v2 v3 v4 v5 v6 v7 v8 : Value) : Prop :=
  w.cell? ⟨g, 0, none⟩ = some v0 ∧ w.cell? ⟨g, 1, none⟩ = some v1 ∧ w.cell? ⟨g, 2, none⟩ = some v2 ∧ w.cell? ⟨g, 3, none⟩ = some v3 ∧ w.cell? ⟨g, 4, none⟩ = some v4 ∧ w.cell? ⟨g, 5, none⟩ = some v5 ∧ w.cell? ⟨g, 6, none⟩ = some v6 ∧ w.cell? ⟨g, 7, none⟩ = some v7 ∧ w.cell? ⟨g, 8, none⟩ = some v8
/-- what Find answers, as the law asks it -/
def FindQ (n : Rt) (ls : List Lab) (ts : List TgtAt) (er : Int) (a : Option Addr) (c : Nat) (w' : World) : Prop :=
  (findC n ls = false ∧ ts = [] ∧ er = 1) ∨ (findC n ls = true ∧ er = 0 ∧ proj ts = n.find ls [] ∧ HasTgts w' a c ts)
theorem find_q (q : RtAt) (a : Option Addr) (c : Nat) (ls : List Lab) (w : World) (h : q.ok w) (hL : HasLabs w a c ls) (hcn : q.n.count ≤ 100000) :
    Calls Tryd.prog 7 #[.agg (tCells q), .slice a ls.length c] w (fun e w' => ∃ a' c' ts er, e = .returned (.tuple #[.slice a' (List.length ts) c', .int .i64 er]) ∧ FindQ q.n ls ts er a' c' w' ∧ ts.length ≤ 9223372036854775807 ∧ Below w.heap.size w w') := by
  refine (find_any q a c ls w h hL hcn).mono ?_
  rintro e w' (⟨h1, rfl, h3⟩ | ⟨h1, a', c', ts, rfl, h4, h5, h6⟩)
  · exact ⟨none, 0, [], 1, rfl, .inl ⟨h1, rfl, rfl⟩, by simp, h3⟩
  · refine ⟨a', c', ts, 0, rfl, .inr ⟨h1, rfl, h4, h5⟩, ?_, h6⟩
    have h7 := h5.1
    have h8 := h5.2.1
    unfold maxLen at h8
    omega
theorem many_q {w0 : World} {q : RtAt} (h : q.ok w0) (W : World) (hW : Below w0.heap.size w0 W) : Calls Tryd.prog 5 #[.agg (tCells q), .int .i64 60] W (fun e w' => ∃ y : Int, e = .returned (.int .i64 y) ∧ Below W.heap.size W w' ∧ ((y = 61 ∧ decide ((60 : Int) < y) = true) ∨ (y = (q.n.count : Int) ∧ q.n.count ≤ 60 ∧ decide ((60 : Int) < y) = false))) :=
  (many_any h W 60 hW (by omega)).mono (fun e w' h => by
    obtain ⟨z, h1, h2, h3, h4, h5⟩ := h
    refine ⟨z, h1, h5, ?_⟩
    by_cases hz : z ≤ 60
    · have := h4 hz
      exact .inr ⟨by rw [this], by omega, decide_eq_false (by omega)⟩
    · exact .inl ⟨by omega, decide_eq_true (by omega)⟩)
theorem all_q {w0 : World} {q : RtAt} (h : q.ok w0) (W : World) (hW : Below w0.heap.size w0 W) (hc : q.n.count ≤ 60) : Calls Tryd.prog 13 #[.agg (tCells q)] W (fun e w' => ∃ g c, e = .returned (.slice (some ⟨g, 0, none⟩) q.n.count c) ∧ Below W.heap.size W w') :=
  (all_any h W hW (by omega)).mono (fun e w' h => by
    obtain ⟨g, c, rs, rfl, _, hm, _, _, _, _, hb⟩ := h
    refine ⟨g, c, ?_, hb⟩
    have := congrArg List.length hm
    rw [List.length_map, Rt.all_len] at this
    rw [this])
theorem like_self (q : RtAt) (W : World) (h : q.ok W) : Calls Tryd.prog 10 #[.agg (tCells q), .agg (tCells q)] W (BoolB true W) := by
  have := routesLike_any q q W h h
  rwa [eqB_yes rfl] at this
theorem like9_same {q p : RtAt} {W : World} (h : q.ok W) (k : p.ok W) (e : q.n = p.n) : Calls Tryd.prog 11 #[.agg (tCells q), .agg (tCells p)] W (BoolB true W) := by
  have := like9_any h p W k (Below.refl _ _)
  rwa [eqB_yes e] at this
theorem proj_get {ts us : List TgtAt} (h : proj ts = proj us) : ts.length = us.length ∧ ∀ k (h1 : k < ts.length) (h2 : k < us.length), ts[k].1 = us[k].1 ∧ ts[k].2.n = us[k].2.n := by
  have hl := congrArg List.length h
  rw [proj_len, proj_len] at hl
  refine ⟨hl, fun k h1 h2 => ?_⟩
  have : (proj ts)[k]? = (proj us)[k]? := by rw [h]
  unfold proj at this
  rw [List.getElem?_map, List.getElem?_map, List.getElem?_eq_getElem h1, List.getElem?_eq_getElem h2] at this
  simp only [Option.map_some, Option.some.injEq, Prod.mk.injEq] at this
  exact ⟨bytes_ext this.1, this.2⟩
theorem RowT.has {w : World} {g c : Nat} {ts : List TgtAt} (h : RowT w g ts) (hg : g < w.heap.size) (h1 : ts.length ≤ c) (h2 : c ≤ maxLen) (h3 : ∀ t ∈ ts, t.2.ok w) : HasTgts w (some ⟨g, 0, none⟩) c ts :=
  ⟨h1, h2, h3, .inr ⟨g, 0, rfl, hg, fun i hi => h.lies i hi⟩⟩
set_option maxHeartbeats 12800000 in
set_option maxRecDepth 100000 in
theorem routesFind_walk {w : World} (q1 : RtAt) (h1 : q1.ok w) (q2 : RtAt) (h2 : q2.ok w) (a : Option Addr) (len c : Nat) (l : List Lab) (hl0 : l.length = len ∧ HasLabs w a c l) : Calls Tryd.prog 3 #[.agg (tCells q1), .agg (tCells q2), .slice a len c] w (BoolB true w) := by
  obtain ⟨rfl, hl⟩ := hl0
  have hb0 := balR (o := .cells (tCells q1) 26) (Below.refl w.heap.size w)
  have hb1 := balR (o := .cells (tCells q2) 26) hb0
  have hA := (Blk.new w 26 (tCells q1)).alloc (.cells (tCells q2) 26)
  have hB := nbR w (.cells (tCells q1) 26) (tCells q2) 26
  have HFEW := Lib.hid (few_any a c l _ (hl.call hb1))
  obtain ⟨L, hL⟩ : ∃ L, fewL l = L := ⟨_, rfl⟩
  rw [hL] at HFEW
  unfold LabsF at HFEW
  have H1 := Lib.hid h1
  have H2 := Lib.hid h2
  have HM1 := Lib.hid (fun W (hW : Below w.heap.size w W) => many_q h1 W hW)
  have HM2 := Lib.hid (fun W (hW : Below w.heap.size w W) => many_q h2 W hW)
  have HR1 := Lib.hid (fun W (hW : Below w.heap.size w W) => rteRight_any q1 W (h1.call hW))
  have HR2 := Lib.hid (fun W (hW : Below w.heap.size w W) => right9_any q1 W (h1.call hW))
  have HL1 := Lib.hid (fun W (hW : Below w.heap.size w W) => routesLike_any q1 q2 W (h1.call hW) (h2.call hW))
  have HL2 := Lib.hid (fun W (hW : Below w.heap.size w W) => like9_any (h1.call hW) q2 W (h2.call hW) (Below.refl _ _))
  have HL3 := Lib.hid (fun W (hW : Below w.heap.size w W) => like_self q1 W (h1.call hW))
  have HCO := Lib.hid (fun (hc : q1.n.count ≤ 60) W (hW : Below w.heap.size w W) => count_any W q1 (h1.call hW) (by omega))
  have HAL := Lib.hid (fun (hc : q1.n.count ≤ 60) W (hW : Below w.heap.size w W) => all_q h1 W hW hc)
  have HFI := Lib.hid (fun (hc : q1.n.count ≤ 60) (a : Option Addr) (c : Nat) W (hW : Below w.heap.size w W) (hL : HasLabs W a c L) => find_q q1 a c L W (h1.call hW) hL (by omega))
  have HF9 := Lib.hid (fun (hc : q1.n.count ≤ 60) (hr : rteC q1.n = true) (hrl : rightC L = true) (a : Option Addr) (c : Nat) W (hW : Below w.heap.size w W) (hL : HasLabs W a c L) => fn9_any hL hrl (h1.call hW) 4 W ⟨#[]⟩ hr (by decide) (by omega) (Below.refl _ _))
  have HRL := Lib.hid (fun (a : Option Addr) (c : Nat) W (hL : HasLabs W a c L) => rRight_any a c L W hL)
  have HB := Lib.hid hb1
  generalize eqB (q1.n = q2.n) = E at *
  clear hb0 hb1 h1 h2 hl hL
  obtain ⟨n, m1a, m1c, b1a, b1c, u1a, u1c, k1a, k1c⟩ := q1
  obtain ⟨m, m2a, m2c, b2a, b2c, u2a, u2c, k2a, k2c⟩ := q2
  simp only [tCells] at *
  go_enter Tryd.func3, Tryd.ntmps3
  go_upto_region 1 with fail
  generalize (w.alloc (.cells #[.string n.recv, .slice m1a n.ms.length m1c, .slice b1a n.bys.length b1c, .int .i64 n.wait, .int .i64 n.every, .int .i64 n.rep, .slice u1a n.mute.length u1c, .bool n.on, .slice k1a n.kids.length k1c] 26)).alloc (.cells #[.string m.recv, .slice m2a m.ms.length m2c, .slice b2a m.bys.length b2c, .int .i64 m.wait, .int .i64 m.every, .int .i64 m.rep, .slice u2a m.mute.length u2c, .bool m.on, .slice k2a m.kids.length k2c] 26) = wx at *
  obtain ⟨g, hg⟩ : ∃ g, w.heap.size = g := ⟨_, rfl⟩
  have HG : Hid (w.heap.size = g) := Lib.hid hg
  rw [hg] at hA hB ⊢
  clear hg
  have HAC := Lib.hid (fun W (hW : Below wx.heap.size wx W) => (show Cells9 W g (.string n.recv) (.slice m1a n.ms.length m1c) (.slice b1a n.bys.length b1c) (.int .i64 n.wait) (.int .i64 n.every) (.int .i64 n.rep) (.slice u1a n.mute.length u1c) (.bool n.on) (.slice k1a n.kids.length k1c) from (hA.call hW).cells9))
  have HBC := Lib.hid (fun W (hW : Below wx.heap.size wx W) => (show Cells9 W (g + 1) (.string m.recv) (.slice m2a m.ms.length m2c) (.slice b2a m.bys.length b2c) (.int .i64 m.wait) (.int .i64 m.every) (.int .i64 m.rep) (.slice u2a m.mute.length u2c) (.bool m.on) (.slice k2a m.kids.length k2c) from (hB.call hW).cells9))
  clear hA hB
  go_upto_region 2 with (go_at_call 4; refine HFEW.out.mono ?_; rintro e w2 ⟨x, y, rfl, hL2, _, hb2⟩)
  have HL2' := Lib.hid hL2
  have HB2 := Lib.hid hb2
  clear hL2 HFEW
  obtain ⟨c0, c1, c2, c3, c4, c5, c6, c7, c8⟩ := HAC.out _ hb2
  clear hb2
  go_cut [20] (fun v wy => ∃ u : Bool, v = .bool u ∧ (u = false → n.count ≤ 60) ∧ Below w2.heap.size w2 wy)
  case first =>

    go_wp2_with (go_at_call 5; first
      | ((with_reducible refine (HM1.out _ (bthen HB.out HB2.out)).mono ?_); rintro e w3 ⟨y, rfl, hb3, hy⟩; obtain ⟨d0, d1, d2, d3, d4, d5, d6, d7, d8⟩ := HBC.out _ (bthen HB2.out hb3); rcases hy with ⟨rfl, hy1⟩ | ⟨rfl, hy2, hy1⟩)
      | ((with_reducible refine (HM2.out _ (bthen HB.out (bthen HB2.out hb3))).mono ?_); rintro e w4 ⟨y', rfl, hb4, hy'⟩; rcases hy' with ⟨rfl, hy3⟩ | ⟨rfl, hy4, hy3⟩))
    · go_meet
      exact ⟨true, rfl, (fun h => by cases h), hb3⟩
    · go_meet
      exact ⟨true, rfl, (fun h => by cases h), bthen hb3 hb4⟩
    · go_meet
      exact ⟨false, rfl, (fun _ => hy2), bthen hb3 hb4⟩
  case rest =>
  obtain ⟨u, rfl, hu, hb3⟩ := hcut
  clear c0 c1 c2 c3 c4 c5 c6 c7 c8 HM1 HM2
  obtain ⟨w3, hw3⟩ : ∃ W, W = wc := ⟨_, rfl⟩
  subst hw3
  have HB3 := Lib.hid hb3
  have HBW3 := Lib.hid (bthen HB.out (bthen HB2.out hb3))
  have HBX3 := Lib.hid (bthen HB2.out hb3)
  clear hb3
  cases u with
  | true =>
    go_wp2_with (go_at_call 6; refine (alive_any _).mono ?_; rintro e w4 ⟨rfl, hb4⟩)
    go_ret
    exact ⟨rfl, bthen HBW3.out hb4⟩
  | false =>
    have hc60 := hu rfl
    have HFI' := Lib.hid (HFI.out hc60 x y w3 HBW3.out (HL2'.out.call HB3.out))
    have HCO' := Lib.hid (HCO.out hc60)
    have HAL' := Lib.hid (HAL.out hc60)
    have HF9' := Lib.hid (HF9.out hc60)
    clear hu hc60 HFI HCO HAL HF9
    obtain ⟨c0, c1, c2, c3, c4, c5, c6, c7, c8⟩ := HAC.out _ HBX3.out
    go_upto_region 5 with (go_at_call 7; refine HFI'.out.mono ?_; rintro e w4 ⟨fa, fc, ts, er, rfl, hq4, hl4, hb4⟩)
    have HQ4 := Lib.hid hq4
    have HL4 := Lib.hid hl4
    have HB4 := Lib.hid hb4
    have HBW4 := Lib.hid (bthen HBW3.out hb4)
    have HBX4 := Lib.hid (bthen HBX3.out hb4)
    clear c0 c1 c2 c3 c4 c5 c6 c7 c8 hq4 hl4 hb4 HFI'
    have HR1' := Lib.hid (fun W (hW : Below w4.heap.size w4 W) => HR1.out W (bthen HBW4.out hW))
    have HR2' := Lib.hid (fun W (hW : Below w4.heap.size w4 W) => HR2.out W (bthen HBW4.out hW))
    have HL1' := Lib.hid (fun W (hW : Below w4.heap.size w4 W) => HL1.out W (bthen HBW4.out hW))
    have HL2'' := Lib.hid (fun W (hW : Below w4.heap.size w4 W) => HL2.out W (bthen HBW4.out hW))
    have HL3' := Lib.hid (fun W (hW : Below w4.heap.size w4 W) => HL3.out W (bthen HBW4.out hW))
    have HCO'' := Lib.hid (fun W (hW : Below w4.heap.size w4 W) => HCO'.out W (bthen HBW4.out hW))
    have HAL'' := Lib.hid (fun W (hW : Below w4.heap.size w4 W) => HAL'.out W (bthen HBW4.out hW))
    have HSF := Lib.hid (fun W (hW : Below w4.heap.size w4 W) => (show (fun w' : World => Cells9 w' g (.string n.recv) (.slice m1a n.ms.length m1c) (.slice b1a n.bys.length b1c) (.int .i64 n.wait) (.int .i64 n.every) (.int .i64 n.rep) (.slice u1a n.mute.length u1c) (.bool n.on) (.slice k1a n.kids.length k1c) ∧ Cells9 w' (g + 1) (.string m.recv) (.slice m2a m.ms.length m2c) (.slice b2a m.bys.length b2c) (.int .i64 m.wait) (.int .i64 m.every) (.int .i64 m.rep) (.slice u2a m.mute.length u2c) (.bool m.on) (.slice k2a m.kids.length k2c)) W from ⟨HAC.out W (bthen HBX4.out hW), HBC.out W (bthen HBX4.out hW)⟩))
    have hc0 := (Below.refl w4.heap.size w4).drew
    have hS := HSF.out _ hc0
    refine wp_region_marked (fun w' : World => Cells9 w' g (.string n.recv) (.slice m1a n.ms.length m1c) (.slice b1a n.bys.length b1c) (.int .i64 n.wait) (.int .i64 n.every) (.int .i64 n.rep) (.slice u1a n.mute.length u1c) (.bool n.on) (.slice k1a n.kids.length k1c) ∧ Cells9 w' (g + 1) (.string m.recv) (.slice m2a m.ms.length m2c) (.slice b2a m.bys.length b2c) (.int .i64 m.wait) (.int .i64 m.every) (.int .i64 m.rep) (.slice u2a m.mute.length u2c) (.bool m.on) (.slice k2a m.kids.length k2c)) 31 (by kernel_rfl) ?_
    refine wpAnyM_loadP [28, 27, 20, 19, 14, 13, 5, 4, 1] (v := ?v0) 0 rfl (by kernel_rfl) (by kernel_rfl) (by kernel_rfl) (by kernel_rfl) (by decide) (by kernel_rfl) (fun _ _ _ h => h) (Or.inl ⟨by rfl, ?hy0⟩) hS ?rest0
    case hy0 => intro wq hSw; (try dsimp only at hSw); obtain ⟨⟨c0, c1, c2, c3, c4, c5, c6, c7, c8⟩, ⟨d0, d1, d2, d3, d4, d5, d6, d7, d8⟩⟩ := hSw; go_simp; (try with_reducible rfl)
    case rest0 =>
    try simp only [Act.put, List.setIfInBounds_toArray]
    refine wpAnyM_loadP [28, 27, 20, 19, 14, 13, 5, 3] (v := ?v2) 2 rfl (by kernel_rfl) (by kernel_rfl) (by kernel_rfl) (by kernel_rfl) (by decide) (by kernel_rfl) (fun _ _ _ h => h) (Or.inl ⟨by rfl, ?hy2⟩) hS ?rest2
    case hy2 => intro wq hSw; (try dsimp only at hSw); obtain ⟨⟨c0, c1, c2, c3, c4, c5, c6, c7, c8⟩, ⟨d0, d1, d2, d3, d4, d5, d6, d7, d8⟩⟩ := hSw; go_simp; (try with_reducible rfl)
    case rest2 =>
    try simp only [Act.put]
    refine wpAnyM_one 1 rfl (by kernel_rfl) (fun K hK => ?_)
    go_simp
    go_at_call 8
    refine (HR1'.out _ hc0).mono ?_
    rintro e u1 ⟨rfl, hd1⟩
    have hc1 := bthen hc0 hd1
    refine hK.out _ _ (HSF.out _ hc1) ?_
    clear hS
    have hS := HSF.out _ hc1
    clear hK
    try simp only [Act.put, List.setIfInBounds_toArray, List.set_cons_zero, List.set_cons_succ]
    refine wpAnyM_one 3 rfl (by kernel_rfl) (fun K hK => ?_)
    go_simp
    go_at_call 9
    refine (HR2'.out _ hc1).mono ?_
    rintro e u2 ⟨rfl, hd2⟩
    have hc2 := bthen hc1 hd2
    refine hK.out _ _ (HSF.out _ hc2) ?_
    clear hS
    have hS := HSF.out _ hc2
    clear hK
    try simp only [Act.put, List.setIfInBounds_toArray, List.set_cons_zero, List.set_cons_succ]
    refine wpAnyM_pure (v := ?v4) 4 rfl (by kernel_rfl) (by kernel_rfl) (by kernel_rfl) (by kernel_rfl) (by decide) (fun _ _ _ h => h) (Or.inl ⟨by rfl, ?hy4⟩) hS ?rest4
    case hy4 => intro wq hSw; go_simp; (try with_reducible rfl)
    case rest4 =>
    try simp only [Act.put, List.setIfInBounds_toArray]
    refine wpAnyM_pure (v := ?v5) 5 rfl (by kernel_rfl) (by kernel_rfl) (by kernel_rfl) (by kernel_rfl) (by decide) (fun _ _ _ h => h) (Or.inl ⟨by rfl, ?hy5⟩) hS ?rest5
    case hy5 => intro wq hSw; go_simp; (try with_reducible rfl)
    case rest5 =>
    try simp only [Act.put]
    refine wpAnyM_loadP [28, 27, 20, 19, 14, 11, 8] (v := ?v6) 6 rfl (by kernel_rfl) (by kernel_rfl) (by kernel_rfl) (by kernel_rfl) (by decide) (by kernel_rfl) (fun _ _ _ h => h) (Or.inl ⟨by rfl, ?hy6⟩) hS ?rest6
    case hy6 => intro wq hSw; (try dsimp only at hSw); obtain ⟨⟨c0, c1, c2, c3, c4, c5, c6, c7, c8⟩, ⟨d0, d1, d2, d3, d4, d5, d6, d7, d8⟩⟩ := hSw; go_simp; (try with_reducible rfl)
    case rest6 =>
    try simp only [Act.put]
    refine wpAnyM_loadP [28, 27, 20, 19, 14, 11, 8] (v := ?v7) 7 rfl (by kernel_rfl) (by kernel_rfl) (by kernel_rfl) (by kernel_rfl) (by decide) (by kernel_rfl) (fun _ _ _ h => h) (Or.inl ⟨by rfl, ?hy7⟩) hS ?rest7
    case hy7 => intro wq hSw; (try dsimp only at hSw); obtain ⟨⟨c0, c1, c2, c3, c4, c5, c6, c7, c8⟩, ⟨d0, d1, d2, d3, d4, d5, d6, d7, d8⟩⟩ := hSw; go_simp; (try with_reducible rfl)
    case rest7 =>
    try simp only [Act.put]
    refine wpAnyM_loadP [28, 27, 20, 19, 14, 11] (v := ?v9) 9 rfl (by kernel_rfl) (by kernel_rfl) (by kernel_rfl) (by kernel_rfl) (by decide) (by kernel_rfl) (fun _ _ _ h => h) (Or.inl ⟨by rfl, ?hy9⟩) hS ?rest9
    case hy9 => intro wq hSw; (try dsimp only at hSw); obtain ⟨⟨c0, c1, c2, c3, c4, c5, c6, c7, c8⟩, ⟨d0, d1, d2, d3, d4, d5, d6, d7, d8⟩⟩ := hSw; go_simp; (try with_reducible rfl)
    case rest9 =>
    try simp only [Act.put]
    refine wpAnyM_loadP [28, 27, 20, 19, 14, 11] (v := ?v10) 10 rfl (by kernel_rfl) (by kernel_rfl) (by kernel_rfl) (by kernel_rfl) (by decide) (by kernel_rfl) (fun _ _ _ h => h) (Or.inl ⟨by rfl, ?hy10⟩) hS ?rest10
    case hy10 => intro wq hSw; (try dsimp only at hSw); obtain ⟨⟨c0, c1, c2, c3, c4, c5, c6, c7, c8⟩, ⟨d0, d1, d2, d3, d4, d5, d6, d7, d8⟩⟩ := hSw; go_simp; (try with_reducible rfl)
    case rest10 =>
    try simp only [Act.put]
    refine wpAnyM_one 8 rfl (by kernel_rfl) (fun K hK => ?_)
    go_simp
    go_at_call 10
    refine (HL1'.out _ hc2).mono ?_
    rintro e u3 ⟨rfl, hd3⟩
    have hc3 := bthen hc2 hd3
    refine hK.out _ _ (HSF.out _ hc3) ?_
    clear hS
    have hS := HSF.out _ hc3
    clear hK
    try simp only [Act.put, List.setIfInBounds_toArray, List.set_cons_zero, List.set_cons_succ]
    refine wpAnyM_one 11 rfl (by kernel_rfl) (fun K hK => ?_)
    go_simp
    go_at_call 11
    refine (HL2''.out _ hc3).mono ?_
    rintro e u4 ⟨rfl, hd4⟩
    have hc4 := bthen hc3 hd4
    refine hK.out _ _ (HSF.out _ hc4) ?_
    clear hS
    have hS := HSF.out _ hc4
    clear hK
    try simp only [Act.put, List.setIfInBounds_toArray, List.set_cons_zero, List.set_cons_succ]
    refine wpAnyM_pure (v := ?v12) 12 rfl (by kernel_rfl) (by kernel_rfl) (by kernel_rfl) (by kernel_rfl) (by decide) (fun _ _ _ h => h) (Or.inl ⟨by rfl, ?hy12⟩) hS ?rest12
    case hy12 => intro wq hSw; go_simp; (try with_reducible rfl)
    case rest12 =>
    try simp only [Act.put, List.setIfInBounds_toArray]
    refine wpAnyM_pure (v := ?v13) 13 rfl (by kernel_rfl) (by kernel_rfl) (by kernel_rfl) (by kernel_rfl) (by decide) (fun _ _ _ h => h) (Or.inl ⟨by rfl, ?hy13⟩) hS ?rest13
    case hy13 => intro wq hSw; go_simp; (try with_reducible rfl)
    case rest13 =>
    try simp only [Act.put]
    refine wpAnyM_pure (v := ?v14) 14 rfl (by kernel_rfl) (by kernel_rfl) (by kernel_rfl) (by kernel_rfl) (by decide) (fun _ _ _ h => h) (Or.inl ⟨by rfl, ?hy14⟩) hS ?rest14
    case hy14 => intro wq hSw; go_simp; (try with_reducible rfl)
    case rest14 =>
    try simp only [Act.put]
    refine wpAnyM_loadP [28, 27, 20, 17] (v := ?v15) 15 rfl (by kernel_rfl) (by kernel_rfl) (by kernel_rfl) (by kernel_rfl) (by decide) (by kernel_rfl) (fun _ _ _ h => h) (Or.inl ⟨by rfl, ?hy15⟩) hS ?rest15
    case hy15 => intro wq hSw; (try dsimp only at hSw); obtain ⟨⟨c0, c1, c2, c3, c4, c5, c6, c7, c8⟩, ⟨d0, d1, d2, d3, d4, d5, d6, d7, d8⟩⟩ := hSw; go_simp; (try with_reducible rfl)
    case rest15 =>
    try simp only [Act.put]
    refine wpAnyM_loadP [28, 27, 20, 17] (v := ?v16) 16 rfl (by kernel_rfl) (by kernel_rfl) (by kernel_rfl) (by kernel_rfl) (by decide) (by kernel_rfl) (fun _ _ _ h => h) (Or.inl ⟨by rfl, ?hy16⟩) hS ?rest16
    case hy16 => intro wq hSw; (try dsimp only at hSw); obtain ⟨⟨c0, c1, c2, c3, c4, c5, c6, c7, c8⟩, ⟨d0, d1, d2, d3, d4, d5, d6, d7, d8⟩⟩ := hSw; go_simp; (try with_reducible rfl)
    case rest16 =>
    try simp only [Act.put]
    refine wpAnyM_one 17 rfl (by kernel_rfl) (fun K hK => ?_)
    go_simp
    go_at_call 10
    refine (HL3'.out _ hc4).mono ?_
    rintro e u5 ⟨rfl, hd5⟩
    have hc5 := bthen hc4 hd5
    refine hK.out _ _ (HSF.out _ hc5) ?_
    clear hS
    have hS := HSF.out _ hc5
    clear hK
    try simp only [Act.put, List.setIfInBounds_toArray, List.set_cons_zero, List.set_cons_succ]
    refine wpAnyM_pure (v := ?v18) 18 rfl (by kernel_rfl) (by kernel_rfl) (by kernel_rfl) (by kernel_rfl) (by decide) (fun _ _ _ h => h) (Or.inl ⟨by rfl, ?hy18⟩) hS ?rest18
    case hy18 => intro wq hSw; go_simp; (try with_reducible rfl)
    case rest18 =>
    try simp only [Act.put, List.setIfInBounds_toArray]
    refine wpAnyM_pure (v := ?v19) 19 rfl (by kernel_rfl) (by kernel_rfl) (by kernel_rfl) (by kernel_rfl) (by decide) (fun _ _ _ h => h) (Or.inl ⟨by rfl, ?hy19⟩) hS ?rest19
    case hy19 => intro wq hSw; go_simp; (try with_reducible rfl)
    case rest19 =>
    try simp only [Act.put]
    refine wpAnyM_pure (v := ?v20) 20 rfl (by kernel_rfl) (by kernel_rfl) (by kernel_rfl) (by kernel_rfl) (by decide) (fun _ _ _ h => h) (Or.inl ⟨by rfl, ?hy20⟩) hS ?rest20
    case hy20 => intro wq hSw; go_simp; (try with_reducible rfl)
    case rest20 =>
    try simp only [Act.put]
    refine wpAnyM_loadP [28, 24, 22] (v := ?v21) 21 rfl (by kernel_rfl) (by kernel_rfl) (by kernel_rfl) (by kernel_rfl) (by decide) (by kernel_rfl) (fun _ _ _ h => h) (Or.inl ⟨by rfl, ?hy21⟩) hS ?rest21
    case hy21 => intro wq hSw; (try dsimp only at hSw); obtain ⟨⟨c0, c1, c2, c3, c4, c5, c6, c7, c8⟩, ⟨d0, d1, d2, d3, d4, d5, d6, d7, d8⟩⟩ := hSw; go_simp; (try with_reducible rfl)
    case rest21 =>
    try simp only [Act.put]
    refine wpAnyM_loadP [28, 24] (v := ?v23) 23 rfl (by kernel_rfl) (by kernel_rfl) (by kernel_rfl) (by kernel_rfl) (by decide) (by kernel_rfl) (fun _ _ _ h => h) (Or.inl ⟨by rfl, ?hy23⟩) hS ?rest23
    case hy23 => intro wq hSw; (try dsimp only at hSw); obtain ⟨⟨c0, c1, c2, c3, c4, c5, c6, c7, c8⟩, ⟨d0, d1, d2, d3, d4, d5, d6, d7, d8⟩⟩ := hSw; go_simp; (try with_reducible rfl)
    case rest23 =>
    try simp only [Act.put]
    refine wpAnyM_one 22 rfl (by kernel_rfl) (fun K hK => ?_)
    go_simp
    go_at_call 12
    refine (HCO''.out _ hc5).mono ?_
    rintro e u6 ⟨rfl, hd6⟩
    have hc6 := bthen hc5 hd6
    refine hK.out _ _ (HSF.out _ hc6) ?_
    clear hS
    have hS := HSF.out _ hc6
    clear hK
    try simp only [Act.put, List.setIfInBounds_toArray, List.set_cons_zero, List.set_cons_succ]
    refine wpAnyM_one 24 rfl (by kernel_rfl) (fun K hK => ?_)
    go_simp
    go_at_call 13
    refine (HAL''.out _ hc6).mono ?_
    rintro e u7 ⟨g7, c7, rfl, hd7⟩
    have hc7 := bthen hc6 hd7
    refine hK.out _ _ (HSF.out _ hc7) ?_
    clear hS
    have hS := HSF.out _ hc7
    clear hK
    try simp only [Act.put, List.setIfInBounds_toArray, List.set_cons_zero, List.set_cons_succ]
    refine wpAnyM_pure (v := ?v25) 25 rfl (by kernel_rfl) (by kernel_rfl) (by kernel_rfl) (by kernel_rfl) (by decide) (fun _ _ _ h => h) (Or.inl ⟨by rfl, ?hy25⟩) hS ?rest25
    case hy25 => intro wq hSw; go_simp; (try with_reducible rfl)
    case rest25 =>
    try simp only [Act.put, List.setIfInBounds_toArray]
    refine wpAnyM_pure (v := ?v26) 26 rfl (by kernel_rfl) (by kernel_rfl) (by kernel_rfl) (by kernel_rfl) (by decide) (fun _ _ _ h => h) (Or.inl ⟨by rfl, ?hy26⟩) hS ?rest26
    case hy26 => intro wq hSw; go_simp; (try with_reducible rfl)
    case rest26 =>
    try simp only [Act.put]
    refine wpAnyM_pure (v := ?v27) 27 rfl (by kernel_rfl) (by kernel_rfl) (by kernel_rfl) (by kernel_rfl) (by decide) (fun _ _ _ h => h) (Or.inl ⟨by rfl, ?hy27⟩) hS ?rest27
    case hy27 => intro wq hSw; go_simp; (try with_reducible rfl)
    case rest27 =>
    try simp only [Act.put]
    refine wpAnyM_pure (v := ?v28) 28 rfl (by kernel_rfl) (by kernel_rfl) (by kernel_rfl) (by kernel_rfl) (by decide) (fun _ _ _ h => h) (Or.inl ⟨by rfl, ?hy28⟩) hS ?rest28
    case hy28 => intro wq hSw; go_simp; (try with_reducible rfl)
    case rest28 =>
    try simp only [Act.put]
    refine wpAnyM_one 29 rfl (by kernel_rfl) (fun K hK => ?_)
    go_simp
    go_at_call 6
    refine (alive_any _).mono ?_
    rintro e u8 ⟨rfl, hd8⟩
    have hc8 := bthen hc7 hd8
    refine hK.out _ _ (HSF.out _ hc8) ?_
    clear hS
    have hS := HSF.out _ hc8
    clear hK
    try simp only [Act.put, List.setIfInBounds_toArray, List.set_cons_zero, List.set_cons_succ]
    refine wpAnyM_pure (v := ?v30) 30 rfl (by kernel_rfl) (by kernel_rfl) (by kernel_rfl) (by kernel_rfl) (by decide) (fun _ _ _ h => h) (Or.inl ⟨by rfl, ?hy30⟩) hS ?rest30
    case hy30 => intro wq hSw; go_simp; (try with_reducible rfl)
    case rest30 =>
    try simp only [Act.put, List.setIfInBounds_toArray]
    refine wpAnyM_tail rfl (by decide) (by decide) (by kernel_rfl) ?_
    simp only [List.drop_succ_cons, List.drop_zero]
    have HC8 := Lib.hid hc8
    have HRL8 := Lib.hid (fun W (hW : Below w4.heap.size w4 W) => HRL.out x y W (HL2'.out.call (bthen HB3.out (bthen HB4.out hW))))
    clear hS hd1 hd2 hd3 hd4 hd5 hd6 hd7 hd8 hc0 hc1 hc2 hc3 hc4 hc5 hc6 hc7 hc8 HSF HR1' HL1' HL2'' HL3' HCO'' HAL'' HR1 HR2 HL1 HL2 HL3 HCO' HAL' HRL
    obtain ⟨BR, hBR⟩ : ∃ B, rteC n = B := ⟨_, rfl⟩
    obtain ⟨DR, hDR⟩ : ∃ B, rightC L = B := ⟨_, rfl⟩
    have hfc : findC n L = (BR && DR) := by rw [← hBR, ← hDR]; rfl
    have HBR := Lib.hid hBR
    have HDR := Lib.hid hDR
    simp only [hBR] at HR2'
    simp only [hDR] at HRL8
    clear hBR hDR
    have hcase : (findC n L = false ∧ ts.length = 0 ∧ er = 1) ∨ (findC n L = true ∧ er = 0 ∧ proj ts = n.find L [] ∧ HasTgts w4 fa fc ts) := by
      rcases HQ4.out with ⟨h1, rfl, h3⟩ | h
      · exact .inl ⟨h1, rfl, h3⟩
      · exact .inr h
    rw [hfc] at hcase
    obtain ⟨c0, c1, c2, c3, c4, c5, c6, c7, c8⟩ := HAC.out _ (bthen HBX4.out HC8.out)
    have HFIN := Lib.hid (bthen HBW4.out HC8.out)
    clear hfc HQ4
    by_cases hbd : (BR && DR) = true
    case neg =>
      have hbf : (BR && DR) = false := by simpa using hbd
      rw [hbf] at hcase
      obtain ⟨-, htl, rfl⟩ : false = false ∧ ts.length = 0 ∧ er = 1 := by
        rcases hcase with h | h
        · exact h
        · exact absurd h.1 (by decide)
      clear hcase hbd HL4 HF9'
      rw [htl]
      clear htl
      cases BR with
      | false =>
        go_wp2_with (go_at_call 9; refine (HR2'.out _ HC8.out).mono ?_; rintro e w5 ⟨rfl, hb5⟩)
        go_ret
        exact ⟨rfl, bthen HFIN.out hb5⟩
      | true =>
        obtain rfl : DR = false := hbf
        go_wp2_with (first
          | (go_at_call 9; refine (HR2'.out _ HC8.out).mono ?_; rintro e w5 ⟨rfl, hb5⟩)
          | (go_at_call 14; refine (HRL8.out _ (bthen HC8.out hb5)).mono ?_; rintro e w6 ⟨rfl, hb6⟩))
        go_ret
        exact ⟨rfl, bthen HFIN.out (bthen hb5 hb6)⟩
    case pos =>
    rw [hbd] at hcase
    obtain ⟨-, rfl, hpj, hht⟩ : true = true ∧ er = 0 ∧ proj ts = n.find L [] ∧ HasTgts w4 fa fc ts := by
      rcases hcase with h | h
      · exact absurd h.1 (by decide)
      · exact h
    obtain ⟨rfl, rfl⟩ : BR = true ∧ DR = true := by simpa using hbd
    have HPJ := Lib.hid hpj
    have HHT := Lib.hid hht
    clear hcase hbd hpj hht
    go_upto_region 9 with (first
      | (go_at_call 9; refine (HR2'.out _ HC8.out).mono ?_; rintro e w5 ⟨rfl, hb5⟩)
      | (go_at_call 14; refine (HRL8.out _ (bthen HC8.out hb5)).mono ?_; rintro e w6 ⟨rfl, hb6⟩))
    have hb46 := bthen HC8.out (bthen hb5 hb6)
    have HW6 := Lib.hid hb46
    have hf9 := HF9'.out HBR.out HDR.out x y w6 (bthen HBW4.out hb46) (HL2'.out.call (bthen HB3.out (bthen HB4.out hb46)))
    have HF9'' := Lib.hid hf9
    clear c0 c1 c2 c3 c4 c5 c6 c7 c8 hf9 hb5 hb6 HRL8 HR2' HF9'
    obtain ⟨c0, c1, c2, c3, c4, c5, c6, c7, c8⟩ := HAC.out _ (bthen HBX4.out hb46)
    clear hb46
    go_upto_region 10 with (go_at_call 15; refine HF9''.out.mono ?_; rintro e w7 ⟨g7, c7', us, rfl, hg7, hgl7, hp7, ho7, hr7, hlc7, hcm7, hb7⟩)
    clear c0 c1 c2 c3 c4 c5 c6 c7 c8 hg7
    obtain ⟨hlen, hel⟩ := proj_get (ts := ts) (us := us) (HPJ.out.trans hp7.symm)
    have hT := HHT.out.call (bthen HW6.out hb7)
    have hU := hr7.has hgl7 hlc7 hcm7 (fun t ht => (ho7 t ht).call hb7)
    have HT := Lib.hid hT
    have HU := Lib.hid hU
    have HEL := Lib.hid hel
    have HLEN := Lib.hid hlen
    have HB7 := Lib.hid (bthen HBW4.out (bthen HW6.out hb7))
    have hts := hT.1
    have htc := hT.2.1
    unfold maxLen at htc hcm7
    have q1 := natEqR hlen
    clear hT hU hel hp7 ho7 hr7 hgl7 hb7
    obtain ⟨TL, hTL⟩ : ∃ TL, ts.length = TL := ⟨_, rfl⟩
    have hUL : us.length = TL := by rw [← hlen, hTL]
    rw [hTL, hUL] at q1
    rw [hTL] at hts hlen
    rw [hUL] at hlc7 hlen ⊢
    rw [hTL]
    clear hlen
    have HTL := Lib.hid hTL
    have HUL := Lib.hid hUL
    clear hTL hUL
    go_wp2_with fail
    clear q1
    go_loopg [89, 10] TL (fun gg iv _ wr => ∃ k : Nat, k + gg = TL ∧ iv = .int .i64 (k : Int) ∧ Below w7.heap.size w7 wr)
    case atStart => exact ⟨0, by omega, rfl, Below.refl _ _⟩
    case round =>
      obtain ⟨k, hkg, rfl, hbr⟩ := hrel
      cases gk with
      | zero =>
        go_wp2_with fail
        go_ret
        exact ⟨rfl, bthen HB7.out hbr⟩
      | succ gg =>
        have hkl : k < TL := by omega
        have hk1 : k < ts.length := by rw [HTL.out]; exact hkl
        have hk2 : k < us.length := by rw [HUL.out]; exact hkl
        obtain ⟨hs1, hs2⟩ := HEL.out k hk1 hk2
        obtain ⟨fb, fo, rfl, hx⟩ : ∃ b off, fa = some ⟨b, off, none⟩ ∧ TgtLies w7 b (off + k * 10) ts[k] := by
          rcases HT.out.2.2.2 with h | ⟨b, off, h1, _, h3⟩
          · rw [h] at hk1; simp at hk1
          · exact ⟨b, off, h1, h3 k hk1⟩
        obtain ⟨gb, go', he, hy⟩ : ∃ b off, (some ⟨g7, 0, none⟩ : Option Addr) = some ⟨b, off, none⟩ ∧ TgtLies w7 b (off + k * 10) us[k] := by
          rcases HU.out.2.2.2 with h | ⟨b, off, h1, _, h3⟩
          · rw [h] at hk2; simp at hk2
          · exact ⟨b, off, h1, h3 k hk2⟩
        simp only [Option.some.injEq, Addr.mk.injEq, and_true] at he
        obtain ⟨rfl, rfl⟩ := he
        have ht1 := (HT.out.2.2.1 _ (List.getElem_mem hk1)).call hbr
        have hu1 := (HU.out.2.2.1 _ (List.getElem_mem hk2)).call hbr
        generalize ts[k] = t at *
        generalize us[k] = v at *
        have hlk := fun W (hW : Below wr.heap.size wr W) => like9_same (ht1.call hW) (hu1.call hW) hs2
        have HLK := Lib.hid hlk
        have hx0 := cellL hbr hx.1
        obtain ⟨e0, e1, e2, e3, e4, e5, e6, e7, e8⟩ := hx.2.call hbr
        have hy0 := cellL hbr hy.1
        obtain ⟨d0, d1, d2, d3, d4, d5, d6, d7, d8⟩ := hy.2.call hbr
        clear hx hy ht1 hu1 hlk hk1 hk2
        have HBR := Lib.hid hbr
        clear hbr
        obtain ⟨tp, tn, ta, tc, tba, tbc, tua, tuc, tka, tkc⟩ := t
        obtain ⟨vp, vn, va, vc, vba, vbc, vua, vuc, vka, vkc⟩ := v
        simp only [tCells] at *
        subst hs1 hs2
        rw [Nat.zero_add] at hy0 d0 d1 d2 d3 d4 d5 d6 d7 d8
        have hpp : (tp.toList == tp.toList) = true := by simp
        have q2 : (k : Int) < (TL : Int) := by omega
        have l0 := fun x => later_cell hx0 x
        have l1 := fun x => later_cell e0 x
        have l2 := fun x => later_cell e1 x
        have l3 := fun x => later_cell e2 x
        have l4 := fun x => later_cell e3 x
        have l5 := fun x => later_cell e4 x
        have l6 := fun x => later_cell e5 x
        have l7 := fun x => later_cell e6 x
        have l8 := fun x => later_cell e7 x
        have l9 := fun x => later_cell e8 x
        have k0 := fun x => later_cell hy0 x
        have k1 := fun x => later_cell d0 x
        have k2 := fun x => later_cell d1 x
        have k3 := fun x => later_cell d2 x
        have k4 := fun x => later_cell d3 x
        have k5 := fun x => later_cell d4 x
        have k6 := fun x => later_cell d5 x
        have k7 := fun x => later_cell d6 x
        have k8 := fun x => later_cell d7 x
        have k9 := fun x => later_cell d8 x
        clear e0 e1 e2 e3 e4 e5 e6 e7 e8 d0 d1 d2 d3 d4 d5 d6 d7 d8 hx0 hy0
        go_upto_region 15 with fail
        refine wp_region_later (by kernel_rfl) (by kernel_rfl) ?_
        repeat (go_big_quiet_step (first | (go_at_call 11; exact calls_later (HLK.out _ (later_below _ _)))))
        refine wpQuiet_nil ?_
        rintro _ ⟨xx, rfl⟩
        have hb8 := HBR.out.trans ((later_below wr xx).mono HBR.out.size)
        generalize later wr xx = w9 at *
        clear l0 l1 l2 l3 l4 l5 l6 l7 l8 l9 k0 k1 k2 k3 k4 k5 k6 k7 k8 k9
        go_wp2_with fail
        go_roundg gg
        case measure => omega
        case rel => exact ⟨k + 1, by omega, by go_num, hb8⟩
end Go.Proofs.YtmhehojjlacfoaaDoor
