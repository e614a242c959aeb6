/- A rule that came in, by value. -/
import Derived.Test.YtmhekhilgllciaaGreatRulB
import Derived.Test.YtmhekhilgllciaaGreatLabs
import Derived.ProofKit
import Derived.OpenShut
import Derived.Lib.SmallJoins
import Derived.Test.YtmhekhilgllciaaGreatMg1
import Derived.Deep.SlicePairs
import Derived.Deep.Strs
import Derived.Test.YtmhekhilgllciaaGreatRows
import Derived.Test.YtmhekhilgllciaaGreatMg2
import Derived.Test.YtmhekhilgllciaaGreatInfo
import Derived.Test.YtmhekhilgllciaaGreatMg8
namespace Go.Proofs.YtmhekhilgllciaaGreat
open Go.RowKit Go.ChangeShapes Go.WideShapes Go.Joins

theorem array8 {α : Type} {cs : Array α} (h : cs.size = 8) : ∃ c0 c1 c2 c3 c4 c5 c6 c7, cs = #[c0, c1, c2, c3, c4, c5, c6, c7] := by
  obtain ⟨l⟩ := cs
  match l, h with
  | [c0, c1, c2, c3, c4, c5, c6, c7], _ => exact ⟨c0, c1, c2, c3, c4, c5, c6, c7, rfl⟩
set_option maxRecDepth 100000 in
theorem cellsRule : Tryz.prog.cellsOf 45 = 8 := by kernel_rfl
set_option maxRecDepth 100000 in
theorem cellsStrR : Tryz.prog.cellsOf 9 = 1 := by kernel_rfl
set_option maxRecDepth 100000 in
theorem cellsIntR : Tryz.prog.cellsOf 3 = 1 := by kernel_rfl
set_option maxRecDepth 100000 in
theorem cellsLabsR : Tryz.prog.cellsOf 43 = 1 := by kernel_rfl
set_option maxRecDepth 100000 in
theorem rulArg_of {H : Type} {enc : TypeId × Value → H} {W : World} {base b0 : Nat} {r : Reach} {spare : Nat → Bool} {held : Bool} {v : Value} {d : DataW H} {p : List MemPlace}
    (hv : Value.okWide Tryz.prog W r b0 45 v) (h : DataW.Trod enc Tryz.prog W base spare held 45 v d p) : ∃ r a c, v = .agg (rCells r a c) ∧ RulAt W r a c := by
  obtain ⟨cs, rfl, hsz⟩ := okWide_struct Tryz.underlying45 hv
  obtain ⟨v0, v1, v2, v3, v4, v5, v6, v7, rfl⟩ := array8 (hsz.trans cellsRule)
  obtain ⟨fuel, hf⟩ := h
  obtain ⟨xs, n, _, _, hl, hlen, hf⟩ := DataW.trod_struct Tryz.underlying45 hf
  have g0 := hf 0 _ rfl
  have g1 := hf 1 _ rfl
  have g2 := hf 2 _ rfl
  have g3 := hf 3 _ rfl
  have g4 := hf 4 _ rfl
  have g5 := hf 5 _ rfl
  have g6 := hf 6 _ rfl
  have g7 := hf 7 _ rfl
  clear hf
  match xs, hlen with
  | [y0, y1, y2, y3, y4, y5, y6, y7], _ =>
    simp [Value.cells, cellsStrR, cellsIntR, cellsLabsR] at g0 g1 g2 g3 g4 g5 g6 g7
    obtain ⟨s, e0, _, hs⟩ := DataW.trod_string Tryz.underlying9 g0
    obtain ⟨m, e1, _, hm⟩ := DataW.trod_string Tryz.underlying9 g1
    obtain ⟨z2, e2, _, _⟩ := DataW.trod_int Tryz.underlying3 g2
    obtain ⟨z3, e3, _, _⟩ := DataW.trod_int Tryz.underlying3 g3
    obtain ⟨z4, e4, _, _⟩ := DataW.trod_int Tryz.underlying3 g4
    obtain ⟨z5, e5, _, _⟩ := DataW.trod_int Tryz.underlying3 g5
    obtain ⟨z6, e6, _, _⟩ := DataW.trod_int Tryz.underlying3 g6
    obtain ⟨a7, l7, c7, e7⟩ := slice_form Tryz.underlying43 g7
    simp only [List.cons.injEq, and_true] at e0 e1 e2 e3 e4 e5 e6 e7
    subst e0 e1 e2 e3 e4 e5 e6 e7
    obtain ⟨ls, hl2, hls⟩ := labArg_of Tryz.underlying43 Tryz.underlying124 Tryz.underlying9 (by kernel_rfl) rfl rfl (by kernel_rfl) (by kernel_rfl) rfl rfl (show DataW.Trod enc Tryz.prog W base spare held 43 (.slice a7 l7 c7) y7.1 y7.2 from ⟨n, g7⟩)
    subst hl2
    exact ⟨⟨s, m, z2, z3, z4, z5, z6, ls⟩, a7, c7, rfl, hls, hs, hm⟩
end Go.Proofs.YtmhekhilgllciaaGreat
/- A slice of matchers that came in. -/
namespace Go.Proofs.YtmhekhilgllciaaGreat
open Go.RowKit Go.ChangeShapes Go.WideShapes Go.Deep Go.Joins

set_option maxRecDepth 100000 in
theorem cellsMat : Tryz.prog.cellsOf 97 = 3 := by kernel_rfl
set_option maxRecDepth 100000 in
theorem matsArg_of {H : Type} {enc : TypeId × Value → H} {w : World} {base : Nat} {spare : Nat → Bool} {held : Bool} {a : Option Addr} {len cap : Nat} {d : DataW H} {ps : List MemPlace}
    (h : DataW.Trod enc Tryz.prog w base spare held 23 (.slice a len cap) d ps) : ∃ ms : List Mat, ms.length = len ∧ HasMats w a cap ms := by
  obtain ⟨fuel, hf⟩ := h
  rcases open_slice Tryz.underlying23 hf with ⟨hcs, _⟩ | ⟨x, l, c, m, n, D, Pl, hcs, _, hl, hm, hmm, _, hx⟩
  · simp [Value.cells] at hcs
    obtain ⟨rfl, rfl, rfl⟩ := hcs
    exact ⟨[], rfl, HasMats.nil _ _ _ (by unfold maxLen; omega)⟩
  · simp [Value.cells] at hcs
    obtain ⟨rfl, rfl, rfl⟩ := hcs
    have hlm : len ≤ m := by rw [hmm]; split <;> omega
    have each : ∀ i, i < m → ∃ q : Mat × Option Addr × Nat, (w.cell? (x.add (i * 3)) = some (.string q.1.name) ∧ w.cell? (x.add (i * 3 + 1)) = some (.int .i64 q.1.how) ∧ w.cell? (x.add (i * 3 + 2)) = some (.slice q.2.1 q.1.words.length q.2.2)) ∧
        HasStrs w q.2.1 q.2.2 q.1.words ∧ q.1.name.size ≤ maxLen ∧ (Lit.int .i64 q.1.how).wf = true := by
      intro i hi
      obtain ⟨cs', h1, h2⟩ := hx i hi
      rw [cellsMat] at h1
      obtain ⟨_, hlen, hcell⟩ := World.cells?_some h1
      obtain ⟨y0, y1, y2, k, _, _, g0, g1, g2⟩ := trod_struct3 Tryz.underlying97 h2
      match cs', hlen with
      | [v0, v1, v2], _ =>
        have e0 := hcell 0 (by omega)
        have e1 := hcell 1 (by omega)
        have e2 := hcell 2 (by omega)
        rw [add_add] at e0 e1 e2
        have c1 : Tryz.prog.cellsOf 9 = 1 := by kernel_rfl
        have c2 : Tryz.prog.cellsOf 3 = 1 := by kernel_rfl
        have c3 : Tryz.prog.cellsOf 24 = 1 := by kernel_rfl
        simp [c1, c2, c3] at g0 g1 g2
        obtain ⟨s, q0, _, hs⟩ := DataW.trod_string Tryz.underlying9 g0
        obtain ⟨z, q1, _, hz⟩ := DataW.trod_int Tryz.underlying3 g1
        obtain ⟨a', l', c', q2⟩ := slice_form Tryz.underlying24 g2
        simp only [List.cons.injEq, and_true] at q0 q1 q2
        subst q0 q1 q2
        obtain ⟨ss, hsl, hss⟩ := strArg_of Tryz.underlying24 Tryz.underlying9 (by kernel_rfl) (show DataW.Trod enc Tryz.prog w base spare held 24 (.slice a' l' c') y2.1 y2.2 from ⟨_, g2⟩)
        subst hsl
        exact ⟨(⟨s, z, ss⟩, a', c'), ⟨by simpa using e0, by simpa using e1, by simpa using e2⟩, hss, hs, hz⟩
    haveI : Inhabited (Mat × Option Addr × Nat) := ⟨(⟨.empty, 0, []⟩, none, 0)⟩
    obtain ⟨f, hfun⟩ := choose_lt each
    by_cases h0 : len = 0
    · subst h0; exact ⟨[], rfl, HasMats.nil _ _ _ hm⟩
    · obtain ⟨b, off, spot⟩ := x
      have c00 := (hfun 0 (by omega)).1.1
      have hspot : spot = none := by simpa [Addr.add] using World.cell?_spot c00
      subst hspot
      have eadd : ∀ k, (⟨b, off, none⟩ : Addr).add k = ⟨b, off + k, none⟩ := fun k => by unfold Addr.add; split <;> simp_all
      refine ⟨(List.range len).map fun i => (f i).1, by simp, by simpa using hl, hm, .inr ⟨b, off, rfl, ?_, fun i hi => ?_⟩⟩
      · have := World.block_lt_of_cell? w _ c00
        simpa [Addr.add] using this
      · have hi' : i < len := by simpa using hi
        obtain ⟨⟨e0, e1, e2⟩, e3, e4, e5⟩ := hfun i (by omega)
        rw [eadd] at e0 e1 e2
        rw [← Nat.add_assoc] at e1 e2
        refine ⟨(f i).2.1, (f i).2.2, ⟨?_, ?_, ?_⟩, ?_, ?_, ?_⟩
        · rw [e0]; simp
        · rw [e1]; simp
        · rw [e2]; simp
        · simpa using e3
        · simpa using e4
        · simpa using e5
end Go.Proofs.YtmhekhilgllciaaGreat
/- What the bound of an '..UptoSaid' gives: how long what came in may be. -/
namespace Go.Proofs.YtmhekhilgllciaaGreat
open Go.ChangeShapes Go.WideShapes Go.Deep

theorem bulk_pos {H : Type} (d : DataW H) : 1 ≤ Rows.uptoBulk d := by
  cases d with
  | lit l => cases l <;> simp [Rows.uptoBulk]
  | slice e s => simp only [Rows.uptoBulk]; omega
  | _ => simp [Rows.uptoBulk]
theorem bulk_mem {H : Type} {d : DataW H} : ∀ {l : List (DataW H)}, d ∈ l → Rows.uptoBulk d ≤ Rows.uptoBulkAll l
  | [], h => by cases h
  | x :: l, h => by
    simp only [Rows.uptoBulkAll]
    rcases List.mem_cons.1 h with rfl | h
    · exact Nat.le_add_right _ _
    · exact Nat.le_trans (bulk_mem h) (Nat.le_add_left _ _)
theorem bulk_len {H : Type} : ∀ (l : List (DataW H)), l.length ≤ Rows.uptoBulkAll l
  | [] => Nat.zero_le _
  | x :: l => by
    have := bulk_pos x
    have := bulk_len l
    simp only [Rows.uptoBulkAll, List.length_cons]
    omega
theorem bulk_row {H : Type} (e s : List (DataW H)) : Rows.uptoBulkAll e ≤ Rows.uptoBulk (.slice e s) := by simp only [Rows.uptoBulk]; omega
theorem bulk_part {H : Type} {d : DataW H} {l : List (DataW H)} (h : d ∈ l) : Rows.uptoBulk d ≤ Rows.uptoBulk (.agg l) := by
  have := bulk_mem h
  simp only [Rows.uptoBulk]
  omega
/-- a slice has no more elements than its reading's bulk -/
theorem bulk_slice {H : Type} {enc : TypeId × Value → H} {P : Program} {w : World} {base : Nat} {spare : Nat → Bool} {held : Bool} {t e : TypeId} {fuel : Nat} {a : Option Addr} {l c : Nat} {x : DataW H × List MemPlace}
    (ht : P.underlying t = some (.slice e)) (h : DataW.trod enc P w base spare held fuel t [.slice a l c] = some x) : l ≤ Rows.uptoBulk x.1 := by
  rcases open_slice ht h with ⟨hcs, _⟩ | ⟨x', l', c', m, n, D, Pl, hcs, _, _, _, _, hy, _⟩
  · simp at hcs
    omega
  · simp at hcs
    obtain ⟨rfl, rfl, rfl⟩ := hcs
    rw [hy]
    have h1 := bulk_len ((List.range l).map D)
    have h2 := bulk_row ((List.range l).map D) ((List.range (m - l)).map fun j => D (l + j))
    simp only [List.length_map, List.length_range] at h1
    exact Nat.le_trans h1 h2
/-- a string has fewer letters than that -/
theorem bulk_string {H : Type} {x : DataW H × List MemPlace} {s : ByteArray} (h : x = (.lit (.string s.data.toList), [])) : s.size ≤ Rows.uptoBulk x.1 := by
  subst h
  simp only [Rows.uptoBulk]
  show s.data.toList.length ≤ _
  omega
end Go.Proofs.YtmhekhilgllciaaGreat
/- A route that came in, by value. -/
namespace Go.Proofs.YtmhekhilgllciaaGreat
open Go.RowKit Go.ChangeShapes Go.WideShapes Go.Deep Go.Joins

set_option maxRecDepth 100000 in
theorem cellsRt : Tryz.prog.cellsOf 27 = 9 := by kernel_rfl
set_option maxRecDepth 100000 in
theorem cellsRtStr : Tryz.prog.cellsOf 9 = 1 := by kernel_rfl
set_option maxRecDepth 100000 in
theorem cellsRtInt : Tryz.prog.cellsOf 3 = 1 := by kernel_rfl
set_option maxRecDepth 100000 in
theorem cellsRtBool : Tryz.prog.cellsOf 4 = 1 := by kernel_rfl
set_option maxRecDepth 100000 in
theorem cellsRtStrs : Tryz.prog.cellsOf 24 = 1 := by kernel_rfl
set_option maxRecDepth 100000 in
theorem cellsRtMats : Tryz.prog.cellsOf 23 = 1 := by kernel_rfl
set_option maxRecDepth 100000 in
theorem cellsRts : Tryz.prog.cellsOf 25 = 1 := by kernel_rfl

set_option maxRecDepth 100000 in
/-- the nine cells of a route, opened; what reads the routes within it is left -/
theorem rt_cells {H : Type} {enc : TypeId × Value → H} {w : World} {base : Nat} {spare : Nat → Bool} {held : Bool} {fuel : Nat} {v0 v1 v2 v3 v4 v5 v6 v7 v8 : Value} {y : DataW H × List MemPlace}
    (h : DataW.trod enc Tryz.prog w base spare held fuel 27 [v0, v1, v2, v3, v4, v5, v6, v7, v8] = some y) (hU : Rows.uptoBulk y.1 ≤ 1048576) :
    ∃ (q : RtAt) (l : Nat) (z : DataW H × List MemPlace) (n : Nat), v0 = .string q.n.recv ∧ v1 = .slice q.ma q.n.ms.length q.mc ∧ v2 = .slice q.ba q.n.bys.length q.bc ∧ v3 = .int .i64 q.n.wait ∧ v4 = .int .i64 q.n.every ∧ v5 = .int .i64 q.n.rep ∧
      v6 = .slice q.ua q.n.mute.length q.uc ∧ v7 = .bool q.n.on ∧ v8 = .slice q.ka l q.kc ∧ q.own w ∧ SizeOf.sizeOf z.1 < SizeOf.sizeOf y.1 ∧ Rows.uptoBulk z.1 ≤ 1048576 ∧ DataW.trod enc Tryz.prog w base spare held n 25 [.slice q.ka l q.kc] = some z := by
  obtain ⟨xs, n, _, hy, _, hlen, hf⟩ := DataW.trod_struct Tryz.underlying27 h
  have g0 := hf 0 _ rfl
  have g1 := hf 1 _ rfl
  have g2 := hf 2 _ rfl
  have g3 := hf 3 _ rfl
  have g4 := hf 4 _ rfl
  have g5 := hf 5 _ rfl
  have g6 := hf 6 _ rfl
  have g7 := hf 7 _ rfl
  have g8 := hf 8 _ rfl
  clear hf
  match xs, hlen with
  | [y0, y1, y2, y3, y4, y5, y6, y7, y8], _ =>
    simp [cellsRtStr, cellsRtInt, cellsRtBool, cellsRtStrs, cellsRtMats, cellsRts] at g0 g1 g2 g3 g4 g5 g6 g7 g8
    obtain ⟨s, e0, es, _⟩ := DataW.trod_string Tryz.underlying9 g0
    obtain ⟨a1, l1, c1, e1⟩ := slice_form Tryz.underlying23 g1
    obtain ⟨a2, l2, c2, e2⟩ := slice_form Tryz.underlying24 g2
    obtain ⟨z3, e3, _, w3⟩ := DataW.trod_int Tryz.underlying3 g3
    obtain ⟨z4, e4, _, w4⟩ := DataW.trod_int Tryz.underlying3 g4
    obtain ⟨z5, e5, _, w5⟩ := DataW.trod_int Tryz.underlying3 g5
    obtain ⟨a6, l6, c6, e6⟩ := slice_form Tryz.underlying24 g6
    obtain ⟨b7, e7, _⟩ := DataW.trod_bool Tryz.underlying4 g7
    obtain ⟨a8, l8, c8, e8⟩ := slice_form Tryz.underlying25 g8
    simp only [List.cons.injEq, and_true] at e0 e1 e2 e3 e4 e5 e6 e7 e8
    subst e0 e1 e2 e3 e4 e5 e6 e7 e8
    obtain ⟨ms, hm1, hms⟩ := matsArg_of (show DataW.Trod enc Tryz.prog w base spare held 23 (.slice a1 l1 c1) y1.1 y1.2 from ⟨_, g1⟩)
    obtain ⟨bs, hb1, hbs⟩ := strArg_of Tryz.underlying24 Tryz.underlying9 cellsRtStr (show DataW.Trod enc Tryz.prog w base spare held 24 (.slice a2 l2 c2) y2.1 y2.2 from ⟨_, g2⟩)
    obtain ⟨us, hu1, hus⟩ := strArg_of Tryz.underlying24 Tryz.underlying9 cellsRtStr (show DataW.Trod enc Tryz.prog w base spare held 24 (.slice a6 l6 c6) y6.1 y6.2 from ⟨_, g6⟩)
    subst hm1 hb1 hu1
    have hD1 : y.1 = .agg [y0.1, y1.1, y2.1, y3.1, y4.1, y5.1, y6.1, y7.1, y8.1] := congrArg Prod.fst hy
    have hpart : ∀ d ∈ [y0.1, y1.1, y2.1, y3.1, y4.1, y5.1, y6.1, y7.1, y8.1], Rows.uptoBulk d ≤ 1048576 := fun d hd => Nat.le_trans (bulk_part hd) (by rw [← hD1]; exact hU)
    have u0 := Nat.le_trans (bulk_string es) (hpart y0.1 (by simp))
    have u1 := Nat.le_trans (bulk_slice Tryz.underlying23 g1) (hpart y1.1 (by simp))
    have u2 := Nat.le_trans (bulk_slice Tryz.underlying24 g2) (hpart y2.1 (by simp))
    have u6 := Nat.le_trans (bulk_slice Tryz.underlying24 g6) (hpart y6.1 (by simp))
    refine ⟨⟨.mk s ms bs z3 z4 z5 us b7 [], a1, c1, a2, c2, a6, c6, a8, c8⟩, l8, y8, n, rfl, rfl, rfl, rfl, rfl, rfl, rfl, rfl, rfl, ⟨hms, hbs, hus, u0, ⟨w3, w4, w5⟩, u1, u2, u6⟩, ?_, hpart y8.1 (by simp), g8⟩
    rw [hD1]
    simp only [DataW.agg.sizeOf_spec]
    have : SizeOf.sizeOf y8.1 < SizeOf.sizeOf [y0.1, y1.1, y2.1, y3.1, y4.1, y5.1, y6.1, y7.1, y8.1] := List.sizeOf_lt_of_mem (by simp)
    omega

/-- a route with those within it put in -/
def Rt.put : Rt → List Rt → Rt | .mk r m b a e p u o _, xs => .mk r m b a e p u o xs
def RtAt.put (q : RtAt) (xs : List Rt) : RtAt := ⟨q.n.put xs, q.ma, q.mc, q.ba, q.bc, q.ua, q.uc, q.ka, q.kc⟩
theorem put_recv (n : Rt) (xs : List Rt) : (n.put xs).recv = n.recv := by cases n; rfl
theorem put_ms (n : Rt) (xs : List Rt) : (n.put xs).ms = n.ms := by cases n; rfl
theorem put_bys (n : Rt) (xs : List Rt) : (n.put xs).bys = n.bys := by cases n; rfl
theorem put_wait (n : Rt) (xs : List Rt) : (n.put xs).wait = n.wait := by cases n; rfl
theorem put_every (n : Rt) (xs : List Rt) : (n.put xs).every = n.every := by cases n; rfl
theorem put_rep (n : Rt) (xs : List Rt) : (n.put xs).rep = n.rep := by cases n; rfl
theorem put_mute (n : Rt) (xs : List Rt) : (n.put xs).mute = n.mute := by cases n; rfl
theorem put_on (n : Rt) (xs : List Rt) : (n.put xs).on = n.on := by cases n; rfl
theorem put_kids (n : Rt) (xs : List Rt) : (n.put xs).kids = xs := by cases n; rfl
theorem RtAt.own.put {w : World} {q : RtAt} (h : q.own w) (xs : List Rt) : (q.put xs).own w := by
  obtain ⟨⟨r, m, b, a, e, p, u, o, k⟩, _⟩ := q
  exact h
set_option maxRecDepth 100000 in
theorem rts_of {H : Type} {enc : TypeId × Value → H} {w : World} {base : Nat} {spare : Nat → Bool} {held : Bool} (N : Nat) : ∀ (fuel : Nat) (a : Option Addr) (len cap : Nat) (y : DataW H × List MemPlace), SizeOf.sizeOf y.1 ≤ N → Rows.uptoBulk y.1 ≤ 1048576 →
    DataW.trod enc Tryz.prog w base spare held fuel 25 [.slice a len cap] = some y → ∃ xs : List Rt, xs.length = len ∧ HasRts w a cap xs := by
  induction N with
  | zero =>
    intro fuel a len cap y hN _
    exfalso
    have : 0 < SizeOf.sizeOf y.1 := by cases y.1 <;> simp <;> omega
    omega
  | succ N ih =>
    intro fuel a len cap y hN hU hf
    rcases open_slice Tryz.underlying25 hf with ⟨hcs, _⟩ | ⟨x, l, c, m, n, D, Pl, hcs, _, hl, hm, hmm, hy, hx⟩
    · simp at hcs
      obtain ⟨rfl, rfl, rfl⟩ := hcs
      exact ⟨[], rfl, HasRts.nil _ _ _ (by unfold maxLen; omega)⟩
    · simp at hcs
      obtain ⟨rfl, rfl, rfl⟩ := hcs
      have hlm : len ≤ m := by rw [hmm]; split <;> omega
      have each : ∀ i, i < len → ∃ q : RtAt, (∀ b off, x = ⟨b, off, none⟩ → q.lies w b (off + i * 9)) ∧ (w.cell? (x.add (i * 9)) = some (.string q.n.recv)) ∧ q.ok w := by
        intro i hi
        have hsz : SizeOf.sizeOf (D i) < SizeOf.sizeOf y.1 := by
          rw [hy]
          simp only [DataW.slice.sizeOf_spec]
          have : SizeOf.sizeOf (D i) < SizeOf.sizeOf ((List.range len).map D) := List.sizeOf_lt_of_mem (List.mem_map.2 ⟨i, by simpa using hi, rfl⟩)
          omega
        have hbk : Rows.uptoBulk (D i) ≤ 1048576 := by
          rw [hy] at hU
          exact Nat.le_trans (Nat.le_trans (bulk_mem (List.mem_map.2 ⟨i, by simpa using hi, rfl⟩)) (bulk_row _ _)) hU
        obtain ⟨cs', h1, h2⟩ := hx i (by omega)
        rw [cellsRt] at h1
        obtain ⟨_, hlen, hcell⟩ := World.cells?_some h1
        match cs', hlen with
        | [v0, v1, v2, v3, v4, v5, v6, v7, v8], _ =>
          have e0 := hcell 0 (by omega)
          have e1 := hcell 1 (by omega)
          have e2 := hcell 2 (by omega)
          have e3 := hcell 3 (by omega)
          have e4 := hcell 4 (by omega)
          have e5 := hcell 5 (by omega)
          have e6 := hcell 6 (by omega)
          have e7 := hcell 7 (by omega)
          have e8 := hcell 8 (by omega)
          rw [add_add] at e0 e1 e2 e3 e4 e5 e6 e7 e8
          obtain ⟨q, l, z, k, rfl, rfl, rfl, rfl, rfl, rfl, rfl, rfl, rfl, hq, hz, hzu, h3⟩ := rt_cells h2 hbk
          obtain ⟨xs, hxl, hxs⟩ := ih _ q.ka l q.kc z (by have hh : SizeOf.sizeOf (D i, Pl i).1 = SizeOf.sizeOf (D i) := rfl; omega) hzu h3
          subst hxl
          refine ⟨q.put xs, fun b off e => ?_, by simpa [RtAt.put, put_recv] using e0, RtAt.of_rts (hq.put xs) (by simpa [RtAt.put, put_kids] using hxs)⟩
          subst e
          have eadd : ∀ k, (⟨b, off, none⟩ : Addr).add k = ⟨b, off + k, none⟩ := fun k => by unfold Addr.add; split <;> simp_all
          rw [eadd] at e0 e1 e2 e3 e4 e5 e6 e7 e8
          rw [← Nat.add_assoc] at e1 e2 e3 e4 e5 e6 e7 e8
          refine ⟨?_, ?_, ?_, ?_, ?_, ?_, ?_, ?_, ?_⟩
          · simpa [RtAt.put, put_recv] using e0
          · simpa [RtAt.put, put_ms] using e1
          · simpa [RtAt.put, put_bys] using e2
          · simpa [RtAt.put, put_wait] using e3
          · simpa [RtAt.put, put_every] using e4
          · simpa [RtAt.put, put_rep] using e5
          · simpa [RtAt.put, put_mute] using e6
          · simpa [RtAt.put, put_on] using e7
          · simpa [RtAt.put, put_kids] using e8
      obtain ⟨f, hfun⟩ := choose_lt each
      by_cases h0 : len = 0
      · subst h0; exact ⟨[], rfl, HasRts.nil _ _ _ hm⟩
      · obtain ⟨b, off, spot⟩ := x
        have c00 := (hfun 0 (by omega)).2.1
        have hspot : spot = none := by simpa [Addr.add] using World.cell?_spot c00
        subst hspot
        refine ⟨(List.range len).map fun i => (f i).n, by simp, by simpa using hl, hm, .inr ⟨b, off, rfl, ?_, fun i hi => ?_⟩⟩
        · have := World.block_lt_of_cell? w _ c00
          simpa [Addr.add] using this
        · have hi' : i < len := by simpa using hi
          exact ⟨f i, by simp, (hfun i hi').1 b off rfl, (hfun i hi').2.2⟩
set_option maxRecDepth 100000 in
/-- a route that came in -/
theorem rtArg_of {H : Type} {enc : TypeId × Value → H} {W : World} {base b0 : Nat} {r : Reach} {spare : Nat → Bool} {held : Bool} {v : Value} {d : DataW H} {p : List MemPlace}
    (hv : Value.okWide Tryz.prog W r b0 27 v) (h : DataW.Trod enc Tryz.prog W base spare held 27 v d p) (hU : Rows.uptoBulk d ≤ 1048576) : ∃ q : RtAt, v = .agg (tCells q) ∧ q.ok W := by
  obtain ⟨cs, rfl, hsz⟩ := okWide_struct Tryz.underlying27 hv
  obtain ⟨cs⟩ := cs
  match cs, hsz.trans cellsRt with
  | [v0, v1, v2, v3, v4, v5, v6, v7, v8], _ =>
    obtain ⟨fuel, hf⟩ := h
    obtain ⟨q, l, z, k, rfl, rfl, rfl, rfl, rfl, rfl, rfl, rfl, rfl, hq, _, hzu, h3⟩ := rt_cells (y := (d, p)) (by simpa [Value.cells] using hf) hU
    obtain ⟨xs, hxl, hxs⟩ := rts_of _ _ _ _ _ _ (Nat.le_refl _) hzu h3
    subst hxl
    refine ⟨q.put xs, ?_, RtAt.of_rts (hq.put xs) (by simpa [RtAt.put, put_kids] using hxs)⟩
    simp [tCells, RtAt.put, put_recv, put_ms, put_bys, put_wait, put_every, put_rep, put_mute, put_on, put_kids]
end Go.Proofs.YtmhekhilgllciaaGreat
/- Rows of rules, of hours and of inhibits that came in. -/
namespace Go.Proofs.YtmhekhilgllciaaGreat
open Go.RowKit Go.ChangeShapes Go.WideShapes Go.Deep Go.Joins

/-- a row of things, each of which is read from its cells -/
theorem hasRow_of {A : Type} [Inhabited A] {H : Type} {enc : TypeId × Value → H} {w : World} {base : Nat} {spare : Nat → Bool} {held : Bool} {t et : TypeId} {sz : Nat} (en : A → List Value) (ok : World → A → Prop) (ht : Tryz.prog.underlying t = some (.slice et)) (hsz : Tryz.prog.cellsOf et = sz) (s0 : 0 < sz) (hen : ∀ x, (en x).length = sz)
    (one : ∀ fuel cs (y : DataW H × List MemPlace), cs.length = sz → Rows.uptoBulk y.1 ≤ 1048576 → DataW.trod enc Tryz.prog w base spare held fuel et cs = some y → ∃ x : A, cs = en x ∧ ok w x)
    {fuel : Nat} {a : Option Addr} {len cap : Nat} {y : DataW H × List MemPlace} (hU : Rows.uptoBulk y.1 ≤ 1048576) (hf : DataW.trod enc Tryz.prog w base spare held fuel t [.slice a len cap] = some y) : ∃ xs : List A, xs.length = len ∧ HasRow sz en ok w a cap xs := by
  rcases open_slice ht hf with ⟨hcs, _⟩ | ⟨x, l, c, m, n, D, Pl, hcs, _, hl, hm, hmm, hy, hx⟩
  · simp at hcs
    obtain ⟨rfl, rfl, rfl⟩ := hcs
    exact ⟨[], rfl, Nat.le_refl _, by unfold maxLen; omega, (fun x hx => by cases hx), .inl rfl⟩
  · simp at hcs
    obtain ⟨rfl, rfl, rfl⟩ := hcs
    have hlm : len ≤ m := by rw [hmm]; split <;> omega
    have each : ∀ i, i < len → ∃ q : A, (∀ j, j < sz → w.cell? ((x.add (i * sz)).add j) = (en q)[j]?) ∧ ok w q := by
      intro i hi
      have hbk : Rows.uptoBulk (D i) ≤ 1048576 := by
        rw [hy] at hU
        exact Nat.le_trans (Nat.le_trans (bulk_mem (List.mem_map.2 ⟨i, by simpa using hi, rfl⟩)) (bulk_row _ _)) hU
      obtain ⟨cs', h1, h2⟩ := hx i (by omega)
      rw [hsz] at h1
      obtain ⟨_, hlen, hcell⟩ := World.cells?_some h1
      obtain ⟨q, rfl, hq⟩ := one _ cs' _ hlen hbk h2
      exact ⟨q, hcell, hq⟩
    obtain ⟨f, hfun⟩ := choose_lt each
    by_cases h0 : len = 0
    · subst h0
      exact ⟨[], rfl, Nat.zero_le _, hm, (fun x hx => by cases hx), .inl rfl⟩
    · obtain ⟨b, off, spot⟩ := x
      have c00 := (hfun 0 (by omega)).1 0 s0
      rw [List.getElem?_eq_getElem (by rw [hen]; exact s0)] at c00
      have hspot : spot = none := by simpa [Addr.add] using World.cell?_spot c00
      subst hspot
      have eadd : ∀ b o k, (⟨b, o, none⟩ : Addr).add k = ⟨b, o + k, none⟩ := fun b o k => by unfold Addr.add; split <;> simp_all
      refine ⟨(List.range len).map f, by simp, by simpa using hl, hm, fun z hz => ?_, .inr ⟨b, off, rfl, ?_, fun i hi j u hu => ?_⟩⟩
      · obtain ⟨i, hi, rfl⟩ := List.mem_map.1 hz
        exact (hfun i (by simpa using hi)).2
      · have := World.block_lt_of_cell? w _ c00
        simpa [Addr.add] using this
      · have hi' : i < len := by simpa using hi
        simp only [List.getElem_map, List.getElem_range] at hu
        have hj : j < sz := by rw [← hen (f i)]; exact (List.getElem?_eq_some_iff.1 hu).1
        have := (hfun i hi').1 j hj
        rw [eadd, eadd] at this
        rw [this, hu]
set_option maxRecDepth 100000 in
theorem hrCells : Tryz.prog.cellsOf 57 = 4 := by kernel_rfl
set_option maxRecDepth 100000 in
theorem inCells : Tryz.prog.cellsOf 51 = 3 := by kernel_rfl
set_option maxRecDepth 100000 in
theorem hr_one {H : Type} {enc : TypeId × Value → H} {w : World} {base : Nat} {spare : Nat → Bool} {held : Bool} (fuel : Nat) (cs : List Value) (y : DataW H × List MemPlace) (hl : cs.length = 4) (_ : Rows.uptoBulk y.1 ≤ 1048576)
    (h : DataW.trod enc Tryz.prog w base spare held fuel 57 cs = some y) : ∃ x : HrA, cs = x.enc ∧ HrA.ok w x := by
  match cs, hl with
  | [v0, v1, v2, v3], _ =>
    obtain ⟨xs, n, _, _, _, hlen, hf⟩ := DataW.trod_struct Tryz.underlying57 h
    have g0 := hf 0 _ rfl
    have g1 := hf 1 _ rfl
    have g2 := hf 2 _ rfl
    have g3 := hf 3 _ rfl
    clear hf
    match xs, hlen with
    | [y0, y1, y2, y3], _ =>
      simp [cellsRtStr, cellsRtInt] at g0 g1 g2 g3
      obtain ⟨s, e0, _, hs⟩ := DataW.trod_string Tryz.underlying9 g0
      obtain ⟨z1, e1, _, w1⟩ := DataW.trod_int Tryz.underlying3 g1
      obtain ⟨z2, e2, _, w2⟩ := DataW.trod_int Tryz.underlying3 g2
      obtain ⟨z3, e3, _, w3⟩ := DataW.trod_int Tryz.underlying3 g3
      simp only [List.cons.injEq, and_true] at e0 e1 e2 e3
      subst e0 e1 e2 e3
      exact ⟨⟨s, z1, z2, z3⟩, rfl, hs, w1, w2, w3⟩
set_option maxRecDepth 100000 in
theorem in_one {H : Type} {enc : TypeId × Value → H} {w : World} {base : Nat} {spare : Nat → Bool} {held : Bool} (fuel : Nat) (cs : List Value) (y : DataW H × List MemPlace) (hl : cs.length = 3) (hU : Rows.uptoBulk y.1 ≤ 1048576)
    (h : DataW.trod enc Tryz.prog w base spare held fuel 51 cs = some y) : ∃ x : InA, cs = x.enc ∧ InA.ok w x := by
  match cs, hl with
  | [v0, v1, v2], _ =>
    obtain ⟨xs, n, _, hy, _, hlen, hf⟩ := DataW.trod_struct Tryz.underlying51 h
    have g0 := hf 0 _ rfl
    have g1 := hf 1 _ rfl
    have g2 := hf 2 _ rfl
    clear hf
    match xs, hlen with
    | [y0, y1, y2], _ =>
      simp [cellsRtStrs, cellsRtMats] at g0 g1 g2
      obtain ⟨a0, l0, c0, e0⟩ := slice_form Tryz.underlying23 g0
      obtain ⟨a1, l1, c1, e1⟩ := slice_form Tryz.underlying23 g1
      obtain ⟨a2, l2, c2, e2⟩ := slice_form Tryz.underlying24 g2
      simp only [List.cons.injEq, and_true] at e0 e1 e2
      subst e0 e1 e2
      obtain ⟨ms, hm1, hms⟩ := matsArg_of (show DataW.Trod enc Tryz.prog w base spare held 23 (.slice a0 l0 c0) y0.1 y0.2 from ⟨_, g0⟩)
      obtain ⟨ns, hn1, hns⟩ := matsArg_of (show DataW.Trod enc Tryz.prog w base spare held 23 (.slice a1 l1 c1) y1.1 y1.2 from ⟨_, g1⟩)
      obtain ⟨bs, hb1, hbs⟩ := strArg_of Tryz.underlying24 Tryz.underlying9 cellsRtStr (show DataW.Trod enc Tryz.prog w base spare held 24 (.slice a2 l2 c2) y2.1 y2.2 from ⟨_, g2⟩)
      have hD1 : y.1 = .agg [y0.1, y1.1, y2.1] := congrArg Prod.fst hy
      have u2 := Nat.le_trans (bulk_slice Tryz.underlying24 g2) (Nat.le_trans (bulk_part (l := [y0.1, y1.1, y2.1]) (by simp)) (by rw [← hD1]; exact hU))
      subst hm1 hn1 hb1
      exact ⟨⟨ms, ns, bs, a0, c0, a1, c1, a2, c2⟩, rfl, hms, hns, hbs, u2⟩
set_option maxRecDepth 100000 in
theorem ru_one {H : Type} {enc : TypeId × Value → H} {w : World} {base : Nat} {spare : Nat → Bool} {held : Bool} (fuel : Nat) (cs : List Value) (y : DataW H × List MemPlace) (hl : cs.length = 8) (_ : Rows.uptoBulk y.1 ≤ 1048576)
    (h : DataW.trod enc Tryz.prog w base spare held fuel 45 cs = some y) : ∃ x : RuA, cs = x.enc ∧ RuA.ok w x := by
  match cs, hl with
  | [v0, v1, v2, v3, v4, v5, v6, v7], _ =>
    obtain ⟨xs, n, _, _, _, hlen, hf⟩ := DataW.trod_struct Tryz.underlying45 h
    have g0 := hf 0 _ rfl
    have g1 := hf 1 _ rfl
    have g2 := hf 2 _ rfl
    have g3 := hf 3 _ rfl
    have g4 := hf 4 _ rfl
    have g5 := hf 5 _ rfl
    have g6 := hf 6 _ rfl
    have g7 := hf 7 _ rfl
    clear hf
    match xs, hlen with
    | [y0, y1, y2, y3, y4, y5, y6, y7], _ =>
      simp [cellsStrR, cellsIntR, cellsLabsR] at g0 g1 g2 g3 g4 g5 g6 g7
      obtain ⟨s, e0, _, hs⟩ := DataW.trod_string Tryz.underlying9 g0
      obtain ⟨m, e1, _, hm⟩ := DataW.trod_string Tryz.underlying9 g1
      obtain ⟨z2, e2, _, _⟩ := DataW.trod_int Tryz.underlying3 g2
      obtain ⟨z3, e3, _, _⟩ := DataW.trod_int Tryz.underlying3 g3
      obtain ⟨z4, e4, _, _⟩ := DataW.trod_int Tryz.underlying3 g4
      obtain ⟨z5, e5, _, _⟩ := DataW.trod_int Tryz.underlying3 g5
      obtain ⟨z6, e6, _, _⟩ := DataW.trod_int Tryz.underlying3 g6
      obtain ⟨a7, l7, c7, e7⟩ := slice_form Tryz.underlying43 g7
      simp only [List.cons.injEq, and_true] at e0 e1 e2 e3 e4 e5 e6 e7
      subst e0 e1 e2 e3 e4 e5 e6 e7
      obtain ⟨ls, hl2, hls⟩ := labArg_of Tryz.underlying43 Tryz.underlying124 Tryz.underlying9 (by kernel_rfl) rfl rfl (by kernel_rfl) (by kernel_rfl) rfl rfl (show DataW.Trod enc Tryz.prog w base spare held 43 (.slice a7 l7 c7) y7.1 y7.2 from ⟨n, g7⟩)
      subst hl2
      exact ⟨⟨⟨s, m, z2, z3, z4, z5, z6, ls⟩, a7, c7⟩, rfl, hls, hs, hm⟩
set_option maxRecDepth 100000 in
theorem cfgCells : Tryz.prog.cellsOf 31 = 13 := by kernel_rfl
set_option maxRecDepth 100000 in
theorem cellsRus : Tryz.prog.cellsOf 22 = 1 := by kernel_rfl
set_option maxRecDepth 100000 in
theorem cellsIns : Tryz.prog.cellsOf 28 = 1 := by kernel_rfl
set_option maxRecDepth 100000 in
theorem cellsHrs : Tryz.prog.cellsOf 29 = 1 := by kernel_rfl
set_option maxRecDepth 100000 in
/-- a configuration that came in -/
theorem cfgArg_of {H : Type} {enc : TypeId × Value → H} {W : World} {base b0 : Nat} {r : Reach} {spare : Nat → Bool} {held : Bool} {v : Value} {d : DataW H} {p : List MemPlace}
    (hv : Value.okWide Tryz.prog W r b0 31 v) (h : DataW.Trod enc Tryz.prog W base spare held 31 v d p) (hU : Rows.uptoBulk d ≤ 1048576) : ∃ k : CfA, v = .agg (kCells k) ∧ k.ok W := by
  obtain ⟨cs, rfl, hsz⟩ := okWide_struct Tryz.underlying31 hv
  obtain ⟨cs⟩ := cs
  match cs, hsz.trans cfgCells with
  | [v0, v1, v2, v3, v4, v5, v6, v7, v8, v9, v10, v11, v12], _ =>
    obtain ⟨fuel, hf⟩ := h
    simp only [Value.cells] at hf
    obtain ⟨xs, n, _, hy, _, hlen, hf⟩ := DataW.trod_struct Tryz.underlying31 hf
    have g0 := hf 0 _ rfl
    have g1 := hf 1 _ rfl
    have g2 := hf 2 _ rfl
    have g3 := hf 3 _ rfl
    have g4 := hf 4 _ rfl
    clear hf
    match xs, hlen with
    | [y0, y1, y2, y3, y4], _ =>
      simp [cellsRus, cellsRt, cellsRtStrs, cellsIns, cellsHrs] at g0 g1 g2 g3 g4
      obtain ⟨a0, l0, c0, e0⟩ := slice_form Tryz.underlying22 g0
      obtain ⟨a2, l2, c2, e2⟩ := slice_form Tryz.underlying24 g2
      obtain ⟨a3, l3, c3, e3⟩ := slice_form Tryz.underlying28 g3
      obtain ⟨a4, l4, c4, e4⟩ := slice_form Tryz.underlying29 g4
      simp only [List.cons.injEq, and_true] at e0 e2 e3 e4
      subst e0 e2 e3 e4
      have hD1 : d = .agg [y0.1, y1.1, y2.1, y3.1, y4.1] := congrArg Prod.fst hy
      have hpart : ∀ z ∈ [y0.1, y1.1, y2.1, y3.1, y4.1], Rows.uptoBulk z ≤ 1048576 := fun z hz => Nat.le_trans (bulk_part hz) (by rw [← hD1]; exact hU)
      obtain ⟨ru, hru, hr⟩ := hasRow_of RuA.enc RuA.ok Tryz.underlying22 cellsRule (by omega) (fun _ => rfl) ru_one (hpart y0.1 (by simp)) g0
      obtain ⟨re, hre, hs⟩ := strArg_of Tryz.underlying24 Tryz.underlying9 cellsRtStr (show DataW.Trod enc Tryz.prog W base spare held 24 (.slice a2 l2 c2) y2.1 y2.2 from ⟨_, g2⟩)
      obtain ⟨ih, hih, hi⟩ := hasRow_of InA.enc InA.ok Tryz.underlying28 inCells (by omega) (fun _ => rfl) in_one (hpart y3.1 (by simp)) g3
      obtain ⟨hr', hhr, hh⟩ := hasRow_of HrA.enc HrA.ok Tryz.underlying29 hrCells (by omega) (fun _ => rfl) hr_one (hpart y4.1 (by simp)) g4
      obtain ⟨q, l, z, k, rfl, rfl, rfl, rfl, rfl, rfl, rfl, rfl, rfl, hq, _, hzu, h3⟩ := rt_cells g1 (hpart y1.1 (by simp))
      obtain ⟨ks, hxl, hxs⟩ := rts_of _ _ _ _ _ _ (Nat.le_refl _) hzu h3
      subst hru hre hih hhr hxl
      refine ⟨⟨ru, a0, c0, q.put ks, re, a2, c2, ih, a3, c3, hr', a4, c4⟩, ?_, hr, RtAt.of_rts (hq.put ks) (by simpa [RtAt.put, put_kids] using hxs), hs, hi, hh⟩
      simp [kCells, RtAt.put, put_recv, put_ms, put_bys, put_wait, put_every, put_rep, put_mute, put_on, put_kids]
end Go.Proofs.YtmhekhilgllciaaGreat
