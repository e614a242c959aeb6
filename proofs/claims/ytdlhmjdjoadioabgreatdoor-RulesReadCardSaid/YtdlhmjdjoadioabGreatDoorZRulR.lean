/- The contract of rules.Read. -/
import Derived.Test.YtdlhmjdjoadioabGreatDoorMg11
import Derived.Test.YtdlhmjdjoadioabGreatDoorZRulG
import Derived.Test.YtdlhmjdjoadioabGreatDoorMg12
namespace Go.Proofs.YtdlhmjdjoadioabGreatDoor
open Go.RowKit

theorem results_cell_tmpR {P : Program} {fn : Func} {p u : Tmp} {ty : TypeId} (h : fn.results = #[.cell p ty, .tmp u]) (tmps : Array Value) (w : World) (g : Nat) (t : TypeId) (cs : Array Value) (fr : Nat × Nat) (d : TypeDesc)
    (hp : tmps.getD p undef = .pointer (some ⟨g, 0, none⟩)) (hg : w.heap[g]? = some (.cells cs t fr))
    (hu : P.underlying ty = some d) (hd : (match d with | .struct _ | .array _ _ => true | _ => false) = true) (hi : (P.info? ty).map (·.size) = some cs.size) :
    (results fn tmps).run P w = .ok (.tuple #[.agg cs, tmps.getD u undef]) w := by
  have hp' : tmps[p]?.getD undef = .pointer (some ⟨g, 0, none⟩) := by simpa using hp
  simp [results, h, hp', asAddr, run_loadVar_row w g t ty cs fr d hg hu hd hi]
def ReadE (r : Rul) (n : Int) (w : World) (e : Ending) (w' : World) : Prop := ∃ a c, e = .returned (.tuple #[.agg (rCells r a c), .int .i64 n]) ∧ RulAt w' r a c ∧ Below w.heap.size w w'
theorem zero_at (w : World) : RulAt w zeroR none 0 := ⟨HasLabs.nil _ _ _ (by unfold maxLen; omega), by unfold maxLen; decide, by unfold maxLen; decide⟩
theorem Blk.set8O {w : World} {g k : Nat} {t : TypeId} {cs : Array Value} (h : Blk w k t cs) (hne : k ≠ g) (v0 v1 v2 v3 v4 v5 v6 v7 : Value) :
    Blk ((((((((w.setCell ⟨g, 0, none⟩ v0).setCell ⟨g, 1, none⟩ v1).setCell ⟨g, 2, none⟩ v2).setCell ⟨g, 3, none⟩ v3).setCell ⟨g, 4, none⟩ v4).setCell ⟨g, 5, none⟩ v5).setCell ⟨g, 6, none⟩ v6).setCell ⟨g, 7, none⟩ v7) k t cs :=
  (((((((h.setO _ v0 hne).setO _ v1 hne).setO _ v2 hne).setO _ v3 hne).setO _ v4 hne).setO _ v5 hne).setO _ v6 hne).setO _ v7 hne
theorem isR_len {ss : List ByteArray} {r : Rul} (h : IsR ss r) : ss.length = 8 := by rw [← h.2]; rfl
theorem length8 {ss : List ByteArray} (h : ss.length = 8) : ∃ s0 s1 s2 s3 s4 s5 s6 s7, ss = [s0, s1, s2, s3, s4, s5, s6, s7] := by
  match ss, h with
  | [s0, s1, s2, s3, s4, s5, s6, s7], _ => exact ⟨s0, s1, s2, s3, s4, s5, s6, s7, rfl⟩
/-- a rule of these words is the one that is read, loosely, of them -/
theorem isR_is {s0 s1 s2 s3 s4 s5 s6 s7 : ByteArray} {r : Rul} (h : IsR [s0, s1, s2, s3, s4, s5, s6, s7] r) {n3 n4 n5 n6 : Int} (h3 : ∀ v, Lib.atoiAll s3.data.toList = .ok v → n3 = v) (h4 : ∀ v, Lib.atoiAll s4.data.toList = .ok v → n4 = v)
    (h5 : ∀ v, Lib.atoiAll s5.data.toList = .ok v → n5 = v) (h6 : ∀ v, Lib.atoiAll s6.data.toList = .ok v → n6 = v) : r = ⟨s0, s1, howL s2, n3, n4, n5, n6, (parseP s7.data.toList).1⟩ := by
  have hR := h
  obtain ⟨g0, g⟩ := h
  obtain ⟨_, _, ⟨a1, a2⟩, ⟨a3, a4⟩, ⟨a5, a6⟩, ⟨a7, a8⟩, ⟨a9, a10⟩, a11⟩ := (rulC_iff r).1 g0
  have hp := parseL_text ((rlabsC_iff _).1 a11).2.1
  obtain ⟨n, m, hw, li, fr, ke, tr, la⟩ := r
  simp only at a1 a2 a3 a4 a5 a6 a7 a8 a9 a10 hp
  simp only [wordsL, List.cons.injEq, and_true] at g
  obtain ⟨rfl, rfl, rfl, rfl, rfl, rfl, rfl, rfl⟩ := g
  have e3 := h3 li (atoi_itoa li (by omega) (by omega))
  have e4 := h4 fr (atoi_itoa fr (by omega) (by omega))
  have e5 := h5 ke (atoi_itoa ke (by omega) (by omega))
  have e6 := h6 tr (atoi_itoa tr (by omega) (by omega))
  have e7 : (parseP (textB la).data.toList).1 = la := by
    have e : (textB la).data.toList = textL la := rfl
    rw [e, parseP, hp]
  rw [e3, e4, e5, e6, e7, howL_sign a1 a2]

/-- what is no more than a zero rule holds no labels -/
theorem zero_no {w : World} {g : Nat} {pl : Option Addr} {ql : Nat} {ls : List Lab} (hB : Blk w g 24 #[.string ⟨#[]⟩, .string ⟨#[]⟩, .int .i64 0, .int .i64 0, .int .i64 0, .int .i64 0, .int .i64 0, .slice none 0 0]) (h : HasLabs w pl ql ls) (hr : rightC ls = true) : ls = [] ∨ ∃ b off, pl = Option.some ⟨b, off, none⟩ ∧ b ≠ g := by
  rcases h.2.2.2 with rfl | ⟨b, off, rfl, _, hc⟩
  · exact .inl rfl
  · cases ls with
    | nil => exact .inl rfl
    | cons l ls =>
      refine .inr ⟨b, off, rfl, fun e => ?_⟩
      subst e
      have h0 := (hc 0 (by simp)).1
      simp only [Nat.zero_mul, Nat.add_zero, List.getElem_cons_zero] at h0
      rw [hB.cell off] at h0
      have hl := ((rightC_iff _).1 hr).2.1 l (by simp)
      have h1 : l.1 = ⟨#[]⟩ := by
        rcases off with _ | _ | _ | _ | _ | _ | _ | _ | off
        · simpa using h0.symm
        · simpa using h0.symm
        all_goals simp at h0
      simp only [labC, Bool.and_eq_true] at hl
      rw [h1] at hl
      exact absurd hl.1 (by decide)
theorem labs_setN {w : World} {a : Option Addr} {c : Nat} {ls : List Lab} {p : Addr} (h : HasLabs w a c ls) (hG : ls = [] ∨ ∃ b off, a = Option.some ⟨b, off, none⟩ ∧ b ≠ p.block) (v : Value) : HasLabs (w.setCell p v) a c ls := by
  obtain ⟨h1, h2, h3, h4⟩ := h
  refine ⟨h1, h2, h3, ?_⟩
  rcases h4 with rfl | ⟨b, off, rfl, hb, hc⟩
  · exact .inl rfl
  · rcases hG with rfl | ⟨b', off', e, hne⟩
    · exact .inl rfl
    · simp only [Option.some.injEq, Addr.mk.injEq] at e
      refine .inr ⟨b, off, rfl, by simpa [World.setCell] using hb, fun i hi => ?_⟩
      rw [cell_setO _ _ _ _ _ (by rw [e.1]; exact hne), cell_setO _ _ _ _ _ (by rw [e.1]; exact hne)]
      exact hc i hi
theorem labs_set8N {w : World} {a : Option Addr} {c : Nat} {ls : List Lab} {g : Nat} (h : HasLabs w a c ls) (hG : ls = [] ∨ ∃ b off, a = Option.some ⟨b, off, none⟩ ∧ b ≠ g) (v0 v1 v2 v3 v4 v5 v6 v7 : Value) :
    HasLabs ((((((((w.setCell ⟨g, 0, none⟩ v0).setCell ⟨g, 1, none⟩ v1).setCell ⟨g, 2, none⟩ v2).setCell ⟨g, 3, none⟩ v3).setCell ⟨g, 4, none⟩ v4).setCell ⟨g, 5, none⟩ v5).setCell ⟨g, 6, none⟩ v6).setCell ⟨g, 7, none⟩ v7) a c ls :=
  labs_setN (labs_setN (labs_setN (labs_setN (labs_setN (labs_setN (labs_setN (labs_setN h hG v0) hG v1) hG v2) hG v3) hG v4) hG v5) hG v6) hG v7

set_option maxHeartbeats 12800000 in
set_option maxRecDepth 100000 in
theorem read_any (a : Option Addr) (c : Nat) (ss : List ByteArray) (w : World) (h : HasStrs w a c ss) (hw : RW w) (hs : ∀ s ∈ ss, s.size ≤ 2000) :
    Calls Tryz.prog 8 #[.slice a ss.length c] w (ReadE (readP ss).1 (readP ss).2 w) := by
  have hB := Blk.new w 24 #[.string ⟨#[]⟩, .string ⟨#[]⟩, .int .i64 0, .int .i64 0, .int .i64 0, .int .i64 0, .int .i64 0, .slice none 0 0]
  have hb := (Below.refl w.heap.size w).alloc (Nat.le_refl _) (.cells #[.string ⟨#[]⟩, .string ⟨#[]⟩, .int .i64 0, .int .i64 0, .int .i64 0, .int .i64 0, .int .i64 0, .slice none 0 0] 24)
  have h1 := h.call hb
  have hw1 := hw.call hb
  by_cases h8 : ss.length = 8
  case neg =>
    have hr : readP ss = (zeroR, 6) := by
      rcases readP_cases ss with ⟨r, hr, _⟩ | ⟨hr, _⟩
      · exact absurd (isR_len hr) h8
      · exact hr
    rw [hr]
    have d8 : (((ss.length : Nat) : Int) != 8) = true := by rw [bne_iff_ne]; omega
    clear h h1 hw hw1 hs hr h8
    go_enter Tryz.func8, Tryz.ntmps8
    go_upto_region 1 with fail
    generalize w.alloc (.cells #[.string ⟨#[]⟩, .string ⟨#[]⟩, .int .i64 0, .int .i64 0, .int .i64 0, .int .i64 0, .int .i64 0, .slice none 0 0] 24) = wx at *
    obtain ⟨g, hg⟩ : ∃ g, w.heap.size = g := ⟨_, rfl⟩
    have HG : Hid (w.heap.size = g) := Lib.hid hg
    rw [hg] at hB ⊢
    clear hg
    obtain ⟨c0, c1, c2, c3, c4, c5, c6, c7⟩ := hB.cells8
    have f0 := hB.frozen 0
    have f1 := hB.frozen 1
    have f2 := hB.frozen 2
    have f3 := hB.frozen 3
    have f4 := hB.frozen 4
    have f5 := hB.frozen 5
    have f6 := hB.frozen 6
    have f7 := hB.frozen 7
    have hfin := hB.set8 (.string ⟨#[]⟩) (.string ⟨#[]⟩) (.int .i64 0) (.int .i64 0) (.int .i64 0) (.int .i64 0) (.int .i64 0) (.slice none 0 0)
    have hbf := below_set8 hb (Nat.le_of_eq HG.out) (.string ⟨#[]⟩) (.string ⟨#[]⟩) (.int .i64 0) (.int .i64 0) (.int .i64 0) (.int .i64 0) (.int .i64 0) (.slice none 0 0)
    have HFIN := Lib.hid hfin
    have HBF := Lib.hid hbf
    clear hfin hbf hb hB
    go_wp2_with fail
    refine bodyPost_ret (v := .tuple #[.agg #[.string ⟨#[]⟩, .string ⟨#[]⟩, .int .i64 0, .int .i64 0, .int .i64 0, .int .i64 0, .int .i64 0, .slice none 0 0], .int .i64 6]) ?_ rfl ⟨none, 0, rfl, zero_at _, HBF.out⟩
    refine (results_cell_tmpR rfl _ _ g _ _ _ _ ?_ HFIN.out Tryz.underlying24 rfl (by kernel_rfl)).trans ?_
    · rfl
    · rfl
  case pos =>
    obtain ⟨s0, s1, s2, s3, s4, s5, s6, s7, rfl⟩ := length8 h8
    obtain ⟨b, off, rfl, hcs⟩ : ∃ b off, a = some ⟨b, off, none⟩ ∧ ∀ i (hi : i < 8), (w.alloc (.cells #[.string ⟨#[]⟩, .string ⟨#[]⟩, .int .i64 0, .int .i64 0, .int .i64 0, .int .i64 0, .int .i64 0, .slice none 0 0] 24)).cell? ⟨b, off + i, none⟩ = some (.string ([s0, s1, s2, s3, s4, s5, s6, s7][i]'hi)) := by
      rcases h1.2.2.2 with h4 | ⟨b, off, e, _, hc⟩
      · cases h4
      · exact ⟨b, off, e, hc⟩
    have hc8 := h1.1
    have hcm := h1.2.1
    unfold maxLen at hcm
    have HH := Lib.hid (fun W (hW : Below (w.alloc (.cells #[.string ⟨#[]⟩, .string ⟨#[]⟩, .int .i64 0, .int .i64 0, .int .i64 0, .int .i64 0, .int .i64 0, .slice none 0 0] 24)).heap.size (w.alloc (.cells #[.string ⟨#[]⟩, .string ⟨#[]⟩, .int .i64 0, .int .i64 0, .int .i64 0, .int .i64 0, .int .i64 0, .slice none 0 0] 24)) W) => h1.call hW)
    have HSC := Lib.hid (fun W (hW : Below (w.alloc (.cells #[.string ⟨#[]⟩, .string ⟨#[]⟩, .int .i64 0, .int .i64 0, .int .i64 0, .int .i64 0, .int .i64 0, .slice none 0 0] 24)).heap.size (w.alloc (.cells #[.string ⟨#[]⟩, .string ⟨#[]⟩, .int .i64 0, .int .i64 0, .int .i64 0, .int .i64 0, .int .i64 0, .slice none 0 0] 24)) W) => (⟨cellL hW (hcs 0 (by omega)), cellL hW (hcs 1 (by omega)), cellL hW (hcs 2 (by omega)), cellL hW (hcs 3 (by omega)), cellL hW (hcs 4 (by omega)), cellL hW (hcs 5 (by omega)), cellL hW (hcs 6 (by omega)), cellL hW (hcs 7 (by omega))⟩ : W.cell? ⟨b, off + 0, none⟩ = some (.string s0) ∧ W.cell? ⟨b, off + 1, none⟩ = some (.string s1) ∧ W.cell? ⟨b, off + 2, none⟩ = some (.string s2) ∧ W.cell? ⟨b, off + 3, none⟩ = some (.string s3) ∧ W.cell? ⟨b, off + 4, none⟩ = some (.string s4) ∧ W.cell? ⟨b, off + 5, none⟩ = some (.string s5) ∧ W.cell? ⟨b, off + 6, none⟩ = some (.string s6) ∧ W.cell? ⟨b, off + 7, none⟩ = some (.string s7)))
    have HW := Lib.hid (fun W (hW : Below (w.alloc (.cells #[.string ⟨#[]⟩, .string ⟨#[]⟩, .int .i64 0, .int .i64 0, .int .i64 0, .int .i64 0, .int .i64 0, .slice none 0 0] 24)).heap.size (w.alloc (.cells #[.string ⟨#[]⟩, .string ⟨#[]⟩, .int .i64 0, .int .i64 0, .int .i64 0, .int .i64 0, .int .i64 0, .slice none 0 0] 24)) W) => hw1.call hW)
    have hz := fun s (hm : s ∈ [s0, s1, s2, s3, s4, s5, s6, s7]) => hs s hm
    have z0 := hz s0 (by simp)
    have z1 := hz s1 (by simp)
    have z3 := hz s3 (by simp)
    have z4 := hz s4 (by simp)
    have z5 := hz s5 (by simp)
    have z6 := hz s6 (by simp)
    have z7 := hz s7 (by simp)
    have hpl := fun W (hW : RW W) => parse_any s7 W hW.2.1 (by omega)
    have hn3 := fun W (hW : RW W) => number_any s3 W hW (by omega)
    have hn4 := fun W (hW : RW W) => number_any s4 W hW (by omega)
    have hn5 := fun W (hW : RW W) => number_any s5 W hW (by omega)
    have hn6 := fun W (hW : RW W) => number_any s6 W hW (by omega)
    have hhow := fun W => howOf_any s2 W
    have hm0 : s0.size ≤ maxLen := by unfold maxLen; omega
    have hm1 : s1.size ≤ maxLen := by unfold maxLen; omega
    have hIS := fun r (hr : IsR [s0, s1, s2, s3, s4, s5, s6, s7] r) n3 n4 n5 n6 => isR_is (r := r) (n3 := n3) (n4 := n4) (n5 := n5) (n6 := n6) hr
    obtain ⟨⟨ls, ne⟩, hpp⟩ : ∃ R, parseP s7.data.toList = R := ⟨_, rfl⟩
    rw [hpp] at hpl hIS
    have hRC := readP_cases [s0, s1, s2, s3, s4, s5, s6, s7]
    have HPL := Lib.hid hpl
    have HN3 := Lib.hid hn3
    have HN4 := Lib.hid hn4
    have HN5 := Lib.hid hn5
    have HN6 := Lib.hid hn6
    have HHOW := Lib.hid hhow
    have HM := Lib.hid (And.intro hm0 hm1)
    have HIS := Lib.hid hIS
    have HRC := Lib.hid hRC
    have HB := Lib.hid hb
    have HBK := Lib.hid hB
    have hzz : (w.alloc (.cells #[.string ⟨#[]⟩, .string ⟨#[]⟩, .int .i64 0, .int .i64 0, .int .i64 0, .int .i64 0, .int .i64 0, .slice none 0 0] 24)).heap.size = w.heap.size + 1 := by simp
    have HZZ := Lib.hid hzz
    clear h h1 hw hw1 hs hz z0 z1 z3 z4 z5 z6 z7 hpl hn3 hn4 hn5 hn6 hhow hm0 hm1 hIS hpp hRC hcs h8 hb hB hzz
    obtain ⟨R, hR⟩ : ∃ R, readP [s0, s1, s2, s3, s4, s5, s6, s7] = R := ⟨_, rfl⟩
    rw [hR]
    rw [hR] at HRC
    clear hR
    go_enter Tryz.func8, Tryz.ntmps8
    go_upto_region 1 with fail
    generalize w.alloc (.cells #[.string ⟨#[]⟩, .string ⟨#[]⟩, .int .i64 0, .int .i64 0, .int .i64 0, .int .i64 0, .int .i64 0, .slice none 0 0] 24) = wx at *
    obtain ⟨c0, c1, c2, c3, c4, c5, c6, c7⟩ := HSC.out _ (Below.refl _ _)
    simp only [Nat.add_zero] at c0
    go_upto_region 4 with (go_at_call 21; refine (HPL.out _ (HW.out _ (Below.refl _ _))).mono ?_; rintro e w2 ⟨pl, ql, rfl, hl2, hb2⟩)
    clear c0 c1 c2 c3 c4 c5 c6 c7
    have HSC2 : Hid (∀ W, Below w2.heap.size w2 W → (W.cell? ⟨b, off, none⟩ = some (.string s0) ∧ W.cell? ⟨b, off + 1, none⟩ = some (.string s1) ∧ W.cell? ⟨b, off + 2, none⟩ = some (.string s2) ∧ W.cell? ⟨b, off + 3, none⟩ = some (.string s3) ∧ W.cell? ⟨b, off + 4, none⟩ = some (.string s4) ∧ W.cell? ⟨b, off + 5, none⟩ = some (.string s5) ∧ W.cell? ⟨b, off + 6, none⟩ = some (.string s6) ∧ W.cell? ⟨b, off + 7, none⟩ = some (.string s7))) := Lib.hid (fun W hW => HSC.out W (bthen hb2 hW))
    have hcc : 7 < c := by have := hc8; simp at this; omega
    have hal : Below w2.heap.size w2 (w2.alloc (.cells #[.string ⟨#[]⟩, .string ⟨#[]⟩, .int .i64 0, .int .i64 0, .int .i64 0, .int .i64 0, .int .i64 0, .slice none 0 0] 24)).drew := ((Below.refl w2.heap.size w2).alloc (Nat.le_refl w2.heap.size) _).drew
    have hbl0 : Blk (w2.alloc (.cells #[.string ⟨#[]⟩, .string ⟨#[]⟩, .int .i64 0, .int .i64 0, .int .i64 0, .int .i64 0, .int .i64 0, .slice none 0 0] 24)).drew w2.heap.size 24 #[.string ⟨#[]⟩, .string ⟨#[]⟩, .int .i64 0, .int .i64 0, .int .i64 0, .int .i64 0, .int .i64 0, .slice none 0 0] := (Blk.new w2 24 #[.string ⟨#[]⟩, .string ⟨#[]⟩, .int .i64 0, .int .i64 0, .int .i64 0, .int .i64 0, .int .i64 0, .slice none 0 0]).drew
    go_cut [6] (fun tv wy => ∃ (g6 : Nat) (n3 n4 n5 n6 : Int), tv = .pointer (some ⟨g6, 0, none⟩) ∧ Blk wy g6 24 #[.string s0, .string s1, .int .i64 (howL s2), .int .i64 n3, .int .i64 n4, .int .i64 n5, .int .i64 n6, .slice pl ls.length ql] ∧ Below w2.heap.size w2 wy ∧ w2.heap.size ≤ g6 ∧
      (∀ v, Lib.atoiAll s3.data.toList = .ok v → n3 = v) ∧ (∀ v, Lib.atoiAll s4.data.toList = .ok v → n4 = v) ∧ (∀ v, Lib.atoiAll s5.data.toList = .ok v → n5 = v) ∧ (∀ v, Lib.atoiAll s6.data.toList = .ok v → n6 = v))
    case first =>
      go_region_held3 (fun w' => w'.cell? ⟨b, off, none⟩ = some (.string s0) ∧ w'.cell? ⟨b, off + 1, none⟩ = some (.string s1) ∧ w'.cell? ⟨b, off + 2, none⟩ = some (.string s2) ∧ w'.cell? ⟨b, off + 3, none⟩ = some (.string s3) ∧ w'.cell? ⟨b, off + 4, none⟩ = some (.string s4) ∧ w'.cell? ⟨b, off + 5, none⟩ = some (.string s5) ∧ w'.cell? ⟨b, off + 6, none⟩ = some (.string s6) ∧ w'.cell? ⟨b, off + 7, none⟩ = some (.string s7))
        (first | (with_reducible exact HSC2.out _ (below_set8 hq8 hKl8 _ _ _ _ _ _ _ _)) | (with_reducible exact HSC2.out _ (Below.refl _ _).drew) | (with_reducible exact HSC2.out _ hal) | (with_reducible exact HSC2.out _ hq4) | (with_reducible exact HSC2.out _ (hq4.alloc hz4 _)) | (with_reducible exact HSC2.out _ hq5) | (with_reducible exact HSC2.out _ (hq5.alloc hz5 _)) | (with_reducible exact HSC2.out _ hq6) | (with_reducible exact HSC2.out _ (hq6.alloc hz6 _)) | (with_reducible exact HSC2.out _ hq7) | (with_reducible exact HSC2.out _ (hq7.alloc hz7 _)) | (with_reducible exact HSC2.out _ hq8) | (with_reducible exact HSC2.out _ (hq8.alloc hz8 _)))
        (first
        | (go_at_call 23; (with_reducible refine (HN6.out (w7.alloc (.cells #[.string ⟨#[]⟩, .string ⟨#[]⟩, .int .i64 0, .int .i64 0, .int .i64 0, .int .i64 0, .int .i64 0, .slice none 0 0] 24)) (HW.out _ (bthen hb2 (hq7.alloc hq7.size (.cells #[.string ⟨#[]⟩, .string ⟨#[]⟩, .int .i64 0, .int .i64 0, .int .i64 0, .int .i64 0, .int .i64 0, .slice none 0 0] 24))))).mono ?_); rintro e w8 ⟨n6, rfl, hv6, hb8⟩; have hq8 := bthen (hq7.alloc hq7.size (.cells #[.string ⟨#[]⟩, .string ⟨#[]⟩, .int .i64 0, .int .i64 0, .int .i64 0, .int .i64 0, .int .i64 0, .slice none 0 0] 24)) hb8; have hz8 := hq8.size; have hK8 := (Blk.new w7 24 #[.string ⟨#[]⟩, .string ⟨#[]⟩, .int .i64 0, .int .i64 0, .int .i64 0, .int .i64 0, .int .i64 0, .slice none 0 0]).call hb8; have hKl8 : w2.heap.size ≤ w7.heap.size := hq7.size; generalize w7.heap.size = gk at hK8 hKl8 ⊢; obtain ⟨k0, k1, k2, k3, k4, k5, k6, k7⟩ := hK8.cells8; have f0 := hK8.frozen 0; have f1 := hK8.frozen 1; have f2 := hK8.frozen 2; have f3 := hK8.frozen 3; have f4 := hK8.frozen 4; have f5 := hK8.frozen 5; have f6 := hK8.frozen 6; have f7 := hK8.frozen 7)
        | (go_at_call 23; (with_reducible refine (HN6.out _ (HW.out _ (bthen hb2 (hq7)))).mono ?_); rintro e w8 ⟨n6, rfl, hv6, hb8⟩; have hK8 := hK7.call hb8; have hKl8 := hKl7; have hq8 := bthen hq7 hb8; have hz8 := hq8.size; obtain ⟨k0, k1, k2, k3, k4, k5, k6, k7⟩ := hK8.cells8; have f0 := hK8.frozen 0; have f1 := hK8.frozen 1; have f2 := hK8.frozen 2; have f3 := hK8.frozen 3; have f4 := hK8.frozen 4; have f5 := hK8.frozen 5; have f6 := hK8.frozen 6; have f7 := hK8.frozen 7)
        | (go_at_call 23; (with_reducible refine (HN6.out _ (HW.out _ (bthen hb2 (hq7)))).mono ?_); rintro e w8 ⟨n6, rfl, hv6, hb8⟩; have hq8 := bthen hq7 hb8; have hz8 := hq8.size)
        | (go_at_call 23; (with_reducible refine (HN5.out (w6.alloc (.cells #[.string ⟨#[]⟩, .string ⟨#[]⟩, .int .i64 0, .int .i64 0, .int .i64 0, .int .i64 0, .int .i64 0, .slice none 0 0] 24)) (HW.out _ (bthen hb2 (hq6.alloc hq6.size (.cells #[.string ⟨#[]⟩, .string ⟨#[]⟩, .int .i64 0, .int .i64 0, .int .i64 0, .int .i64 0, .int .i64 0, .slice none 0 0] 24))))).mono ?_); rintro e w7 ⟨n5, rfl, hv5, hb7⟩; have hq7 := bthen (hq6.alloc hq6.size (.cells #[.string ⟨#[]⟩, .string ⟨#[]⟩, .int .i64 0, .int .i64 0, .int .i64 0, .int .i64 0, .int .i64 0, .slice none 0 0] 24)) hb7; have hz7 := hq7.size; have hK7 := (Blk.new w6 24 #[.string ⟨#[]⟩, .string ⟨#[]⟩, .int .i64 0, .int .i64 0, .int .i64 0, .int .i64 0, .int .i64 0, .slice none 0 0]).call hb7; have hKl7 : w2.heap.size ≤ w6.heap.size := hq6.size; generalize w6.heap.size = gk at hK7 hKl7 ⊢)
        | (go_at_call 23; (with_reducible refine (HN5.out _ (HW.out _ (bthen hb2 (hq6)))).mono ?_); rintro e w7 ⟨n5, rfl, hv5, hb7⟩; have hK7 := hK6.call hb7; have hKl7 := hKl6; have hq7 := bthen hq6 hb7; have hz7 := hq7.size)
        | (go_at_call 23; (with_reducible refine (HN5.out _ (HW.out _ (bthen hb2 (hq6)))).mono ?_); rintro e w7 ⟨n5, rfl, hv5, hb7⟩; have hq7 := bthen hq6 hb7; have hz7 := hq7.size)
        | (go_at_call 23; (with_reducible refine (HN4.out (w5.alloc (.cells #[.string ⟨#[]⟩, .string ⟨#[]⟩, .int .i64 0, .int .i64 0, .int .i64 0, .int .i64 0, .int .i64 0, .slice none 0 0] 24)) (HW.out _ (bthen hb2 (hq5.alloc hq5.size (.cells #[.string ⟨#[]⟩, .string ⟨#[]⟩, .int .i64 0, .int .i64 0, .int .i64 0, .int .i64 0, .int .i64 0, .slice none 0 0] 24))))).mono ?_); rintro e w6 ⟨n4, rfl, hv4, hb6⟩; have hq6 := bthen (hq5.alloc hq5.size (.cells #[.string ⟨#[]⟩, .string ⟨#[]⟩, .int .i64 0, .int .i64 0, .int .i64 0, .int .i64 0, .int .i64 0, .slice none 0 0] 24)) hb6; have hz6 := hq6.size; have hK6 := (Blk.new w5 24 #[.string ⟨#[]⟩, .string ⟨#[]⟩, .int .i64 0, .int .i64 0, .int .i64 0, .int .i64 0, .int .i64 0, .slice none 0 0]).call hb6; have hKl6 : w2.heap.size ≤ w5.heap.size := hq5.size; generalize w5.heap.size = gk at hK6 hKl6 ⊢)
        | (go_at_call 23; (with_reducible refine (HN4.out _ (HW.out _ (bthen hb2 (hq5)))).mono ?_); rintro e w6 ⟨n4, rfl, hv4, hb6⟩; have hK6 := hK5.call hb6; have hKl6 := hKl5; have hq6 := bthen hq5 hb6; have hz6 := hq6.size)
        | (go_at_call 23; (with_reducible refine (HN4.out _ (HW.out _ (bthen hb2 (hq5)))).mono ?_); rintro e w6 ⟨n4, rfl, hv4, hb6⟩; have hq6 := bthen hq5 hb6; have hz6 := hq6.size)
        | (go_at_call 23; (with_reducible refine (HN3.out (w4.alloc (.cells #[.string ⟨#[]⟩, .string ⟨#[]⟩, .int .i64 0, .int .i64 0, .int .i64 0, .int .i64 0, .int .i64 0, .slice none 0 0] 24)) (HW.out _ (bthen hb2 (hq4.alloc hq4.size (.cells #[.string ⟨#[]⟩, .string ⟨#[]⟩, .int .i64 0, .int .i64 0, .int .i64 0, .int .i64 0, .int .i64 0, .slice none 0 0] 24))))).mono ?_); rintro e w5 ⟨n3, rfl, hv3, hb5⟩; have hq5 := bthen (hq4.alloc hq4.size (.cells #[.string ⟨#[]⟩, .string ⟨#[]⟩, .int .i64 0, .int .i64 0, .int .i64 0, .int .i64 0, .int .i64 0, .slice none 0 0] 24)) hb5; have hz5 := hq5.size; have hK5 := (Blk.new w4 24 #[.string ⟨#[]⟩, .string ⟨#[]⟩, .int .i64 0, .int .i64 0, .int .i64 0, .int .i64 0, .int .i64 0, .slice none 0 0]).call hb5; have hKl5 : w2.heap.size ≤ w4.heap.size := hq4.size; generalize w4.heap.size = gk at hK5 hKl5 ⊢)
        | (go_at_call 23; (with_reducible refine (HN3.out _ (HW.out _ (bthen hb2 (hq4)))).mono ?_); rintro e w5 ⟨n3, rfl, hv3, hb5⟩; have hK5 := hK4.call hb5; have hKl5 := hKl4; have hq5 := bthen hq4 hb5; have hz5 := hq5.size)
        | (go_at_call 23; (with_reducible refine (HN3.out _ (HW.out _ (bthen hb2 (hq4)))).mono ?_); rintro e w5 ⟨n3, rfl, hv3, hb5⟩; have hq5 := bthen hq4 hb5; have hz5 := hq5.size)
        | (go_at_call 22; (with_reducible refine (HHOW.out (w2.alloc (.cells #[.string ⟨#[]⟩, .string ⟨#[]⟩, .int .i64 0, .int .i64 0, .int .i64 0, .int .i64 0, .int .i64 0, .slice none 0 0] 24)).drew).mono ?_); rintro e w4 ⟨rfl, hb4⟩; have hq4 := bthen hal hb4; have hz4 := hq4.size; have hK4 := hbl0.call hb4; have hKl4 : w2.heap.size ≤ w2.heap.size := Nat.le_refl w2.heap.size)
        | (go_at_call 22; (with_reducible refine (HHOW.out _).mono ?_); rintro e w4 ⟨rfl, hb4⟩; have hq4 := bthen (Below.refl w2.heap.size w2).drew hb4; have hz4 := hq4.size))
      all_goals
        go_wp2_with fail
        go_meet
        first
          | exact ⟨_, n3, n4, n5, n6, rfl, hK8.set8 (.string s0) (.string s1) (.int .i64 (howL s2)) (.int .i64 n3) (.int .i64 n4) (.int .i64 n5) (.int .i64 n6) (.slice pl ls.length ql), below_set8 hq8 hKl8 (.string s0) (.string s1) (.int .i64 (howL s2)) (.int .i64 n3) (.int .i64 n4) (.int .i64 n5) (.int .i64 n6) (.slice pl ls.length ql), hKl8, hv3, hv4, hv5, hv6⟩
          | exact ⟨_, n3, n4, n5, n6, rfl, Blk.new w8 24 #[.string s0, .string s1, .int .i64 (howL s2), .int .i64 n3, .int .i64 n4, .int .i64 n5, .int .i64 n6, .slice pl ls.length ql], hq8.alloc hz8 _, hz8, hv3, hv4, hv5, hv6⟩
    case rest =>
      obtain ⟨g6, n3, n4, n5, n6, rfl, hB6, hb9, hg6, hv3, hv4, hv5, hv6⟩ := hcut
      obtain ⟨wy, hwy⟩ : ∃ W, W = wc := ⟨_, rfl⟩
      subst hwy
      have hq9 := bthen hb2 hb9
      have hAt : RulAt wy ⟨s0, s1, howL s2, n3, n4, n5, n6, ls⟩ pl ql := ⟨hl2.call hb9, HM.out⟩
      have hwd := words_any ⟨s0, s1, howL s2, n3, n4, n5, n6, ls⟩ pl ql wy hAt (HW.out wy hq9).1
      have hgg : w.heap.size ≠ g6 := by have := HZZ.out; have := hb2.size; omega
      have hBG := HBK.out.call hq9
      have hIS : ∀ r, IsR [s0, s1, s2, s3, s4, s5, s6, s7] r → r = ⟨s0, s1, howL s2, n3, n4, n5, n6, ls⟩ := fun r hr => HIS.out r hr n3 n4 n5 n6 hv3 hv4 hv5 hv6
      have hno := fun (hr : rightC ls = true) => zero_no (HBK.out.call hb2) hl2 hr
      have hll : HasLabs wy pl ql ls := hl2.call hb9
      have HNO := Lib.hid hno
      have HQ9 := Lib.hid (HB.out.trans (hq9.mono (by have := HZZ.out; omega)))
      have HHL := Lib.hid (HH.out wy hq9)
      have HL2 := Lib.hid hll
      have HIS2 := Lib.hid hIS
      clear hl2 hb2 hb9 hg6 hv3 hv4 hv5 hv6 hq9 hAt hno hIS hll HPL HN3 HN4 HN5 HN6 HHOW HIS HB HBK HZZ HH HSC HW hcc
      obtain ⟨c0, c1, c2, c3, c4, c5, c6, c7⟩ := hB6.cells8
      obtain ⟨g, hg⟩ : ∃ g, w.heap.size = g := ⟨_, rfl⟩
      have HG : Hid (w.heap.size = g) := Lib.hid hg
      rw [hg] at hBG hgg HNO ⊢
      clear hg
      cases hr : rulC ⟨s0, s1, howL s2, n3, n4, n5, n6, ls⟩ with
      | false =>
        have hw1 : wordsP ⟨s0, s1, howL s2, n3, n4, n5, n6, ls⟩ = ([], 1) := by rw [wordsP, if_neg (by rw [hr]; simp)]
        rw [hw1] at hwd
        obtain rfl : R = (zeroR, 6) := by
          rcases HRC.out with ⟨r', h1, _⟩ | ⟨h1, _⟩
          · rw [← HIS2.out r' h1, h1.1] at hr; cases hr
          · exact h1
        simp only [rCells] at hwd
        have HWD := Lib.hid hwd
        clear hwd hw1 hr HRC
        go_upto_region 7 with (go_at_call 7; refine HWD.out.mono ?_; rintro e wz ⟨pw, qw, rfl, hpw, hbz⟩)
        have hB7 := hBG.call hbz
        obtain ⟨d0, d1, d2, d3, d4, d5, d6, d7⟩ := hB7.cells8
        have f0 := hB7.frozen 0
        have f1 := hB7.frozen 1
        have f2 := hB7.frozen 2
        have f3 := hB7.frozen 3
        have f4 := hB7.frozen 4
        have f5 := hB7.frozen 5
        have f6 := hB7.frozen 6
        have f7 := hB7.frozen 7
        have HFIN := Lib.hid (hB7.set8 (.string ⟨#[]⟩) (.string ⟨#[]⟩) (.int .i64 0) (.int .i64 0) (.int .i64 0) (.int .i64 0) (.int .i64 0) (.slice none 0 0))
        have HBF := Lib.hid (below_set8 (bthen HQ9.out hbz) (Nat.le_of_eq HG.out) (.string ⟨#[]⟩) (.string ⟨#[]⟩) (.int .i64 0) (.int .i64 0) (.int .i64 0) (.int .i64 0) (.int .i64 0) (.slice none 0 0))
        clear hBG hB7 hB6 hpw hbz
        go_wp2_with fail
        refine bodyPost_ret (v := .tuple #[.agg #[.string ⟨#[]⟩, .string ⟨#[]⟩, .int .i64 0, .int .i64 0, .int .i64 0, .int .i64 0, .int .i64 0, .slice none 0 0], .int .i64 6]) ?_ rfl ⟨none, 0, rfl, zero_at _, HBF.out⟩
        refine (results_cell_tmpR rfl _ _ g _ _ _ _ ?_ HFIN.out Tryz.underlying24 rfl (by kernel_rfl)).trans ?_
        · rfl
        · rfl
      | true =>
        have hw1 : wordsP ⟨s0, s1, howL s2, n3, n4, n5, n6, ls⟩ = (wordsL ⟨s0, s1, howL s2, n3, n4, n5, n6, ls⟩, 0) := by rw [wordsP, if_pos hr]
        rw [hw1] at hwd
        obtain ⟨WL, hWL⟩ : ∃ WL, wordsL ⟨s0, s1, howL s2, n3, n4, n5, n6, ls⟩ = WL := ⟨_, rfl⟩
        rw [hWL] at hwd
        simp only [rCells] at hwd
        have HWD := Lib.hid hwd
        have hrl : rightC ls = true := (rul_labs hr).1
        clear hwd hw1
        by_cases he : WL = [s0, s1, s2, s3, s4, s5, s6, s7]
        · have hRR : R = (⟨s0, s1, howL s2, n3, n4, n5, n6, ls⟩, 0) := by
            rcases HRC.out with ⟨r', h1, h2⟩ | ⟨_, h1⟩
            · rw [h2, HIS2.out r' h1]
            · exact absurd ⟨hr, hWL.trans he⟩ (h1 _)
          subst hRR
          have hE := fun W p q (h1 : HasStrs W p q WL) (h2 : HasStrs W (some ⟨b, off, none⟩) c [s0, s1, s2, s3, s4, s5, s6, s7]) => equal_any p (some ⟨b, off, none⟩) q c WL _ W h1 h2
          rw [decide_eq_true he] at hE
          have HE := Lib.hid hE
          clear hE he hWL hr HRC
          go_upto_region 8 with (first
            | (go_at_call 7; refine HWD.out.mono ?_; rintro e wz ⟨pw, qw, rfl, hpw, hbz⟩)
            | (go_at_call 24; refine (HE.out _ _ _ hpw (HHL.out.call hbz)).mono ?_; rintro e wu ⟨rfl, hbu⟩))
          have hb7 := bthen hbz hbu
          have hB7 := hBG.call hb7
          obtain ⟨e0, e1, e2, e3, e4, e5, e6, e7⟩ := (hB6.call hb7).cells8
          obtain ⟨d0, d1, d2, d3, d4, d5, d6, d7⟩ := hB7.cells8
          have f0 := hB7.frozen 0
          have f1 := hB7.frozen 1
          have f2 := hB7.frozen 2
          have f3 := hB7.frozen 3
          have f4 := hB7.frozen 4
          have f5 := hB7.frozen 5
          have f6 := hB7.frozen 6
          have f7 := hB7.frozen 7
          have HFIN := Lib.hid (hB7.set8 (.string s0) (.string s1) (.int .i64 (howL s2)) (.int .i64 n3) (.int .i64 n4) (.int .i64 n5) (.int .i64 n6) (.slice pl ls.length ql))
          have HBF := Lib.hid (below_set8 (bthen HQ9.out hb7) (Nat.le_of_eq HG.out) (.string s0) (.string s1) (.int .i64 (howL s2)) (.int .i64 n3) (.int .i64 n4) (.int .i64 n5) (.int .i64 n6) (.slice pl ls.length ql))
          have HLF := Lib.hid (labs_set8N (HL2.out.call hb7) (HNO.out hrl) (.string s0) (.string s1) (.int .i64 (howL s2)) (.int .i64 n3) (.int .i64 n4) (.int .i64 n5) (.int .i64 n6) (.slice pl ls.length ql))
          clear hBG hB7 hB6 hpw hbz hbu hb7
          go_wp2_with fail
          refine bodyPost_ret (v := .tuple #[.agg #[.string s0, .string s1, .int .i64 (howL s2), .int .i64 n3, .int .i64 n4, .int .i64 n5, .int .i64 n6, .slice pl ls.length ql], .int .i64 0]) ?_ rfl ⟨pl, ql, rfl, ⟨HLF.out, HM.out⟩, HBF.out⟩
          refine (results_cell_tmpR rfl _ _ g _ _ _ _ ?_ HFIN.out Tryz.underlying24 rfl (by kernel_rfl)).trans ?_
          · rfl
          · rfl
        · have hRR : R = (zeroR, 6) := by
            rcases HRC.out with ⟨r', h1, _⟩ | ⟨h1, _⟩
            · have h3 := h1.2
              rw [HIS2.out r' h1, hWL] at h3
              exact absurd h3 he
            · exact h1
          subst hRR
          have hE := fun W p q (h1 : HasStrs W p q WL) (h2 : HasStrs W (some ⟨b, off, none⟩) c [s0, s1, s2, s3, s4, s5, s6, s7]) => equal_any p (some ⟨b, off, none⟩) q c WL _ W h1 h2
          rw [decide_eq_false he] at hE
          have HE := Lib.hid hE
          clear hE he hWL hr HRC hrl
          go_upto_region 7 with (first
            | (go_at_call 7; refine HWD.out.mono ?_; rintro e wz ⟨pw, qw, rfl, hpw, hbz⟩)
            | (go_at_call 24; refine (HE.out _ _ _ hpw (HHL.out.call hbz)).mono ?_; rintro e wu ⟨rfl, hbu⟩))
          have hb7 := bthen hbz hbu
          have hB7 := hBG.call hb7
          obtain ⟨d0, d1, d2, d3, d4, d5, d6, d7⟩ := hB7.cells8
          have f0 := hB7.frozen 0
          have f1 := hB7.frozen 1
          have f2 := hB7.frozen 2
          have f3 := hB7.frozen 3
          have f4 := hB7.frozen 4
          have f5 := hB7.frozen 5
          have f6 := hB7.frozen 6
          have f7 := hB7.frozen 7
          have HFIN := Lib.hid (hB7.set8 (.string ⟨#[]⟩) (.string ⟨#[]⟩) (.int .i64 0) (.int .i64 0) (.int .i64 0) (.int .i64 0) (.int .i64 0) (.slice none 0 0))
          have HBF := Lib.hid (below_set8 (bthen HQ9.out hb7) (Nat.le_of_eq HG.out) (.string ⟨#[]⟩) (.string ⟨#[]⟩) (.int .i64 0) (.int .i64 0) (.int .i64 0) (.int .i64 0) (.int .i64 0) (.slice none 0 0))
          clear hBG hB7 hB6 hpw hbz hbu hb7
          go_wp2_with fail
          refine bodyPost_ret (v := .tuple #[.agg #[.string ⟨#[]⟩, .string ⟨#[]⟩, .int .i64 0, .int .i64 0, .int .i64 0, .int .i64 0, .int .i64 0, .slice none 0 0], .int .i64 6]) ?_ rfl ⟨none, 0, rfl, zero_at _, HBF.out⟩
          refine (results_cell_tmpR rfl _ _ g _ _ _ _ ?_ HFIN.out Tryz.underlying24 rfl (by kernel_rfl)).trans ?_
          · rfl
          · rfl
end Go.Proofs.YtdlhmjdjoadioabGreatDoor
