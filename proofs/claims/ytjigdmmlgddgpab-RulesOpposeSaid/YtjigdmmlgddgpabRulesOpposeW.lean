/- RulesOppose: for every rule and every value: of above and not above, and of below and not below, just one fires; of the limit itself just those that are not above, not below, or it: the law's walk. -/
import Derived.Test.YtjigdmmlgddgpabRulG
import Derived.Test.YtjigdmmlgddgpabRulH
namespace Go.Proofs.Ytjigdmmlgddgpab
open Go.RowKit

/-- what stands in a row of six where a loop has come to k -/
abbrev arrK (F : Nat → Bool) (k : Nat) : Array Value := #[.bool false, .bool (!(Nat.ble k 1) && F 1), .bool (!(Nat.ble k 2) && F 2), .bool (!(Nat.ble k 3) && F 3), .bool (!(Nat.ble k 4) && F 4), .bool (!(Nat.ble k 5) && F 5)]
theorem arrK_step (F : Nat → Bool) (k : Nat) (h1 : 1 ≤ k) (h5 : k ≤ 5) : (arrK F k).setIfInBounds k (.bool (F k)) = arrK F (k + 1) := by
  have : k = 1 ∨ k = 2 ∨ k = 3 ∨ k = 4 ∨ k = 5 := by omega
  rcases this with rfl | rfl | rfl | rfl | rfl <;> rfl
theorem Blk.cells6 {w : World} {g : Nat} {t : TypeId} {x0 x1 x2 x3 x4 x5 : Value} (h : Blk w g t #[x0, x1, x2, x3, x4, x5]) :
    w.cell? ⟨g, 0, none⟩ = some x0 ∧ w.cell? ⟨g, 1, none⟩ = some x1 ∧ w.cell? ⟨g, 2, none⟩ = some x2 ∧ w.cell? ⟨g, 3, none⟩ = some x3 ∧ w.cell? ⟨g, 4, none⟩ = some x4 ∧ w.cell? ⟨g, 5, none⟩ = some x5 :=
  ⟨h.cell 0, h.cell 1, h.cell 2, h.cell 3, h.cell 4, h.cell 5⟩
theorem labs_setG {w : World} {a : Option Addr} {c : Nat} {ls : List Lab} {p : Addr} {G : Nat} (h : HasLabs w a c ls) (hG : ls = [] ∨ ∃ b off, a = some ⟨b, off, none⟩ ∧ b < G) (hp : G ≤ p.block) (v : Value) : HasLabs (w.setCell p v) a c ls := by
  obtain ⟨h1, h2, h3, h4⟩ := h
  refine ⟨h1, h2, h3, ?_⟩
  rcases h4 with rfl | ⟨b, off, rfl, hb, hc⟩
  · exact .inl rfl
  · rcases hG with rfl | ⟨b', off', e, hlt⟩
    · exact .inl rfl
    · simp only [Option.some.injEq, Addr.mk.injEq] at e
      refine .inr ⟨b, off, rfl, by simpa [World.setCell] using hb, fun i hi => ?_⟩
      rw [cell_setO _ _ _ _ _ (by omega), cell_setO _ _ _ _ _ (by omega)]
      exact hc i hi
/-- the rule of that How -/
def ofHow (r : Rul) (k : Int) : Rul := { r with how := k }
theorem fires_how {r : Rul} (h : rulC r = true) {k : Nat} (h1 : 1 ≤ k) (h5 : k ≤ 5) (v : Int) : firesC (ofHow r k) v = compC k r.limit v := by
  have : rulC (ofHow r k) = true := by
    rw [rulC_iff] at h ⊢
    exact ⟨h.1, h.2.1, ⟨by show (1 : Int) ≤ k; omega, by show (k : Int) ≤ 5; omega⟩, h.2.2.2⟩
  rw [firesC, this]; rfl

set_option maxHeartbeats 12800000 in
set_option maxRecDepth 100000 in
theorem rulesOppose_walk {w : World} (r : Rul) (a : Option Addr) (c : Nat) (h : RulAt w r a c) (v : Int) (_hv : (Lit.int .i64 v).wf = true) :
    Calls Try.prog 4 #[.agg (rCells r a c), .int .i64 v] w (BoolB true w) := by
  have hb := (Below.refl w.heap.size w).alloc (Nat.le_refl _) (.cells (rCells r a c) 24)
  have hB := Blk.new w 24 (rCells r a c)
  have hC := cutR_any r a c _ (h.call hb)
  have hz : (w.alloc (.cells (rCells r a c) 24)).heap.size = w.heap.size + 1 := by simp
  obtain ⟨X, hX⟩ : ∃ X, cutR r = X := ⟨_, rfl⟩
  unfold CutP at hC
  rw [hX] at hC
  have HC := Lib.hid hC
  have HBL := Lib.hid hb
  have HZ := Lib.hid hz
  clear hX hC hb h hz
  simp only [rCells] at *
  go_enter Try.func4, Try.ntmps4
  go_upto_region 1 with fail
  generalize w.alloc (.cells #[.string r.name, .string r.metric, .int .i64 r.how, .int .i64 r.limit, .int .i64 r.fr, .int .i64 r.keep, .int .i64 r.tries, .slice a r.labels.length c] 24) = wx at *
  obtain ⟨g, hg⟩ : ∃ g, w.heap.size = g := ⟨_, rfl⟩
  have HG : Hid (w.heap.size = g) := Lib.hid hg
  rw [hg] at hB ⊢
  clear hg
  obtain ⟨c0, c1, c2, c3, c4, c5, c6, c7⟩ := hB.cells8
  go_upto_region 2 with (go_at_call 6; refine HC.out.mono ?_; rintro e w2 ⟨a2, cc2, rfl, hA, hfr, hb2⟩; have hB2 := hB.call hb2; obtain ⟨q0, q1, q2, q3, q4, q5, q6, q7⟩ := hB2.cells8; have f0 := hB2.frozen 0; have f1 := hB2.frozen 1; have f2 := hB2.frozen 2; have f3 := hB2.frozen 3; have f4 := hB2.frozen 4; have f5 := hB2.frozen 5; have f6 := hB2.frozen 6; have f7 := hB2.frozen 7)
  have hgl := hB.lt
  have hne : ∀ b o s, a2 = some ⟨b, o, s⟩ → b ≠ g := fun b o s e h => by have := hfr b o s e; omega
  have hb3 := below_set8 (bthen HBL.out hb2) (Nat.le_of_eq HG.out) (.string X.name) (.string X.metric) (.int .i64 X.how) (.int .i64 X.limit) (.int .i64 X.fr) (.int .i64 X.keep) (.int .i64 X.tries) (.slice a2 X.labels.length cc2)
  have hB3 := hB2.set8 (.string X.name) (.string X.metric) (.int .i64 X.how) (.int .i64 X.limit) (.int .i64 X.fr) (.int .i64 X.keep) (.int .i64 X.tries) (.slice a2 X.labels.length cc2)
  have hA3 : RulAt ((((((((w2.setCell ⟨g, 0, none⟩ (.string X.name)).setCell ⟨g, 1, none⟩ (.string X.metric)).setCell ⟨g, 2, none⟩ (.int .i64 X.how)).setCell ⟨g, 3, none⟩ (.int .i64 X.limit)).setCell ⟨g, 4, none⟩ (.int .i64 X.fr)).setCell ⟨g, 5, none⟩ (.int .i64 X.keep)).setCell ⟨g, 6, none⟩ (.int .i64 X.tries)).setCell ⟨g, 7, none⟩ (.slice a2 X.labels.length cc2)) X a2 cc2 := ⟨setO8 hA.1 hne (.string X.name) (.string X.metric) (.int .i64 X.how) (.int .i64 X.limit) (.int .i64 X.fr) (.int .i64 X.keep) (.int .i64 X.tries) (.slice a2 X.labels.length cc2), hA.2⟩
  clear hA hB hB2 hb2 hfr q0 q1 q2 q3 q4 q5 q6 q7 f0 f1 f2 f3 f4 f5 f6 f7 c0 c1 c2 c3 c4 c5 c6 c7 hgl
  generalize ((((((((w2.setCell ⟨g, 0, none⟩ (.string X.name)).setCell ⟨g, 1, none⟩ (.string X.metric)).setCell ⟨g, 2, none⟩ (.int .i64 X.how)).setCell ⟨g, 3, none⟩ (.int .i64 X.limit)).setCell ⟨g, 4, none⟩ (.int .i64 X.fr)).setCell ⟨g, 5, none⟩ (.int .i64 X.keep)).setCell ⟨g, 6, none⟩ (.int .i64 X.tries)).setCell ⟨g, 7, none⟩ (.slice a2 X.labels.length cc2)) = w3 at *
  have hR := fun W (h : Below w3.heap.size w3 W) => rulRight_any X a2 cc2 W (hA3.call h)
  have hF := fun W (h : Below w3.heap.size w3 W) => fires_any X a2 cc2 v W (hA3.call h)
  obtain ⟨c0, c1, c2, c3, c4, c5, c6, c7⟩ := hB3.cells8
  cases hr : rulC X with
  | false =>
    have hf : firesC X v = false := by rw [firesC, hr]; rfl
    simp only [hr, hf] at hR hF
    have HR := Lib.hid hR
    have HF := Lib.hid hF
    clear hR hF hr hf
    have hcs := fun W (h : Below w3.heap.size w3 W) => (hB3.call h).cells8
    go_wp2_with (first
      | (go_at_call 9; refine (HR.out _ (Below.refl _ _)).mono ?_; rintro e w4 ⟨rfl, hb4⟩)
      | (go_at_call 15; refine (alive_any _).mono ?_; rintro e w5 ⟨rfl, hb5⟩; have hb5 := bthen hb4 hb5; obtain ⟨d0, d1, d2, d3, d4, d5, d6, d7⟩ := hcs _ hb5)
      | (go_at_call 13; refine (HF.out _ hb5).mono ?_; rintro e w6 ⟨rfl, hb6⟩))
    go_ret
    exact ⟨rfl, bthen hb3 (bthen hb5 hb6)⟩
  | true =>
    simp only [hr] at hR
    have HR := Lib.hid hR
    clear hR hF
    go_upto_region 4 with (go_at_call 9; refine (HR.out _ (Below.refl _ _)).mono ?_; rintro e w4 ⟨rfl, hb4⟩)
    have hB4 := hB3.call hb4
    have hA4 := hA3.call hb4
    have hb4 := bthen hb3 hb4
    have hg4 := hB4.lt
    clear hB3 hA3 hb3 HR c0 c1 c2 c3 c4 c5 c6 c7 HC HBL HZ
    have hk1 := (Blk.new w4 40 #[.bool false, .bool false, .bool false, .bool false, .bool false, .bool false]).alloc (.cells #[.bool false, .bool false, .bool false, .bool false, .bool false, .bool false] 40)
    have hk2 := Blk.new (w4.alloc (.cells #[.bool false, .bool false, .bool false, .bool false, .bool false, .bool false] 40)) 40 #[.bool false, .bool false, .bool false, .bool false, .bool false, .bool false]
    have e1 : (w4.alloc (.cells #[.bool false, .bool false, .bool false, .bool false, .bool false, .bool false] 40)).heap.size = w4.heap.size + 1 := by simp
    rw [e1] at hk2
    have hB5 := (hB4.alloc (.cells #[.bool false, .bool false, .bool false, .bool false, .bool false, .bool false] 40)).alloc (.cells #[.bool false, .bool false, .bool false, .bool false, .bool false, .bool false] 40)
    have hb45 := ((Below.refl w4.heap.size w4).alloc (Nat.le_refl _) (.cells #[.bool false, .bool false, .bool false, .bool false, .bool false, .bool false] 40)).alloc (by simp) (.cells #[.bool false, .bool false, .bool false, .bool false, .bool false, .bool false] 40)
    have hA5 := hA4.call hb45
    have hlt : X.labels = [] ∨ ∃ b off, a2 = some ⟨b, off, none⟩ ∧ b < w4.heap.size := hA4.1.2.2.2.imp id (fun ⟨b, off, e, h, _⟩ => ⟨b, off, e, h⟩)
    have hb5 := bthen hb4 hb45
    clear hA4 hb4 hb45 hB4 e1
    go_upto_region 5 with fail
    generalize (w4.alloc (.cells #[.bool false, .bool false, .bool false, .bool false, .bool false, .bool false] 40)).alloc (.cells #[.bool false, .bool false, .bool false, .bool false, .bool false, .bool false] 40) = w5 at *
    generalize w4.heap.size = g1 at *
    have HXR := Lib.hid hr
    have HLT := Lib.hid hlt
    clear hr hlt
    go_wp2_with fail
    go_loopg [7] 5 (fun gg kv wr => ∃ k : Nat, k + gg = 6 ∧ 1 ≤ k ∧ kv = .int .i64 k ∧ (∃ q : Int, Blk wr g 24 #[.string X.name, .string X.metric, .int .i64 q, .int .i64 X.limit, .int .i64 X.fr, .int .i64 X.keep, .int .i64 X.tries, .slice a2 X.labels.length cc2]) ∧
      Blk wr g1 40 (arrK (fun j => compC j X.limit v) k) ∧ Blk wr (g1 + 1) 40 (arrK (fun j => compC j X.limit X.limit) k) ∧ RulAt wr X a2 cc2 ∧ Below g w wr)
    case atStart => exact ⟨1, by omega, by omega, rfl, ⟨_, hB5⟩, hk1, hk2, hA5, by rw [← HG.out]; exact hb5⟩
    case round =>
      obtain ⟨k, hkg, hk1, rfl, ⟨q, hB⟩, h1, h2, hA, hbr⟩ := hrel
      cases gk with
      | zero =>
        obtain rfl : k = 6 := by omega
        have h1 : Blk wr g1 40 #[.bool false, .bool (compC ((1 : Nat) : Int) X.limit v), .bool (compC ((2 : Nat) : Int) X.limit v), .bool (compC ((3 : Nat) : Int) X.limit v), .bool (compC ((4 : Nat) : Int) X.limit v), .bool (compC ((5 : Nat) : Int) X.limit v)] := h1
        have h2 : Blk wr (g1 + 1) 40 #[.bool false, .bool (compC ((1 : Nat) : Int) X.limit X.limit), .bool (compC ((2 : Nat) : Int) X.limit X.limit), .bool (compC ((3 : Nat) : Int) X.limit X.limit), .bool (compC ((4 : Nat) : Int) X.limit X.limit), .bool (compC ((5 : Nat) : Int) X.limit X.limit)] := h2
        rw [show compC ((1 : Nat) : Int) X.limit X.limit = false by simp [compC], show compC ((2 : Nat) : Int) X.limit X.limit = true by simp [compC], show compC ((3 : Nat) : Int) X.limit X.limit = false by simp [compC], show compC ((4 : Nat) : Int) X.limit X.limit = true by simp [compC], show compC ((5 : Nat) : Int) X.limit X.limit = true by simp [compC]] at h2
        rw [show compC ((1 : Nat) : Int) X.limit v = decide (X.limit < v) by simp [compC], show compC ((2 : Nat) : Int) X.limit v = !decide (v < X.limit) by simp [compC], show compC ((3 : Nat) : Int) X.limit v = decide (v < X.limit) by simp [compC], show compC ((4 : Nat) : Int) X.limit v = !decide (X.limit < v) by simp [compC],
          show compC ((5 : Nat) : Int) X.limit v = (!decide (v < X.limit) && !decide (X.limit < v)) by rw [Bool.eq_iff_iff]; simp [compC]; omega] at h1
        have heq := fun W => (show (binOp .eql 40 (.agg #[.bool false, .bool false, .bool true, .bool false, .bool true, .bool true]) (.agg #[.bool false, .bool false, .bool true, .bool false, .bool true, .bool true])).run Try.prog W = .ok (.bool true) W by kernel_rfl)
        have hlt : ¬ (decide (v < X.limit) = true ∧ decide (X.limit < v) = true) := by simp; omega
        have hx1 := fun W (h : Below wr.heap.size wr W) => (h1.call h).cells6
        have hx2 := fun W (h : Below wr.heap.size wr W) => (h2.call h).cells6
        generalize decide (v < X.limit) = b3 at *
        generalize decide (X.limit < v) = b1 at *
        clear h1 h2 hB hA
        have hbr' : Below w.heap.size w wr := by rw [HG.out]; exact hbr
        clear hbr
        cases b3 <;> cases b1
        case true.true => exact absurd ⟨rfl, rfl⟩ hlt
        all_goals
          simp only [Bool.not_true, Bool.not_false, Bool.and_true, Bool.and_false] at hx1
          have HX1 := Lib.hid hx1
          have HX2 := Lib.hid hx2
          clear hx1 hx2 hlt
          go_wp2_with (go_at_call 15; refine (alive_any _).mono ?_; rintro e w6 ⟨rfl, hb6⟩; obtain ⟨d0, d1, d2, d3, d4, d5⟩ := HX1.out _ hb6; obtain ⟨e0, e1, e2, e3, e4, e5⟩ := HX2.out _ hb6)
          go_ret
          exact ⟨rfl, bthen hbr' hb6⟩
      | succ gg =>
        have hk5 : k ≤ 5 := by omega
        obtain ⟨c0, c1, c2, c3, c4, c5, c6, c7⟩ := hB.cells8
        have f2 := hB.frozen 2
        have hB' := hB.set 2 (.int .i64 k)
        simp only [List.setIfInBounds_toArray, List.set_cons_zero, List.set_cons_succ] at hB'
        have h1' := h1.setO ⟨g, 2, none⟩ (.int .i64 k) (by show g1 ≠ g; omega)
        have h2' := h2.setO ⟨g, 2, none⟩ (.int .i64 k) (by show g1 + 1 ≠ g; omega)
        have hA' : RulAt (wr.setCell ⟨g, 2, none⟩ (.int .i64 k)) X a2 cc2 := ⟨hA.1.setO hne _, hA.2⟩
        have hbr' := hbr.setCell (p := ⟨g, 2, none⟩) (Nat.le_refl g) (.int .i64 k)
        go_upto_region 9 with fail
        clear h1 h2 hA hbr hB c0 c1 c2 c3 c4 c5 c6 c7 f2
        generalize wr.setCell ⟨g, 2, none⟩ (.int .i64 k) = w7 at *
        have hFV := fun W (h : Below w7.heap.size w7 W) => fires_any (ofHow X k) a2 cc2 v W ((show RulAt w7 (ofHow X k) a2 cc2 from hA').call h)
        have hFL := fun W (h : Below w7.heap.size w7 W) => fires_any (ofHow X k) a2 cc2 X.limit W ((show RulAt w7 (ofHow X k) a2 cc2 from hA').call h)
        rw [fires_how HXR.out hk1 hk5] at hFV hFL
        have HS1 : Hid ((arrK (fun j : Nat => compC j X.limit v) k).setIfInBounds k (.bool (compC k X.limit v)) = arrK (fun j : Nat => compC j X.limit v) (k + 1)) := Lib.hid (arrK_step _ k hk1 hk5)
        have HS2 : Hid ((arrK (fun j : Nat => compC j X.limit X.limit) k).setIfInBounds k (.bool (compC k X.limit X.limit)) = arrK (fun j : Nat => compC j X.limit X.limit) (k + 1)) := Lib.hid (arrK_step _ k hk1 hk5)
        generalize compC k X.limit v = FV at *
        generalize compC k X.limit X.limit = FL at *
        simp only [rCells, ofHow] at hFV hFL
        obtain ⟨Q, hQ⟩ : ∃ Q : Int, (k : Int) = Q := ⟨_, rfl⟩
        rw [hQ] at hFV hFL hB'
        have hcs := fun W (h : Below w7.heap.size w7 W) => (hB'.call h).cells8
        have hx1 := fun W (h : Below w7.heap.size w7 W) => h1'.call h
        have hx2 := fun W (h : Below w7.heap.size w7 W) => h2'.call h
        have HFV := Lib.hid hFV
        have HFL := Lib.hid hFL
        have HCS := Lib.hid hcs
        have HX1 := Lib.hid hx1
        have HX2 := Lib.hid hx2
        have HB7 := Lib.hid hB'
        have HA7 := Lib.hid hA'
        have HBR := Lib.hid hbr'
        have HNE := Lib.hid hne
        clear hcs hx1 hx2 hB' hA' hbr' hne h1' h2' hFV hFL
        have hkk : k = 1 ∨ k = 2 ∨ k = 3 ∨ k = 4 ∨ k = 5 := by omega
        rcases hkk with rfl | rfl | rfl | rfl | rfl
        · obtain rfl : Q = 1 := by omega
          clear hQ
          go_region_held3 (fun w' => w'.cell? ⟨g, 0, none⟩ = some (.string X.name) ∧ w'.cell? ⟨g, 1, none⟩ = some (.string X.metric) ∧ w'.cell? ⟨g, 2, none⟩ = some (.int .i64 1) ∧ w'.cell? ⟨g, 3, none⟩ = some (.int .i64 X.limit) ∧ w'.cell? ⟨g, 4, none⟩ = some (.int .i64 X.fr) ∧ w'.cell? ⟨g, 5, none⟩ = some (.int .i64 X.keep) ∧ w'.cell? ⟨g, 6, none⟩ = some (.int .i64 X.tries) ∧ w'.cell? ⟨g, 7, none⟩ = some (.slice a2 X.labels.length cc2))
            (first | exact HCS.out _ (Below.refl _ _).drew | exact HCS.out _ (bthen (Below.refl _ _).drew hb2) | exact HCS.out _ (bthen (bthen (Below.refl _ _).drew hb2) hb3) | exact ((HB7.out.call hB9).setO ⟨g1, 1, none⟩ _ (by show g ≠ g1; omega)).cells8 | exact (((HB7.out.call hB9).setO ⟨g1, 1, none⟩ _ (by show g ≠ g1; omega)).setO ⟨g1 + 1, 1, none⟩ _ (by show g ≠ g1 + 1; omega)).cells8)
            (first
              | (go_at_call 13; (with_reducible refine (HFV.out _ (bthen (Below.refl _ _).drew hb2)).mono ?_); rintro e w9 ⟨rfl, hb3⟩; have hB9 := bthen (bthen (Below.refl _ _).drew hb2) hb3; obtain ⟨s0, s1, s2, s3, s4, s5⟩ := (HX1.out _ hB9).cells6; have z1 := (HX1.out _ hB9).frozen 1; obtain ⟨t0, t1, t2, t3, t4, t5⟩ := (HX2.out _ hB9).cells6; have y1 := (HX2.out _ hB9).frozen 1; have u1 := fun x => ((HX2.out _ hB9).setO ⟨g1, 1, none⟩ x (by show g1 + 1 ≠ g1; omega)).cells6; have v1 := fun x => ((HX2.out _ hB9).setO ⟨g1, 1, none⟩ x (by show g1 + 1 ≠ g1; omega)).frozen 1)
              | (go_at_call 13; (with_reducible refine (HFL.out _ (bthen (Below.refl _ _).drew hb2)).mono ?_); rintro e w9 ⟨rfl, hb3⟩; have hB9 := bthen (bthen (Below.refl _ _).drew hb2) hb3; obtain ⟨s0, s1, s2, s3, s4, s5⟩ := (HX1.out _ hB9).cells6; have z1 := (HX1.out _ hB9).frozen 1; obtain ⟨t0, t1, t2, t3, t4, t5⟩ := (HX2.out _ hB9).cells6; have y1 := (HX2.out _ hB9).frozen 1; have u1 := fun x => ((HX2.out _ hB9).setO ⟨g1, 1, none⟩ x (by show g1 + 1 ≠ g1; omega)).cells6; have v1 := fun x => ((HX2.out _ hB9).setO ⟨g1, 1, none⟩ x (by show g1 + 1 ≠ g1; omega)).frozen 1)
              | (go_at_call 13; (with_reducible refine (HFV.out _ (Below.refl _ _).drew).mono ?_); rintro e w8 ⟨rfl, hb2⟩)
              | (go_at_call 13; (with_reducible refine (HFL.out _ (Below.refl _ _).drew).mono ?_); rintro e w8 ⟨rfl, hb2⟩))
          all_goals
            have e1 := ((HX1.out _ hB9).set 1 (.bool FV)).setO ⟨g1 + 1, 1, none⟩ (.bool FL) (by show g1 ≠ g1 + 1; omega)
            have e2 := ((HX2.out _ hB9).setO ⟨g1, 1, none⟩ (.bool FV) (by show g1 + 1 ≠ g1; omega)).set 1 (.bool FL)
            rw [HS1.out] at e1
            rw [HS2.out] at e2
            have e3 := ((HB7.out.call hB9).setO ⟨g1, 1, none⟩ (.bool FV) (by show g ≠ g1; omega)).setO ⟨g1 + 1, 1, none⟩ (.bool FL) (by show g ≠ g1 + 1; omega)
            have e4 : RulAt ((w9.setCell ⟨g1, 1, none⟩ (.bool FV)).setCell ⟨g1 + 1, 1, none⟩ (.bool FL)) X a2 cc2 := ⟨labs_setG (labs_setG (HA7.out.call hB9).1 HLT.out (Nat.le_refl g1) _) HLT.out (Nat.le_succ g1) _, HA7.out.2⟩
            have e5 := ((HBR.out.trans (hB9.mono (Nat.le_of_lt HB7.out.lt))).setCell (p := ⟨g1, 1, none⟩) (Nat.le_of_lt hg4) (.bool FV)).setCell (p := ⟨g1 + 1, 1, none⟩) (Nat.le_of_lt (Nat.lt_succ_of_lt hg4)) (.bool FL)
            have E1 := Lib.hid e1
            have E2 := Lib.hid e2
            have E3 := Lib.hid e3
            have E4 := Lib.hid e4
            have E5 := Lib.hid e5
            clear e1 e2 e3 e4 e5 s0 s1 s2 s3 s4 s5 z1 t0 t1 t2 t3 t4 t5 y1 u1 v1 hB9 hb2 hb3
            generalize (w9.setCell ⟨g1, 1, none⟩ (.bool FV)).setCell ⟨g1 + 1, 1, none⟩ (.bool FL) = w10 at *
            go_wp2_with fail
            go_roundg gg
            case measure => omega
            case rel => exact ⟨1 + 1, by omega, by omega, by go_num, ⟨_, E3.out⟩, E1.out, E2.out, E4.out, E5.out⟩
        · obtain rfl : Q = 2 := by omega
          clear hQ
          go_region_held3 (fun w' => w'.cell? ⟨g, 0, none⟩ = some (.string X.name) ∧ w'.cell? ⟨g, 1, none⟩ = some (.string X.metric) ∧ w'.cell? ⟨g, 2, none⟩ = some (.int .i64 2) ∧ w'.cell? ⟨g, 3, none⟩ = some (.int .i64 X.limit) ∧ w'.cell? ⟨g, 4, none⟩ = some (.int .i64 X.fr) ∧ w'.cell? ⟨g, 5, none⟩ = some (.int .i64 X.keep) ∧ w'.cell? ⟨g, 6, none⟩ = some (.int .i64 X.tries) ∧ w'.cell? ⟨g, 7, none⟩ = some (.slice a2 X.labels.length cc2))
            (first | exact HCS.out _ (Below.refl _ _).drew | exact HCS.out _ (bthen (Below.refl _ _).drew hb2) | exact HCS.out _ (bthen (bthen (Below.refl _ _).drew hb2) hb3) | exact ((HB7.out.call hB9).setO ⟨g1, 2, none⟩ _ (by show g ≠ g1; omega)).cells8 | exact (((HB7.out.call hB9).setO ⟨g1, 2, none⟩ _ (by show g ≠ g1; omega)).setO ⟨g1 + 1, 2, none⟩ _ (by show g ≠ g1 + 1; omega)).cells8)
            (first
              | (go_at_call 13; (with_reducible refine (HFV.out _ (bthen (Below.refl _ _).drew hb2)).mono ?_); rintro e w9 ⟨rfl, hb3⟩; have hB9 := bthen (bthen (Below.refl _ _).drew hb2) hb3; obtain ⟨s0, s1, s2, s3, s4, s5⟩ := (HX1.out _ hB9).cells6; have z1 := (HX1.out _ hB9).frozen 2; obtain ⟨t0, t1, t2, t3, t4, t5⟩ := (HX2.out _ hB9).cells6; have y1 := (HX2.out _ hB9).frozen 2; have u1 := fun x => ((HX2.out _ hB9).setO ⟨g1, 2, none⟩ x (by show g1 + 1 ≠ g1; omega)).cells6; have v1 := fun x => ((HX2.out _ hB9).setO ⟨g1, 2, none⟩ x (by show g1 + 1 ≠ g1; omega)).frozen 2)
              | (go_at_call 13; (with_reducible refine (HFL.out _ (bthen (Below.refl _ _).drew hb2)).mono ?_); rintro e w9 ⟨rfl, hb3⟩; have hB9 := bthen (bthen (Below.refl _ _).drew hb2) hb3; obtain ⟨s0, s1, s2, s3, s4, s5⟩ := (HX1.out _ hB9).cells6; have z1 := (HX1.out _ hB9).frozen 2; obtain ⟨t0, t1, t2, t3, t4, t5⟩ := (HX2.out _ hB9).cells6; have y1 := (HX2.out _ hB9).frozen 2; have u1 := fun x => ((HX2.out _ hB9).setO ⟨g1, 2, none⟩ x (by show g1 + 1 ≠ g1; omega)).cells6; have v1 := fun x => ((HX2.out _ hB9).setO ⟨g1, 2, none⟩ x (by show g1 + 1 ≠ g1; omega)).frozen 2)
              | (go_at_call 13; (with_reducible refine (HFV.out _ (Below.refl _ _).drew).mono ?_); rintro e w8 ⟨rfl, hb2⟩)
              | (go_at_call 13; (with_reducible refine (HFL.out _ (Below.refl _ _).drew).mono ?_); rintro e w8 ⟨rfl, hb2⟩))
          all_goals
            have e1 := ((HX1.out _ hB9).set 2 (.bool FV)).setO ⟨g1 + 1, 2, none⟩ (.bool FL) (by show g1 ≠ g1 + 1; omega)
            have e2 := ((HX2.out _ hB9).setO ⟨g1, 2, none⟩ (.bool FV) (by show g1 + 1 ≠ g1; omega)).set 2 (.bool FL)
            rw [HS1.out] at e1
            rw [HS2.out] at e2
            have e3 := ((HB7.out.call hB9).setO ⟨g1, 2, none⟩ (.bool FV) (by show g ≠ g1; omega)).setO ⟨g1 + 1, 2, none⟩ (.bool FL) (by show g ≠ g1 + 1; omega)
            have e4 : RulAt ((w9.setCell ⟨g1, 2, none⟩ (.bool FV)).setCell ⟨g1 + 1, 2, none⟩ (.bool FL)) X a2 cc2 := ⟨labs_setG (labs_setG (HA7.out.call hB9).1 HLT.out (Nat.le_refl g1) _) HLT.out (Nat.le_succ g1) _, HA7.out.2⟩
            have e5 := ((HBR.out.trans (hB9.mono (Nat.le_of_lt HB7.out.lt))).setCell (p := ⟨g1, 2, none⟩) (Nat.le_of_lt hg4) (.bool FV)).setCell (p := ⟨g1 + 1, 2, none⟩) (Nat.le_of_lt (Nat.lt_succ_of_lt hg4)) (.bool FL)
            have E1 := Lib.hid e1
            have E2 := Lib.hid e2
            have E3 := Lib.hid e3
            have E4 := Lib.hid e4
            have E5 := Lib.hid e5
            clear e1 e2 e3 e4 e5 s0 s1 s2 s3 s4 s5 z1 t0 t1 t2 t3 t4 t5 y1 u1 v1 hB9 hb2 hb3
            generalize (w9.setCell ⟨g1, 2, none⟩ (.bool FV)).setCell ⟨g1 + 1, 2, none⟩ (.bool FL) = w10 at *
            go_wp2_with fail
            go_roundg gg
            case measure => omega
            case rel => exact ⟨2 + 1, by omega, by omega, by go_num, ⟨_, E3.out⟩, E1.out, E2.out, E4.out, E5.out⟩
        · obtain rfl : Q = 3 := by omega
          clear hQ
          go_region_held3 (fun w' => w'.cell? ⟨g, 0, none⟩ = some (.string X.name) ∧ w'.cell? ⟨g, 1, none⟩ = some (.string X.metric) ∧ w'.cell? ⟨g, 2, none⟩ = some (.int .i64 3) ∧ w'.cell? ⟨g, 3, none⟩ = some (.int .i64 X.limit) ∧ w'.cell? ⟨g, 4, none⟩ = some (.int .i64 X.fr) ∧ w'.cell? ⟨g, 5, none⟩ = some (.int .i64 X.keep) ∧ w'.cell? ⟨g, 6, none⟩ = some (.int .i64 X.tries) ∧ w'.cell? ⟨g, 7, none⟩ = some (.slice a2 X.labels.length cc2))
            (first | exact HCS.out _ (Below.refl _ _).drew | exact HCS.out _ (bthen (Below.refl _ _).drew hb2) | exact HCS.out _ (bthen (bthen (Below.refl _ _).drew hb2) hb3) | exact ((HB7.out.call hB9).setO ⟨g1, 3, none⟩ _ (by show g ≠ g1; omega)).cells8 | exact (((HB7.out.call hB9).setO ⟨g1, 3, none⟩ _ (by show g ≠ g1; omega)).setO ⟨g1 + 1, 3, none⟩ _ (by show g ≠ g1 + 1; omega)).cells8)
            (first
              | (go_at_call 13; (with_reducible refine (HFV.out _ (bthen (Below.refl _ _).drew hb2)).mono ?_); rintro e w9 ⟨rfl, hb3⟩; have hB9 := bthen (bthen (Below.refl _ _).drew hb2) hb3; obtain ⟨s0, s1, s2, s3, s4, s5⟩ := (HX1.out _ hB9).cells6; have z1 := (HX1.out _ hB9).frozen 3; obtain ⟨t0, t1, t2, t3, t4, t5⟩ := (HX2.out _ hB9).cells6; have y1 := (HX2.out _ hB9).frozen 3; have u1 := fun x => ((HX2.out _ hB9).setO ⟨g1, 3, none⟩ x (by show g1 + 1 ≠ g1; omega)).cells6; have v1 := fun x => ((HX2.out _ hB9).setO ⟨g1, 3, none⟩ x (by show g1 + 1 ≠ g1; omega)).frozen 3)
              | (go_at_call 13; (with_reducible refine (HFL.out _ (bthen (Below.refl _ _).drew hb2)).mono ?_); rintro e w9 ⟨rfl, hb3⟩; have hB9 := bthen (bthen (Below.refl _ _).drew hb2) hb3; obtain ⟨s0, s1, s2, s3, s4, s5⟩ := (HX1.out _ hB9).cells6; have z1 := (HX1.out _ hB9).frozen 3; obtain ⟨t0, t1, t2, t3, t4, t5⟩ := (HX2.out _ hB9).cells6; have y1 := (HX2.out _ hB9).frozen 3; have u1 := fun x => ((HX2.out _ hB9).setO ⟨g1, 3, none⟩ x (by show g1 + 1 ≠ g1; omega)).cells6; have v1 := fun x => ((HX2.out _ hB9).setO ⟨g1, 3, none⟩ x (by show g1 + 1 ≠ g1; omega)).frozen 3)
              | (go_at_call 13; (with_reducible refine (HFV.out _ (Below.refl _ _).drew).mono ?_); rintro e w8 ⟨rfl, hb2⟩)
              | (go_at_call 13; (with_reducible refine (HFL.out _ (Below.refl _ _).drew).mono ?_); rintro e w8 ⟨rfl, hb2⟩))
          all_goals
            have e1 := ((HX1.out _ hB9).set 3 (.bool FV)).setO ⟨g1 + 1, 3, none⟩ (.bool FL) (by show g1 ≠ g1 + 1; omega)
            have e2 := ((HX2.out _ hB9).setO ⟨g1, 3, none⟩ (.bool FV) (by show g1 + 1 ≠ g1; omega)).set 3 (.bool FL)
            rw [HS1.out] at e1
            rw [HS2.out] at e2
            have e3 := ((HB7.out.call hB9).setO ⟨g1, 3, none⟩ (.bool FV) (by show g ≠ g1; omega)).setO ⟨g1 + 1, 3, none⟩ (.bool FL) (by show g ≠ g1 + 1; omega)
            have e4 : RulAt ((w9.setCell ⟨g1, 3, none⟩ (.bool FV)).setCell ⟨g1 + 1, 3, none⟩ (.bool FL)) X a2 cc2 := ⟨labs_setG (labs_setG (HA7.out.call hB9).1 HLT.out (Nat.le_refl g1) _) HLT.out (Nat.le_succ g1) _, HA7.out.2⟩
            have e5 := ((HBR.out.trans (hB9.mono (Nat.le_of_lt HB7.out.lt))).setCell (p := ⟨g1, 3, none⟩) (Nat.le_of_lt hg4) (.bool FV)).setCell (p := ⟨g1 + 1, 3, none⟩) (Nat.le_of_lt (Nat.lt_succ_of_lt hg4)) (.bool FL)
            have E1 := Lib.hid e1
            have E2 := Lib.hid e2
            have E3 := Lib.hid e3
            have E4 := Lib.hid e4
            have E5 := Lib.hid e5
            clear e1 e2 e3 e4 e5 s0 s1 s2 s3 s4 s5 z1 t0 t1 t2 t3 t4 t5 y1 u1 v1 hB9 hb2 hb3
            generalize (w9.setCell ⟨g1, 3, none⟩ (.bool FV)).setCell ⟨g1 + 1, 3, none⟩ (.bool FL) = w10 at *
            go_wp2_with fail
            go_roundg gg
            case measure => omega
            case rel => exact ⟨3 + 1, by omega, by omega, by go_num, ⟨_, E3.out⟩, E1.out, E2.out, E4.out, E5.out⟩
        · obtain rfl : Q = 4 := by omega
          clear hQ
          go_region_held3 (fun w' => w'.cell? ⟨g, 0, none⟩ = some (.string X.name) ∧ w'.cell? ⟨g, 1, none⟩ = some (.string X.metric) ∧ w'.cell? ⟨g, 2, none⟩ = some (.int .i64 4) ∧ w'.cell? ⟨g, 3, none⟩ = some (.int .i64 X.limit) ∧ w'.cell? ⟨g, 4, none⟩ = some (.int .i64 X.fr) ∧ w'.cell? ⟨g, 5, none⟩ = some (.int .i64 X.keep) ∧ w'.cell? ⟨g, 6, none⟩ = some (.int .i64 X.tries) ∧ w'.cell? ⟨g, 7, none⟩ = some (.slice a2 X.labels.length cc2))
            (first | exact HCS.out _ (Below.refl _ _).drew | exact HCS.out _ (bthen (Below.refl _ _).drew hb2) | exact HCS.out _ (bthen (bthen (Below.refl _ _).drew hb2) hb3) | exact ((HB7.out.call hB9).setO ⟨g1, 4, none⟩ _ (by show g ≠ g1; omega)).cells8 | exact (((HB7.out.call hB9).setO ⟨g1, 4, none⟩ _ (by show g ≠ g1; omega)).setO ⟨g1 + 1, 4, none⟩ _ (by show g ≠ g1 + 1; omega)).cells8)
            (first
              | (go_at_call 13; (with_reducible refine (HFV.out _ (bthen (Below.refl _ _).drew hb2)).mono ?_); rintro e w9 ⟨rfl, hb3⟩; have hB9 := bthen (bthen (Below.refl _ _).drew hb2) hb3; obtain ⟨s0, s1, s2, s3, s4, s5⟩ := (HX1.out _ hB9).cells6; have z1 := (HX1.out _ hB9).frozen 4; obtain ⟨t0, t1, t2, t3, t4, t5⟩ := (HX2.out _ hB9).cells6; have y1 := (HX2.out _ hB9).frozen 4; have u1 := fun x => ((HX2.out _ hB9).setO ⟨g1, 4, none⟩ x (by show g1 + 1 ≠ g1; omega)).cells6; have v1 := fun x => ((HX2.out _ hB9).setO ⟨g1, 4, none⟩ x (by show g1 + 1 ≠ g1; omega)).frozen 4)
              | (go_at_call 13; (with_reducible refine (HFL.out _ (bthen (Below.refl _ _).drew hb2)).mono ?_); rintro e w9 ⟨rfl, hb3⟩; have hB9 := bthen (bthen (Below.refl _ _).drew hb2) hb3; obtain ⟨s0, s1, s2, s3, s4, s5⟩ := (HX1.out _ hB9).cells6; have z1 := (HX1.out _ hB9).frozen 4; obtain ⟨t0, t1, t2, t3, t4, t5⟩ := (HX2.out _ hB9).cells6; have y1 := (HX2.out _ hB9).frozen 4; have u1 := fun x => ((HX2.out _ hB9).setO ⟨g1, 4, none⟩ x (by show g1 + 1 ≠ g1; omega)).cells6; have v1 := fun x => ((HX2.out _ hB9).setO ⟨g1, 4, none⟩ x (by show g1 + 1 ≠ g1; omega)).frozen 4)
              | (go_at_call 13; (with_reducible refine (HFV.out _ (Below.refl _ _).drew).mono ?_); rintro e w8 ⟨rfl, hb2⟩)
              | (go_at_call 13; (with_reducible refine (HFL.out _ (Below.refl _ _).drew).mono ?_); rintro e w8 ⟨rfl, hb2⟩))
          all_goals
            have e1 := ((HX1.out _ hB9).set 4 (.bool FV)).setO ⟨g1 + 1, 4, none⟩ (.bool FL) (by show g1 ≠ g1 + 1; omega)
            have e2 := ((HX2.out _ hB9).setO ⟨g1, 4, none⟩ (.bool FV) (by show g1 + 1 ≠ g1; omega)).set 4 (.bool FL)
            rw [HS1.out] at e1
            rw [HS2.out] at e2
            have e3 := ((HB7.out.call hB9).setO ⟨g1, 4, none⟩ (.bool FV) (by show g ≠ g1; omega)).setO ⟨g1 + 1, 4, none⟩ (.bool FL) (by show g ≠ g1 + 1; omega)
            have e4 : RulAt ((w9.setCell ⟨g1, 4, none⟩ (.bool FV)).setCell ⟨g1 + 1, 4, none⟩ (.bool FL)) X a2 cc2 := ⟨labs_setG (labs_setG (HA7.out.call hB9).1 HLT.out (Nat.le_refl g1) _) HLT.out (Nat.le_succ g1) _, HA7.out.2⟩
            have e5 := ((HBR.out.trans (hB9.mono (Nat.le_of_lt HB7.out.lt))).setCell (p := ⟨g1, 4, none⟩) (Nat.le_of_lt hg4) (.bool FV)).setCell (p := ⟨g1 + 1, 4, none⟩) (Nat.le_of_lt (Nat.lt_succ_of_lt hg4)) (.bool FL)
            have E1 := Lib.hid e1
            have E2 := Lib.hid e2
            have E3 := Lib.hid e3
            have E4 := Lib.hid e4
            have E5 := Lib.hid e5
            clear e1 e2 e3 e4 e5 s0 s1 s2 s3 s4 s5 z1 t0 t1 t2 t3 t4 t5 y1 u1 v1 hB9 hb2 hb3
            generalize (w9.setCell ⟨g1, 4, none⟩ (.bool FV)).setCell ⟨g1 + 1, 4, none⟩ (.bool FL) = w10 at *
            go_wp2_with fail
            go_roundg gg
            case measure => omega
            case rel => exact ⟨4 + 1, by omega, by omega, by go_num, ⟨_, E3.out⟩, E1.out, E2.out, E4.out, E5.out⟩
        · obtain rfl : Q = 5 := by omega
          clear hQ
          go_region_held3 (fun w' => w'.cell? ⟨g, 0, none⟩ = some (.string X.name) ∧ w'.cell? ⟨g, 1, none⟩ = some (.string X.metric) ∧ w'.cell? ⟨g, 2, none⟩ = some (.int .i64 5) ∧ w'.cell? ⟨g, 3, none⟩ = some (.int .i64 X.limit) ∧ w'.cell? ⟨g, 4, none⟩ = some (.int .i64 X.fr) ∧ w'.cell? ⟨g, 5, none⟩ = some (.int .i64 X.keep) ∧ w'.cell? ⟨g, 6, none⟩ = some (.int .i64 X.tries) ∧ w'.cell? ⟨g, 7, none⟩ = some (.slice a2 X.labels.length cc2))
            (first | exact HCS.out _ (Below.refl _ _).drew | exact HCS.out _ (bthen (Below.refl _ _).drew hb2) | exact HCS.out _ (bthen (bthen (Below.refl _ _).drew hb2) hb3) | exact ((HB7.out.call hB9).setO ⟨g1, 5, none⟩ _ (by show g ≠ g1; omega)).cells8 | exact (((HB7.out.call hB9).setO ⟨g1, 5, none⟩ _ (by show g ≠ g1; omega)).setO ⟨g1 + 1, 5, none⟩ _ (by show g ≠ g1 + 1; omega)).cells8)
            (first
              | (go_at_call 13; (with_reducible refine (HFV.out _ (bthen (Below.refl _ _).drew hb2)).mono ?_); rintro e w9 ⟨rfl, hb3⟩; have hB9 := bthen (bthen (Below.refl _ _).drew hb2) hb3; obtain ⟨s0, s1, s2, s3, s4, s5⟩ := (HX1.out _ hB9).cells6; have z1 := (HX1.out _ hB9).frozen 5; obtain ⟨t0, t1, t2, t3, t4, t5⟩ := (HX2.out _ hB9).cells6; have y1 := (HX2.out _ hB9).frozen 5; have u1 := fun x => ((HX2.out _ hB9).setO ⟨g1, 5, none⟩ x (by show g1 + 1 ≠ g1; omega)).cells6; have v1 := fun x => ((HX2.out _ hB9).setO ⟨g1, 5, none⟩ x (by show g1 + 1 ≠ g1; omega)).frozen 5)
              | (go_at_call 13; (with_reducible refine (HFL.out _ (bthen (Below.refl _ _).drew hb2)).mono ?_); rintro e w9 ⟨rfl, hb3⟩; have hB9 := bthen (bthen (Below.refl _ _).drew hb2) hb3; obtain ⟨s0, s1, s2, s3, s4, s5⟩ := (HX1.out _ hB9).cells6; have z1 := (HX1.out _ hB9).frozen 5; obtain ⟨t0, t1, t2, t3, t4, t5⟩ := (HX2.out _ hB9).cells6; have y1 := (HX2.out _ hB9).frozen 5; have u1 := fun x => ((HX2.out _ hB9).setO ⟨g1, 5, none⟩ x (by show g1 + 1 ≠ g1; omega)).cells6; have v1 := fun x => ((HX2.out _ hB9).setO ⟨g1, 5, none⟩ x (by show g1 + 1 ≠ g1; omega)).frozen 5)
              | (go_at_call 13; (with_reducible refine (HFV.out _ (Below.refl _ _).drew).mono ?_); rintro e w8 ⟨rfl, hb2⟩)
              | (go_at_call 13; (with_reducible refine (HFL.out _ (Below.refl _ _).drew).mono ?_); rintro e w8 ⟨rfl, hb2⟩))
          all_goals
            have e1 := ((HX1.out _ hB9).set 5 (.bool FV)).setO ⟨g1 + 1, 5, none⟩ (.bool FL) (by show g1 ≠ g1 + 1; omega)
            have e2 := ((HX2.out _ hB9).setO ⟨g1, 5, none⟩ (.bool FV) (by show g1 + 1 ≠ g1; omega)).set 5 (.bool FL)
            rw [HS1.out] at e1
            rw [HS2.out] at e2
            have e3 := ((HB7.out.call hB9).setO ⟨g1, 5, none⟩ (.bool FV) (by show g ≠ g1; omega)).setO ⟨g1 + 1, 5, none⟩ (.bool FL) (by show g ≠ g1 + 1; omega)
            have e4 : RulAt ((w9.setCell ⟨g1, 5, none⟩ (.bool FV)).setCell ⟨g1 + 1, 5, none⟩ (.bool FL)) X a2 cc2 := ⟨labs_setG (labs_setG (HA7.out.call hB9).1 HLT.out (Nat.le_refl g1) _) HLT.out (Nat.le_succ g1) _, HA7.out.2⟩
            have e5 := ((HBR.out.trans (hB9.mono (Nat.le_of_lt HB7.out.lt))).setCell (p := ⟨g1, 5, none⟩) (Nat.le_of_lt hg4) (.bool FV)).setCell (p := ⟨g1 + 1, 5, none⟩) (Nat.le_of_lt (Nat.lt_succ_of_lt hg4)) (.bool FL)
            have E1 := Lib.hid e1
            have E2 := Lib.hid e2
            have E3 := Lib.hid e3
            have E4 := Lib.hid e4
            have E5 := Lib.hid e5
            clear e1 e2 e3 e4 e5 s0 s1 s2 s3 s4 s5 z1 t0 t1 t2 t3 t4 t5 y1 u1 v1 hB9 hb2 hb3
            generalize (w9.setCell ⟨g1, 5, none⟩ (.bool FV)).setCell ⟨g1 + 1, 5, none⟩ (.bool FL) = w10 at *
            go_wp2_with fail
            go_roundg gg
            case measure => omega
            case rel => exact ⟨5 + 1, by omega, by omega, by go_num, ⟨_, E3.out⟩, E1.out, E2.out, E4.out, E5.out⟩
end Go.Proofs.Ytjigdmmlgddgpab
