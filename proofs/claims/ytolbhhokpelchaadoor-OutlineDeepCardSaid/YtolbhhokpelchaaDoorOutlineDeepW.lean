/- OutlineDeep, walked. -/
import Derived.Test.YtolbhhokpelchaaDoorOtlO
namespace Go.Proofs.YtolbhhokpelchaaDoor
open Go.RowKit

/-- a node that lies in a world lies below its size -/
theorem NdAt.ok.inn {w : World} {q : NdAt} (h : q.ok w) : q.inn (fun b => b < w.heap.size) w := by
  have hn : ∀ q : NdAt, q.head w → q.n.names ≠ [] → ∀ b o s, q.na = some ⟨b, o, s⟩ → b < w.heap.size := by
    intro q hh hne b o s e
    rcases hh.1.2.2.2 with h0 | ⟨b', off, e', hb, _⟩
    · exact absurd h0 hne
    · rw [e] at e'
      cases e'
      exact hb
  induction h with
  | flat q h0 h1 => exact .flat q h0 (hn q h0) h1
  | row q b off R h0 h1 h2 h3 h4 h5 ih => exact .row q b off R h0 (hn q h0) h1 h2 h2 h3 h4 ih
theorem row_inn {w : World} {q : NdAt} {P : Nat → Prop} {g : Nat} (h : q.inn P w) (hg : Blk w g 25 (nCells q)) (hp : P g) : NdAt.inn P w ⟨rowN q.n, none, 0, some ⟨g, 0, none⟩, 1⟩ := by
  refine .row _ g 0 (fun _ => q) ⟨noStrs w, Nat.zero_le _, rfl, Nat.le_refl 1, by show (1 : Nat) ≤ maxLen; unfold maxLen; omega⟩ (fun h => absurd rfl h) rfl hp hg.lt (fun i hi => ?_) (fun i hi => ?_) fun _ _ => h
  · obtain rfl : i = 0 := by have : i < 1 := hi; omega
    rfl
  · obtain rfl : i = 0 := by have : i < 1 := hi; omega
    exact ⟨hg.cell 0, hg.cell 1, hg.cell 2, hg.cell 3⟩

set_option maxHeartbeats 12800000 in
set_option maxRecDepth 100000 in
theorem outlineDeep_walk {w : World} (q : NdAt) (hq : q.ok w) (a : ByteArray) (_ha : a.size ≤ maxLen) (b : ByteArray) (_hb : b.size ≤ maxLen) (hm : MaxC w) : Calls Tryd.prog 6 #[.agg (nCells q), .string a, .string b] w (BoolW true w) := by
  have hmf : ∀ (fn : Fn) (first cap : Array Value) (w : World), (Instr.makeFunc fn first cap).run Tryd.prog w = .ok (.func fn first cap) w := fun _ _ _ _ => rfl
  have HA := Lib.hid (fun W (h : Below w.heap.size w W) => alive_any W (hm.call h))
  have HM := Lib.hid (fun W (h : Below w.heap.size w W) => many_any hq W 300 h (by omega))
  have HQ := Lib.hid (fun W (h : Below w.heap.size w W) => hq.call h)
  have hm1 : ∀ W (t : TypeId) (ts : Array TypeId), (Builtin.min_ ts t #[.int .i64 (a.size : Int), .int .i64 70]).run Tryd.prog W = .ok (.int .i64 ((min a.size 70 : Nat) : Int)) W := fun W t ts => run_minN W ts t a.size 70
  have hm2 : ∀ W (t : TypeId) (ts : Array TypeId), (Builtin.min_ ts t #[.int .i64 (b.size : Int), .int .i64 70]).run Tryd.prog W = .ok (.int .i64 ((min b.size 70 : Nat) : Int)) W := fun W t ts => run_minN W ts t b.size 70
  have hs1 := fun W => run_cutN (P := Tryd.prog) W 9 70 a Tryd.underlying9
  have hs2 := fun W => run_cutN (P := Tryd.prog) W 9 70 b Tryd.underlying9
  have l1 := cutN_size 70 a
  have l2 := cutN_size 70 b
  generalize cutN 70 a = A at *
  generalize cutN 70 b = B at *
  generalize min a.size 70 = m1 at *
  generalize min b.size 70 = m2 at *
  have LA := Lib.hid (show A.size ≤ maxLen by unfold maxLen; omega)
  have LB := Lib.hid (show B.size ≤ maxLen by unfold maxLen; omega)
  have HAB := Lib.hid (show (A.toList == B.toList) = decide (A = B) by
    by_cases h : A = B
    · subst h
      simp
    · have h2 : A.toList ≠ B.toList := fun e => h (bytes_ext (by rw [← ByteArray.toList_eq, ← ByteArray.toList_eq]; exact e))
      simp [h, h2])
  clear hm hq l1 l2
  obtain ⟨n, na, nc, ia, ic⟩ := q
  simp only [nCells] at *
  go_enter Tryd.func6, Tryd.ntmps6
  go_upto_region 1 with fail
  have hB := Blk.new w 25 #[.int .i64 n.kind, .string n.word, .slice na n.names.length nc, .slice ia n.items.length ic]
  have hb0 := below_al (o := .cells #[.int .i64 n.kind, .string n.word, .slice na n.names.length nc, .slice ia n.items.length ic] 25) (Below.refl w.heap.size w)
  have HMa := Lib.hid (HM.out _ hb0)
  generalize w.alloc (.cells #[.int .i64 n.kind, .string n.word, .slice na n.names.length nc, .slice ia n.items.length ic] 25) = wx at *
  obtain ⟨g3, hg3⟩ : ∃ g, w.heap.size = g := ⟨_, rfl⟩
  have HG3 := Lib.hid hg3
  have HB0 : Hid (Below w.heap.size w wx) := Lib.hid hb0
  rw [hg3] at hB ⊢
  clear hg3 hb0
  obtain ⟨c0, c1, c2, c3⟩ := hB.cells4
  go_upto_block 0 with (first
    | (go_at_call 9; refine HMa.out.mono ?_; rintro e w1 ⟨z, rfl, hz1, hz2, hz3, hb1⟩; have HB1 := Lib.hid (bthen HB0.out hb1); have hB1 := hB.call hb1; obtain ⟨d0, d1, d2, d3⟩ := hB1.cells4)
    | (go_at_call 10; refine (HA.out _ HB1.out).mono ?_; rintro e w2 ⟨rfl, hb2⟩))
  · go_ret
    exact ⟨rfl, bthen HB1.out hb2⟩
  have hz7 : g3 < w1.heap.size := hB1.lt
  have hB4 := hB1.alloc (.cells #[.int .i64 n.kind, .string n.word, .slice na n.names.length nc, .slice ia n.items.length ic] 25)
  have hD4 := Blk.new w1 25 #[.int .i64 n.kind, .string n.word, .slice na n.names.length nc, .slice ia n.items.length ic]
  have hb4 := below_al (o := .cells #[.int .i64 n.kind, .string n.word, .slice na n.names.length nc, .slice ia n.items.length ic] 25) HB1.out
  have hwz : w.heap.size ≤ w1.heap.size := HB1.out.size
  clear hB hB1 c0 c1 c2 c3 d0 d1 d2 d3 hb1 HMa HB1 HB0 hz1 hz2 hz3
  generalize w1.alloc (.cells #[.int .i64 n.kind, .string n.word, .slice na n.names.length nc, .slice ia n.items.length ic] 25) = w4 at *
  obtain ⟨g7, hg7⟩ : ∃ g, w1.heap.size = g := ⟨_, rfl⟩
  rw [hg7] at hD4 hz7 hwz ⊢
  clear hg7
  go_cut [8] (fun v8 wy => ∃ k : Nat, v8 = .int .i64 (k : Int) ∧ k ≤ 8 ∧ nodeC n = decide (0 < k) ∧ Below w.heap.size w wy ∧ Blk wy g3 25 #[.int .i64 n.kind, .string n.word, .slice na n.names.length nc, .slice ia n.items.length ic])
  case first =>
    go_wp2_with fail
    go_loopg [8] 9 (fun gg v8 wr => ∃ (k : Nat) (q' : NdAt), k + gg = 9 ∧ k ≤ 8 ∧ v8 = .int .i64 (k : Int) ∧ q'.n = rowK k n ∧ q'.inn (fun b => b ≠ g7 ∧ b < wr.heap.size) wr ∧ Blk wr g7 25 (nCells q') ∧ Hid (0 < k → nodeC n = true) ∧ Below w.heap.size w wr ∧ Blk wr g3 25 #[.int .i64 n.kind, .string n.word, .slice na n.names.length nc, .slice ia n.items.length ic])
    case atStart =>
      refine ⟨0, ⟨n, na, nc, ia, ic⟩, rfl, Nat.zero_le _, rfl, rfl, ?_, hD4, Lib.hid (fun h => absurd h (Nat.lt_irrefl _)), hb4, hB4⟩
      exact (((HQ.out w (Below.refl _ _)).inn).keep hb4.size fun b hb => hb4.block b hb).mono fun b hb => ⟨by omega, Nat.lt_of_lt_of_le hb hb4.size⟩
    case round =>
      clear hD4 hb4 hB4
      obtain ⟨k, ⟨m, ma, mc, ja, jc⟩, hkg, hk8, rfl, hqn, hqi, hD, HK, hbr, hB⟩ := hrel
      dsimp only at hqn
      subst hqn
      cases gk with
      | zero => exact absurd hkg (by omega)
      | succ gg =>
        have HR := Lib.hid (oRight_any _ _ hqi.ok)
        have HQI := Lib.hid hqi
        clear hqi
        obtain ⟨R, hR⟩ : ∃ R, nodeC (rowK k n) = R := ⟨_, rfl⟩
        dsimp only at HR
        rw [hR] at HR
        obtain ⟨k0, k1, k2, k3⟩ := hD.cells4
        cases R with
        | false =>
          go_wp2_with (go_at_call 12; refine HR.out.mono ?_; rintro e w5 ⟨rfl, hb5⟩)
          go_meet
          refine ⟨k, rfl, hk8, ?_, hbr.trans (hb5.mono hbr.size), hB.call hb5⟩
          cases k with
          | zero => exact hR
          | succ k => exact HK.out (Nat.succ_pos k)
        | true =>
          have hk7 : k < 8 := by
            refine Nat.lt_of_le_of_ne hk8 fun h => ?_
            subst h
            rw [rowK_8] at hR
            cases hR
          have d10 : decide ((k : Int) < 10) = true := decide_eq_true (by omega)
          have hnn : nodeC n = true := by
            cases k with
            | zero => exact hR
            | succ k => exact HK.out (Nat.succ_pos k)
          go_wp2_with (go_at_call 12; refine HR.out.mono ?_; rintro e w5 ⟨rfl, hb5⟩; have hD5 := hD.call hb5; obtain ⟨x0, x1, x2, x3⟩ := hD5.cells4; have f0 := hD5.frozen 0; have f1 := hD5.frozen 1; have f2 := hD5.frozen 2; have f3 := hD5.frozen 3; have hD6 := fun o => hD5.alloc o; have y0 := fun o => (hD6 o).cell 0; have y1 := fun o => (hD6 o).cell 1; have y2 := fun o => (hD6 o).cell 2; have y3 := fun o => (hD6 o).cell 3; have e0 := fun o => (hD6 o).frozen 0; have e1 := fun o => (hD6 o).frozen 1; have e2 := fun o => (hD6 o).frozen 2; have e3 := fun o => (hD6 o).frozen 3)
          have hg37 : g3 ≠ g7 := Nat.ne_of_lt hz7
          have hN := Blk.new w5 25 #[.int .i64 (rowK k n).kind, .string (rowK k n).word, .slice ma (rowK k n).names.length mc, .slice ja (rowK k n).items.length jc]
          have h75 := hD5.lt
          obtain ⟨s1, s2, s3, s4, s5, s6⟩ := st4b (hD6 (.cells #[.int .i64 (rowK k n).kind, .string (rowK k n).word, .slice ma (rowK k n).names.length mc, .slice ja (rowK k n).items.length jc] 25)) (.int .i64 2) (.string ⟨#[]⟩) (.slice none 0 0) (.slice (some ⟨w5.heap.size, 0, none⟩) 1 1) _ rfl
          have hb6 := below_al (o := .cells #[.int .i64 (rowK k n).kind, .string (rowK k n).word, .slice ma (rowK k n).names.length mc, .slice ja (rowK k n).items.length jc] 25) (Below.refl w5.heap.size w5)
          have hbg := below_set4N (hbr.trans ((hb5.trans (hb6.mono hb5.size)).mono hbr.size)) hwz (.int .i64 2) (.string ⟨#[]⟩) (.slice none 0 0) (.slice (some ⟨w5.heap.size, 0, none⟩) 1 1)
          have hB6 := (hB.call hb5).alloc (.cells #[.int .i64 (rowK k n).kind, .string (rowK k n).word, .slice ma (rowK k n).names.length mc, .slice ja (rowK k n).items.length jc] 25)
          have hz6 : w5.heap.size + 1 = (w5.alloc (.cells #[.int .i64 (rowK k n).kind, .string (rowK k n).word, .slice ma (rowK k n).names.length mc, .slice ja (rowK k n).items.length jc] 25)).heap.size := by simp
          go_roundg gg
          case measure => omega
          case rel =>
            refine ⟨k + 1, ⟨rowN (rowK k n), none, 0, some ⟨w5.heap.size, 0, none⟩, 1⟩, by omega, by omega, by go_num, rfl, ?_, s1, Lib.hid (fun _ => hnn), hbg, (s2 g3 hg37).trans hB6⟩
            refine row_inn (q := ⟨rowK k n, ma, mc, ja, jc⟩) ?_ ((s2 _ (by omega)).trans hN) ⟨by omega, by rw [s3, ← hz6]; omega⟩
            exact (HQI.out.keep (by rw [s3, ← hz6]; have := hb5.size; omega) fun b hb => ((s2 b hb.1).trans (hb6.block b (Nat.lt_of_lt_of_le hb.2 hb5.size))).trans (hb5.block b hb.2)).mono fun b hb => ⟨hb.1, by rw [s3, ← hz6]; have := hb5.size; omega⟩
  clear hD4 hb4 hB4
  obtain ⟨k, rfl, hk8, hnk, hby, hBy⟩ := hcut
  obtain ⟨R, hR, hRd, hRn⟩ : ∃ R, nodeC n = R ∧ decide ((0 : Int) < (k : Int)) = R ∧ decide (0 < k) = R := ⟨nodeC n, rfl, by rw [hnk]; exact decide_eq_decide.mpr (by omega), hnk.symm⟩
  have d8 : decide ((8 : Int) < (k : Int)) = false := decide_eq_false (by omega)
  have HR := Lib.hid (oRight_any ⟨n, na, nc, ia, ic⟩ wc (HQ.out wc hby))
  dsimp only at HR
  rw [hR] at HR
  obtain ⟨c0, c1, c2, c3⟩ := hBy.cells4
  clear hBy hnk hk8 hR
  cases R with
  | false =>
    go_upto_region 9 with (first
      | (go_at_call 12; refine HR.out.mono ?_; rintro e w5 ⟨rfl, hb5⟩; have hb5' := hby.trans (hb5.mono hby.size))
      | (go_at_call 10; refine (HA.out _ hb5').mono ?_; rintro e w6 ⟨rfl, hb6⟩))
    have hb7 := hb5'.trans (hb6.mono hb5'.size)
    clear c0 c1 c2 c3 hb5 hb6 hby hb5'
    go_region
    all_goals
      go_upto_region 12 with fail
      have hx := (Blk.new w6 25 #[.int .i64 1, .string ⟨#[120]⟩, .slice none 0 0, .slice none 0 0]).drew
      have hbx := (below_al (o := .cells #[.int .i64 1, .string ⟨#[120]⟩, .slice none 0 0, .slice none 0 0] 25) hb7).drew
      generalize (w6.alloc (.cells #[.int .i64 1, .string ⟨#[120]⟩, .slice none 0 0, .slice none 0 0] 25)).drew = wy at *
      obtain ⟨g9, hg9⟩ : ∃ g, w6.heap.size = g := ⟨_, rfl⟩
      rw [hg9] at hx ⊢
      have hr2 := oRight_any _ _ (two_ok ((wy.alloc (.cells #[.string A, .string B] 9)).alloc (.cells #[.int .i64 1, .string ⟨#[120]⟩, .slice none 0 0, .slice none 0 0, .int .i64 1, .string ⟨#[120]⟩, .slice none 0 0, .slice none 0 0] 25)) A B LA.out LB.out wy.heap.size (wy.heap.size + 1) ((Blk.new wy _ _).alloc _) (nbN wy _ _ _))
      dsimp only at hr2
      rw [twoC] at hr2
      have HR2 := Lib.hid hr2
      have HXX := Lib.hid ((hx.alloc (.cells #[.string A, .string B] 9)).alloc (.cells #[.int .i64 1, .string ⟨#[120]⟩, .slice none 0 0, .slice none 0 0, .int .i64 1, .string ⟨#[120]⟩, .slice none 0 0, .slice none 0 0] 25))
      have HBB := Lib.hid (below_al (o := .cells #[.int .i64 1, .string ⟨#[120]⟩, .slice none 0 0, .slice none 0 0, .int .i64 1, .string ⟨#[120]⟩, .slice none 0 0, .slice none 0 0] 25) (below_al (o := .cells #[.string A, .string B] 9) hbx))
      have HO1 := Lib.hid (fun W h => one_any A g9 W LA.out h)
      have HO2 := Lib.hid (fun W h => one_any B g9 W LB.out h)
      obtain ⟨k0, k1, k2, k3⟩ := hx.cells4
      obtain ⟨y0, y1, y2, y3⟩ := (hx.alloc (.cells #[.string A, .string B] 9)).cells4
      clear hr2 hx hg9 hb7 hbx
      generalize oneC A = P at *
      generalize oneC B = Q at *
      cases P <;> cases Q
      all_goals
        go_wp2_with (first
          | (go_at_call 12; refine HR2.out.mono ?_; rintro e w7 ⟨rfl, hb8⟩; have hx7 := HXX.out.call hb8; have hb9 := HBB.out.trans (hb8.mono HBB.out.size))
          | (go_at_call 24; refine (HO1.out _ hx7).mono ?_; rintro e w8 ⟨rfl, hbA⟩; have hx8 := hx7.call hbA; have hbB := hb9.trans (hbA.mono hb9.size))
          | (go_at_call 24; refine (HO2.out _ hx8).mono ?_; rintro e w9 ⟨rfl, hbC⟩; have hbD := hbB.trans (hbC.mono hbB.size)))
        go_ret
        first
          | exact ⟨rfl, hbD⟩
          | exact ⟨rfl, hbB⟩
          | exact ⟨by rw [HAB.out]; simp, hbD⟩
  | true =>
    go_upto_region 9 with (first
      | (go_at_call 12; refine HR.out.mono ?_; rintro e w5 ⟨rfl, hb5⟩; have hb5' := hby.trans (hb5.mono hby.size))
      | (go_at_call 10; refine (HA.out _ hb5').mono ?_; rintro e w6 ⟨rfl, hb6⟩))
    have hb7 := hb5'.trans (hb6.mono hb5'.size)
    clear c0 c1 c2 c3 hb5 hb6 hby hb5'
    go_region
    all_goals
      go_upto_region 12 with fail
      have hx := (Blk.new w6 25 #[.int .i64 1, .string ⟨#[120]⟩, .slice none 0 0, .slice none 0 0]).drew
      have hbx := (below_al (o := .cells #[.int .i64 1, .string ⟨#[120]⟩, .slice none 0 0, .slice none 0 0] 25) hb7).drew
      generalize (w6.alloc (.cells #[.int .i64 1, .string ⟨#[120]⟩, .slice none 0 0, .slice none 0 0] 25)).drew = wy at *
      obtain ⟨g9, hg9⟩ : ∃ g, w6.heap.size = g := ⟨_, rfl⟩
      rw [hg9] at hx ⊢
      have hr2 := oRight_any _ _ (two_ok ((wy.alloc (.cells #[.string A, .string B] 9)).alloc (.cells #[.int .i64 1, .string ⟨#[120]⟩, .slice none 0 0, .slice none 0 0, .int .i64 1, .string ⟨#[120]⟩, .slice none 0 0, .slice none 0 0] 25)) A B LA.out LB.out wy.heap.size (wy.heap.size + 1) ((Blk.new wy _ _).alloc _) (nbN wy _ _ _))
      dsimp only at hr2
      rw [twoC] at hr2
      have HR2 := Lib.hid hr2
      have HXX := Lib.hid ((hx.alloc (.cells #[.string A, .string B] 9)).alloc (.cells #[.int .i64 1, .string ⟨#[120]⟩, .slice none 0 0, .slice none 0 0, .int .i64 1, .string ⟨#[120]⟩, .slice none 0 0, .slice none 0 0] 25))
      have HBB := Lib.hid (below_al (o := .cells #[.int .i64 1, .string ⟨#[120]⟩, .slice none 0 0, .slice none 0 0, .int .i64 1, .string ⟨#[120]⟩, .slice none 0 0, .slice none 0 0] 25) (below_al (o := .cells #[.string A, .string B] 9) hbx))
      have HO1 := Lib.hid (fun W h => one_any A g9 W LA.out h)
      have HO2 := Lib.hid (fun W h => one_any B g9 W LB.out h)
      obtain ⟨k0, k1, k2, k3⟩ := hx.cells4
      obtain ⟨y0, y1, y2, y3⟩ := (hx.alloc (.cells #[.string A, .string B] 9)).cells4
      clear hr2 hx hg9 hb7 hbx
      generalize oneC A = P at *
      generalize oneC B = Q at *
      cases P <;> cases Q
      all_goals
        go_wp2_with (first
          | (go_at_call 12; refine HR2.out.mono ?_; rintro e w7 ⟨rfl, hb8⟩; have hx7 := HXX.out.call hb8; have hb9 := HBB.out.trans (hb8.mono HBB.out.size))
          | (go_at_call 24; refine (HO1.out _ hx7).mono ?_; rintro e w8 ⟨rfl, hbA⟩; have hx8 := hx7.call hbA; have hbB := hb9.trans (hbA.mono hb9.size))
          | (go_at_call 24; refine (HO2.out _ hx8).mono ?_; rintro e w9 ⟨rfl, hbC⟩; have hbD := hbB.trans (hbC.mono hbB.size)))
        go_ret
        first
          | exact ⟨rfl, hbD⟩
          | exact ⟨rfl, hbB⟩
          | exact ⟨by rw [HAB.out]; simp, hbD⟩
end Go.Proofs.YtolbhhokpelchaaDoor
