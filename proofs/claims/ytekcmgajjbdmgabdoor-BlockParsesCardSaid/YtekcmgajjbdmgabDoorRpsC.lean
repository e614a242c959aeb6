/- The document's own state of a text's reading in memory, and the contract of its 'line' outside a block, and at a block's end. -/
import Derived.Test.YtekcmgajjbdmgabDoorPrsF
import Derived.Test.YtekcmgajjbdmgabDoorRpsB
namespace Go.Proofs.YtekcmgajjbdmgabDoor
open Go.RowKit

/-- blocks so far, as a slice of the call's own; its rows lie from block B on -/
def SAt (w : World) (B : Nat) (v : Value) (ds : List Dfn) : Prop := ∃ qs lo, qs.map (·.d) = ds ∧ OwnD 61 w B v qs ∧ B ≤ lo ∧ lo ≤ w.heap.size ∧ RowsAt w lo qs
theorem SAt.call {w w1 : World} {B : Nat} {v : Value} {ds : List Dfn} (h : SAt w B v ds) (hb : Below w.heap.size w w1) : SAt w1 B v ds := by
  obtain ⟨qs, lo, h1, h3, h4, h5, h6⟩ := h
  exact ⟨qs, lo, h1, h3.call hb, h4, Nat.le_trans h5 hb.size, h6.call hb⟩
theorem SAt.start {w : World} {B : Nat} (hz : B ≤ w.heap.size) : SAt w B (.slice none 0 0) [] := ⟨[], B, rfl, OwnD.nil _ _ _, Nat.le_refl _, hz, RowsAt.nil _ _⟩
theorem SAt.defs {w : World} {B : Nat} {v : Value} {ds : List Dfn} (h : SAt w B v ds) : ∃ a c, v = .slice a ds.length c ∧ HasDefs w a c ds := by
  obtain ⟨qs, lo, rfl, h3, h4, h5, h6⟩ := h
  obtain ⟨a, c, rfl, hd⟩ := h3.defs fun q hq => ((h6.all h5) q hq).1.1
  exact ⟨a, c, by rw [List.length_map], hd⟩
theorem ownD_type {w : World} {B g : Nat} {v : Value} {qs : List DefAt} {t : TypeId} {cs : Array Value} (h : OwnD 61 w B v qs) (hb : Blk w g t cs) (hne : t ≠ 61) : some g ≠ v.ownBlock := by
  have k : w.ownsRow B 61 3 v qs.length (defsV qs) := h
  rcases k.2 with ⟨rfl, _⟩ | ⟨g', cap, cur, rfl, _, hg, _⟩
  · intro e; cases e
  · intro e
    obtain rfl : g = g' := Option.some.inj e
    unfold Blk at hb
    rw [hb] at hg
    simp at hg
    exact hne hg.2
theorem ownS_type {w : World} {B g : Nat} {v : Value} {ss : List ByteArray} {t : TypeId} {cs : Array Value} (h : OwnS 9 w B v ss) (hb : Blk w g t cs) (hne : t ≠ 9) : some g ≠ v.ownBlock := by
  have k : w.ownsRow B 9 1 v ss.length (strsV ss) := h
  rcases k.2 with ⟨rfl, _⟩ | ⟨g', cap, cur, rfl, _, hg, _⟩
  · intro e; cases e
  · intro e
    obtain rfl : g = g' := Option.some.inj e
    unfold Blk at hb
    rw [hb] at hg
    simp at hg
    exact hne hg.2
theorem OpenAt.setT {w : World} {lo g : Nat} {q : DefAt} {t : TypeId} {cs : Array Value} (h : OpenAt w lo q) (hb : Blk w g t cs) (hne : t ≠ 9) (i : Nat) (u : Value) : OpenAt (w.setCell ⟨g, i, none⟩ u) lo q :=
  ⟨h.1.kept (u := .slice (some ⟨g, 0, none⟩) 0 0) (grown_setCell w g i u) (.inr fun e => ownS_type h.1 hb hne e.symm), h.2.1.kept (u := .slice (some ⟨g, 0, none⟩) 0 0) (grown_setCell w g i u) (.inr fun e => ownS_type h.2.1 hb hne e.symm), h.2.2⟩
theorem RowsAt.setT {w : World} {lo g : Nat} {t : TypeId} {cs : Array Value} {qs : List DefAt} (h : RowsAt w lo qs) (hb : Blk w g t cs) (hne : t ≠ 9) (i : Nat) (u : Value) : RowsAt (w.setCell ⟨g, i, none⟩ u) lo qs :=
  ⟨fun q hq => ⟨(h.1 q hq).1.setB hb hne i u, (h.1 q hq).2⟩, fun q hq => (h.2 q hq).setT hb hne i u⟩
theorem SAt.setT {w : World} {B g : Nat} {v : Value} {ds : List Dfn} {t : TypeId} {cs : Array Value} (h : SAt w B v ds) (hb : Blk w g t cs) (h1 : t ≠ 9) (h2 : t ≠ 61) (i : Nat) (u : Value) : SAt (w.setCell ⟨g, i, none⟩ u) B v ds := by
  obtain ⟨qs, lo, e, h3, h4, h5, h6⟩ := h
  exact ⟨qs, lo, e, h3.setO (ownD_type h3 hb h2) i u, h4, by simpa [World.setCell] using h5, h6.setT hb h1 i u⟩
/-- three stores into a block of the document's own state -/
theorem SAt.set3 {w : World} {B g : Nat} {v : Value} {ds : List Dfn} {x y z : Value} (h : SAt w B v ds) (hb : Blk w g 57 #[x, y, z]) (a b c : Value) : SAt (((w.setCell ⟨g, 0, none⟩ a).setCell ⟨g, 1, none⟩ b).setCell ⟨g, 2, none⟩ c) B v ds :=
  ((h.setT hb (by decide) (by decide) 0 a).setT (hb.set 0 a) (by decide) (by decide) 1 b).setT ((hb.set 0 a).set 1 b) (by decide) (by decide) 2 c

theorem results_cell_S {P : Program} {fn : Func} {p : Tmp} {ty : TypeId} (h : fn.results = #[.cell p ty]) (tmps : Array Value) (w : World) (g : Nat) (t : TypeId) (cs : Array Value) (fr : Nat × Nat) (d : TypeDesc)
    (hp : tmps.getD p undef = .pointer (some ⟨g, 0, none⟩)) (hg : w.heap[g]? = some (.cells cs t fr))
    (hu : P.underlying ty = some d) (hd : (match d with | .struct _ | .array _ _ => true | _ => false) = true) (hi : (P.info? ty).map (·.size) = some cs.size) :
    (results fn tmps).run P w = .ok (.agg cs) w := by
  have hp' : tmps[p]?.getD undef = .pointer (some ⟨g, 0, none⟩) := by simpa using hp
  simp [results, h, hp', asAddr, run_loadVar_row w g t ty cs fr d hg hu hd hi]
/-- what a line leads to -/
def LinP (B : Nat) (st : PSt) (l : Bs) (w : World) (e : Ending) (w' : World) : Prop :=
  ∃ (a' : Option Addr) (n' c' : Nat) (op' ok' : Bool), e = .returned (.agg #[.slice a' n' c', .bool op', .bool ok']) ∧ Below B w w' ∧ ((lineS st l = none ∧ ok' = false) ∨ ∃ st', lineS st l = some st' ∧ ok' = true ∧ op' = st'.2 ∧ SAt w' B (.slice a' n' c') st'.1)

theorem beginT_some {s : ByteArray} {m : Bs} (h : beginsL s.data.toList = some m) : beginT s = bytesA m ∧ beginT s ≠ ⟨#[]⟩ ∧ bwC m = true := by
  have e : beginT s = bytesA m := by unfold beginT; rw [h]
  obtain ⟨_, hm⟩ := (beginsL_iff _ _).1 h
  refine ⟨e, ?_, hm⟩
  rw [e]
  intro he
  have : m = [] := congrArg (fun x : ByteArray => x.data.toList) he
  subst this
  revert hm; decide
theorem beginT_none {s : ByteArray} (h : beginsL s.data.toList = none) : beginT s = ⟨#[]⟩ := by unfold beginT; rw [h]
theorem beginT_size (s : ByteArray) (_hs : s.size ≤ maxLen) : (beginT s).size ≤ maxLen := by
  cases h : beginsL s.data.toList with
  | none => rw [beginT_none h]; unfold maxLen; decide
  | some m =>
    obtain ⟨e, _, hm⟩ := beginT_some h
    rw [e, bytesA_size]
    have := bwC_size (s := bytesA m) (by exact hm)
    rw [bytesA_size] at this
    unfold maxLen; omega
/-- the blocks with a new one behind them -/
theorem openRows {w w2 : World} {B lo : Nat} {v : Value} {qs : List DefAt} {N : ByteArray} (hown : OwnD 61 w B v qs) (hl : lo ≤ w.heap.size) (hr : RowsAt w lo qs) (hg : w.grownBy w2 v.ownBlock) (hN : N.size ≤ maxLen) : RowsAt w2 w.heap.size (qs ++ [⟨⟨N, [], []⟩, none, 0, none, 0⟩]) := by
  constructor
  · intro q hq
    rw [List.dropLast_concat] at hq
    obtain ⟨g1, g2, g3⟩ := (hr.all hl) q hq
    exact ⟨g1.grown hown hg, g2, g3⟩
  · intro q hq
    rw [List.getLast?_concat] at hq
    obtain rfl := Option.some.inj hq
    exact ⟨OwnS.nil _ _ _, OwnS.nil _ _ _, .inl rfl, (fun s hs => by cases hs), (fun s hs => by cases hs), hN⟩

set_option maxHeartbeats 6400000 in
set_option maxRecDepth 100000 in
theorem line_out (B : Nat) (ds : List Dfn) (v : Value) (s : ByteArray) (w : World) (h : SAt w B v ds) (h64 : ds.length ≤ 64) (hs : s.size ≤ 9000) :
    Calls Tryd.prog 28 #[.agg #[v, .bool false, .bool true], .string s] w (LinP B (ds, false) s.data.toList w) := by
  have hbg := fun W => rBegins_any s W (by unfold maxLen; omega)
  have hK := beginT_size s (by unfold maxLen; omega)
  -- what comes out
  have hline : ∃ ok, ok = (!decide (beginT s = ⟨#[]⟩) && decide (ds.length < 64)) ∧ ((lineS (ds, false) s.data.toList = none ∧ ok = false) ∨ (lineS (ds, false) s.data.toList = some (ds ++ [⟨beginT s, [], []⟩], true) ∧ ok = true)) := by
    refine ⟨_, rfl, ?_⟩
    unfold lineS
    rw [if_neg (by simp)]
    cases hb : beginsL s.data.toList with
    | none => exact .inl ⟨rfl, by rw [beginT_none hb]; rfl⟩
    | some m =>
      obtain ⟨e, hne, hm⟩ := beginT_some hb
      simp only
      by_cases hl : ds.length < 64
      · right
        rw [if_pos hl]
        refine ⟨by rw [e]; rfl, ?_⟩
        simp [hne, hl]
      · left
        rw [if_neg hl]
        exact ⟨rfl, by simp [hl]⟩
  obtain ⟨ok, hok, hres⟩ := hline
  generalize beginT s = K at *
  obtain ⟨qs, lo, rfl, hown, hl1, hl2, hrows⟩ := h
  obtain ⟨a, c, rfl, _⟩ := hown.defs (fun q hq => (((hrows.all hl2) q hq).1.1))
  rw [List.length_map] at h64 hok
  have HRES := Lib.hid hres
  have hBw : B ≤ w.heap.size := by omega
  have hk2 := (Blk.new w 57 #[.slice a qs.length c, .bool false, .bool true]).alloc (.cells #[.slice none 0 0, .bool false, .bool false] 57)
  have hk4 := Blk.new (w.alloc (.cells #[.slice a qs.length c, .bool false, .bool true] 57)) 57 #[.slice none 0 0, .bool false, .bool false]
  rw [show (w.alloc (.cells #[.slice a qs.length c, .bool false, .bool true] 57)).heap.size = w.heap.size + 1 by simp] at hk4
  have hb0 := ((Below.refl w.heap.size w).alloc (Nat.le_refl _) (.cells #[.slice a qs.length c, .bool false, .bool true] 57)).alloc (by simp) (.cells #[.slice none 0 0, .bool false, .bool false] 57)
  have hWn : some w.heap.size ≠ (Value.slice a qs.length c).ownBlock := fun e => by have := (World.ownsRow.lt hown _ e.symm).2; omega
  have hWn1 : some (w.heap.size + 1) ≠ (Value.slice a qs.length c).ownBlock := fun e => by have := (World.ownsRow.lt hown _ e.symm).2; omega
  obtain ⟨i0, hi, hz0, hz1, hz2⟩ := info_partsD Tryd.infoD
  have HOWN := Lib.hid (fun W (h : Below w.heap.size w W) => hown.call h)
  have HROWS := Lib.hid (fun W (h : Below w.heap.size w W) => hrows.call h)
  have hq6 : qs.length ≤ 1000000 := by omega
  have hl2' : lo ≤ w.heap.size := hl2
  have HL := Lib.hid (And.intro hl1 hl2')
  clear hres hown hrows hl1 hl2 hl2'
  have hKe : K.toList.isEmpty = decide (K = ⟨#[]⟩) := by
    rw [ByteArray.toList_eq, Bool.eq_iff_iff, List.isEmpty_iff, decide_eq_true_eq]
    exact ⟨fun e => bytes_ext e, fun e => by rw [e]⟩
  generalize hB1 : decide (K = ⟨#[]⟩) = B1 at *
  have hlt : decide ((qs.length : Int) - 1 < 63) = decide (qs.length < 64) := by rw [decide_eq_decide]; omega
  generalize hB2 : decide (qs.length < 64) = B2 at *
  clear hB1 hB2 h64
  subst hok
  have HBG := Lib.hid hbg
  have HK2 := Lib.hid hk2
  have HK4 := Lib.hid hk4
  have HB0 := Lib.hid hb0
  clear hbg hk2 hk4 hb0
  cases B1 <;> cases B2
  · go_enter Tryd.func28, Tryd.ntmps28
    go_upto_region 1 with fail
    have hk2 := HK2.out
    have hk4 := HK4.out
    have hb0 := HB0.out
    generalize (w.alloc (.cells #[.slice a qs.length c, .bool false, .bool true] 57)).alloc (.cells #[.slice none 0 0, .bool false, .bool false] 57) = w1 at *
    obtain ⟨c0, c1, c2⟩ := hk2.cells3
    have f2 := hk2.frozen 2
    go_upto_region 5 with (go_at_call 49; (with_reducible refine (HBG.out _).mono ?_); rintro e w2 ⟨rfl, rfl⟩)
    have hk3 : Blk (w1.setCell ⟨w.heap.size, 2, none⟩ (.bool false)) w.heap.size 57 #[.slice a qs.length c, .bool false, .bool false] := hk2.set 2 (.bool false)
    have hk5 := hk4.setO ⟨w.heap.size, 2, none⟩ (.bool false) (by simp)
    have hb1 := hb0.setCell (p := ⟨w.heap.size, 2, none⟩) (Nat.le_refl _) (.bool false)
    generalize w1.setCell ⟨w.heap.size, 2, none⟩ (.bool false) = w3 at *
    clear c0 c1 c2 f2 hk2 hk4 hb0 HK2 HK4 HB0 HBG
    obtain ⟨c0, c1, c2⟩ := hk3.cells3
    have f1 := hk3.frozen 1
    go_upto_region 6 with fail
    have hk6 : Blk (w3.setCell ⟨w.heap.size, 1, none⟩ (.bool true)) w.heap.size 57 #[.slice a qs.length c, .bool true, .bool false] := hk3.set 1 (.bool true)
    have hk7 := hk5.setO ⟨w.heap.size, 1, none⟩ (.bool true) (by simp)
    have hb2 := hb1.setCell (p := ⟨w.heap.size, 1, none⟩) (Nat.le_refl _) (.bool true)
    generalize w3.setCell ⟨w.heap.size, 1, none⟩ (.bool true) = w4 at *
    clear c0 c1 c2 f1 hk3 hk5 hb1
    obtain ⟨c0, c1, c2⟩ := hk6.cells3
    have hbase : B ≤ w4.heap.size := Nat.le_trans hBw hb2.size
    go_wp2_with (at_builtin; refine (wpList_pushD w4 rfl _ _ 22 rfl B 61 i0 (.agg #[.string ⟨#[]⟩, .slice none 0 0, .slice none 0 0]) Tryd.underlying22 hi hz0 hz1 hz2 rfl (.slice a qs.length c) qs rfl (HOWN.out _ hb2) ⟨⟨K, [], []⟩, none, 0, none, 0⟩ rfl hq6 hbase ?_))
    intro v5 w5 hown5 hg5
    have hr5 := openRows (HOWN.out _ hb2) (Nat.le_trans HL.out.2 hb2.size) (HROWS.out _ hb2) hg5 hK
    have hs5 : SAt w5 B v5 (qs.map (·.d) ++ [⟨K, [], []⟩]) := ⟨_, w4.heap.size, by simp, hown5, hbase, hg5.size, hr5⟩
    have hk8 := hk6.push hg5 hWn
    have hk9 := hk7.push hg5 hWn1
    have hb5 : Below B w w5 := (HOWN.out _ hb2).grown (hb2.mono hBw) (Nat.le_refl _) hbase hg5
    obtain ⟨a5, c5, rfl, _⟩ := hs5.defs
    clear hown5 hg5 hr5 hk6 hk7 hb2 c0 c1 c2
    rw [List.length_append, List.length_map, List.length_singleton] at hs5 ⊢
    obtain ⟨c0, c1, c2⟩ := hk8.cells3
    have f0 := hk8.frozen 0
    go_upto_region 7 with fail
    have hka : Blk (w5.setCell ⟨w.heap.size, 0, none⟩ (.slice a5 (qs.length + 1) c5)) w.heap.size 57 #[.slice a5 (qs.length + 1) c5, .bool true, .bool false] := hk8.set 0 (.slice a5 (qs.length + 1) c5)
    have hkb := hk9.setO ⟨w.heap.size, 0, none⟩ (.slice a5 (qs.length + 1) c5) (by simp)
    have hs6 := hs5.setT hk8 (by decide) (by decide) 0 (.slice a5 (qs.length + 1) c5)
    have hb6 := hb5.setCell (p := ⟨w.heap.size, 0, none⟩) hBw (.slice a5 (qs.length + 1) c5)
    generalize w5.setCell ⟨w.heap.size, 0, none⟩ (.slice a5 (qs.length + 1) c5) = w6 at *
    clear c0 c1 c2 f0 hk8 hk9 hs5 hb5
    obtain ⟨c0, c1, c2⟩ := hka.cells3
    obtain ⟨d0, d1, d2⟩ := hkb.cells3
    have f0 := hkb.frozen 0
    have f1 := hkb.frozen 1
    have f2 := hkb.frozen 2
    have hs7 := hs6.set3 hkb (.slice a5 (qs.length + 1) c5) (.bool true) (.bool false)
    have hb7 := below_set3 hb6 (Nat.le_succ_of_le hBw) (.slice a5 (qs.length + 1) c5) (.bool true) (.bool false)
    have HS7 := Lib.hid hs7
    have HB7 := Lib.hid hb7
    clear hs6 hs7 hb6 hb7
    go_wp2_with fail
    refine bodyPost_ret (v := .agg #[.slice a5 (qs.length + 1) c5, .bool true, .bool false]) ?_ rfl ⟨_, _, _, true, false, rfl, HB7.out, ?_⟩
    · refine (results_cell_S rfl _ _ (w.heap.size + 1) _ #[.slice a5 (qs.length + 1) c5, .bool true, .bool false] _ _ ?_ (hkb.set3 _ _ _) Tryd.underlying57 rfl (by kernel_rfl)).trans ?_
      · rfl
      · rfl
    · rcases HRES.out with ⟨h1, h2⟩ | ⟨h1, h2⟩
      · exact .inl ⟨h1, h2⟩
      · exact .inr ⟨_, h1, h2, rfl, HS7.out⟩
  · go_enter Tryd.func28, Tryd.ntmps28
    go_upto_region 1 with fail
    have hk2 := HK2.out
    have hk4 := HK4.out
    have hb0 := HB0.out
    generalize (w.alloc (.cells #[.slice a qs.length c, .bool false, .bool true] 57)).alloc (.cells #[.slice none 0 0, .bool false, .bool false] 57) = w1 at *
    obtain ⟨c0, c1, c2⟩ := hk2.cells3
    have f2 := hk2.frozen 2
    go_upto_region 5 with (go_at_call 49; (with_reducible refine (HBG.out _).mono ?_); rintro e w2 ⟨rfl, rfl⟩)
    have hk3 : Blk (w1.setCell ⟨w.heap.size, 2, none⟩ (.bool true)) w.heap.size 57 #[.slice a qs.length c, .bool false, .bool true] := hk2.set 2 (.bool true)
    have hk5 := hk4.setO ⟨w.heap.size, 2, none⟩ (.bool true) (by simp)
    have hb1 := hb0.setCell (p := ⟨w.heap.size, 2, none⟩) (Nat.le_refl _) (.bool true)
    generalize w1.setCell ⟨w.heap.size, 2, none⟩ (.bool true) = w3 at *
    clear c0 c1 c2 f2 hk2 hk4 hb0 HK2 HK4 HB0 HBG
    obtain ⟨c0, c1, c2⟩ := hk3.cells3
    have f1 := hk3.frozen 1
    go_upto_region 6 with fail
    have hk6 : Blk (w3.setCell ⟨w.heap.size, 1, none⟩ (.bool true)) w.heap.size 57 #[.slice a qs.length c, .bool true, .bool true] := hk3.set 1 (.bool true)
    have hk7 := hk5.setO ⟨w.heap.size, 1, none⟩ (.bool true) (by simp)
    have hb2 := hb1.setCell (p := ⟨w.heap.size, 1, none⟩) (Nat.le_refl _) (.bool true)
    generalize w3.setCell ⟨w.heap.size, 1, none⟩ (.bool true) = w4 at *
    clear c0 c1 c2 f1 hk3 hk5 hb1
    obtain ⟨c0, c1, c2⟩ := hk6.cells3
    have hbase : B ≤ w4.heap.size := Nat.le_trans hBw hb2.size
    go_wp2_with (at_builtin; refine (wpList_pushD w4 rfl _ _ 22 rfl B 61 i0 (.agg #[.string ⟨#[]⟩, .slice none 0 0, .slice none 0 0]) Tryd.underlying22 hi hz0 hz1 hz2 rfl (.slice a qs.length c) qs rfl (HOWN.out _ hb2) ⟨⟨K, [], []⟩, none, 0, none, 0⟩ rfl hq6 hbase ?_))
    intro v5 w5 hown5 hg5
    have hr5 := openRows (HOWN.out _ hb2) (Nat.le_trans HL.out.2 hb2.size) (HROWS.out _ hb2) hg5 hK
    have hs5 : SAt w5 B v5 (qs.map (·.d) ++ [⟨K, [], []⟩]) := ⟨_, w4.heap.size, by simp, hown5, hbase, hg5.size, hr5⟩
    have hk8 := hk6.push hg5 hWn
    have hk9 := hk7.push hg5 hWn1
    have hb5 : Below B w w5 := (HOWN.out _ hb2).grown (hb2.mono hBw) (Nat.le_refl _) hbase hg5
    obtain ⟨a5, c5, rfl, _⟩ := hs5.defs
    clear hown5 hg5 hr5 hk6 hk7 hb2 c0 c1 c2
    rw [List.length_append, List.length_map, List.length_singleton] at hs5 ⊢
    obtain ⟨c0, c1, c2⟩ := hk8.cells3
    have f0 := hk8.frozen 0
    go_upto_region 7 with fail
    have hka : Blk (w5.setCell ⟨w.heap.size, 0, none⟩ (.slice a5 (qs.length + 1) c5)) w.heap.size 57 #[.slice a5 (qs.length + 1) c5, .bool true, .bool true] := hk8.set 0 (.slice a5 (qs.length + 1) c5)
    have hkb := hk9.setO ⟨w.heap.size, 0, none⟩ (.slice a5 (qs.length + 1) c5) (by simp)
    have hs6 := hs5.setT hk8 (by decide) (by decide) 0 (.slice a5 (qs.length + 1) c5)
    have hb6 := hb5.setCell (p := ⟨w.heap.size, 0, none⟩) hBw (.slice a5 (qs.length + 1) c5)
    generalize w5.setCell ⟨w.heap.size, 0, none⟩ (.slice a5 (qs.length + 1) c5) = w6 at *
    clear c0 c1 c2 f0 hk8 hk9 hs5 hb5
    obtain ⟨c0, c1, c2⟩ := hka.cells3
    obtain ⟨d0, d1, d2⟩ := hkb.cells3
    have f0 := hkb.frozen 0
    have f1 := hkb.frozen 1
    have f2 := hkb.frozen 2
    have hs7 := hs6.set3 hkb (.slice a5 (qs.length + 1) c5) (.bool true) (.bool true)
    have hb7 := below_set3 hb6 (Nat.le_succ_of_le hBw) (.slice a5 (qs.length + 1) c5) (.bool true) (.bool true)
    have HS7 := Lib.hid hs7
    have HB7 := Lib.hid hb7
    clear hs6 hs7 hb6 hb7
    go_wp2_with fail
    refine bodyPost_ret (v := .agg #[.slice a5 (qs.length + 1) c5, .bool true, .bool true]) ?_ rfl ⟨_, _, _, true, true, rfl, HB7.out, ?_⟩
    · refine (results_cell_S rfl _ _ (w.heap.size + 1) _ #[.slice a5 (qs.length + 1) c5, .bool true, .bool true] _ _ ?_ (hkb.set3 _ _ _) Tryd.underlying57 rfl (by kernel_rfl)).trans ?_
      · rfl
      · rfl
    · rcases HRES.out with ⟨h1, h2⟩ | ⟨h1, h2⟩
      · exact .inl ⟨h1, h2⟩
      · exact .inr ⟨_, h1, h2, rfl, HS7.out⟩
  · go_enter Tryd.func28, Tryd.ntmps28
    go_upto_region 1 with fail
    have hk2 := HK2.out
    have hk4 := HK4.out
    have hb0 := HB0.out
    generalize (w.alloc (.cells #[.slice a qs.length c, .bool false, .bool true] 57)).alloc (.cells #[.slice none 0 0, .bool false, .bool false] 57) = w1 at *
    obtain ⟨c0, c1, c2⟩ := hk2.cells3
    have f2 := hk2.frozen 2
    go_upto_region 5 with (go_at_call 49; (with_reducible refine (HBG.out _).mono ?_); rintro e w2 ⟨rfl, rfl⟩)
    have hk3 : Blk (w1.setCell ⟨w.heap.size, 2, none⟩ (.bool false)) w.heap.size 57 #[.slice a qs.length c, .bool false, .bool false] := hk2.set 2 (.bool false)
    have hk5 := hk4.setO ⟨w.heap.size, 2, none⟩ (.bool false) (by simp)
    have hb1 := hb0.setCell (p := ⟨w.heap.size, 2, none⟩) (Nat.le_refl _) (.bool false)
    generalize w1.setCell ⟨w.heap.size, 2, none⟩ (.bool false) = w3 at *
    clear c0 c1 c2 f2 hk2 hk4 hb0 HK2 HK4 HB0 HBG
    obtain ⟨c0, c1, c2⟩ := hk3.cells3
    have f1 := hk3.frozen 1
    go_upto_region 6 with fail
    have hk6 : Blk (w3.setCell ⟨w.heap.size, 1, none⟩ (.bool true)) w.heap.size 57 #[.slice a qs.length c, .bool true, .bool false] := hk3.set 1 (.bool true)
    have hk7 := hk5.setO ⟨w.heap.size, 1, none⟩ (.bool true) (by simp)
    have hb2 := hb1.setCell (p := ⟨w.heap.size, 1, none⟩) (Nat.le_refl _) (.bool true)
    generalize w3.setCell ⟨w.heap.size, 1, none⟩ (.bool true) = w4 at *
    clear c0 c1 c2 f1 hk3 hk5 hb1
    obtain ⟨c0, c1, c2⟩ := hk6.cells3
    have hbase : B ≤ w4.heap.size := Nat.le_trans hBw hb2.size
    go_wp2_with (at_builtin; refine (wpList_pushD w4 rfl _ _ 22 rfl B 61 i0 (.agg #[.string ⟨#[]⟩, .slice none 0 0, .slice none 0 0]) Tryd.underlying22 hi hz0 hz1 hz2 rfl (.slice a qs.length c) qs rfl (HOWN.out _ hb2) ⟨⟨K, [], []⟩, none, 0, none, 0⟩ rfl hq6 hbase ?_))
    intro v5 w5 hown5 hg5
    have hr5 := openRows (HOWN.out _ hb2) (Nat.le_trans HL.out.2 hb2.size) (HROWS.out _ hb2) hg5 hK
    have hs5 : SAt w5 B v5 (qs.map (·.d) ++ [⟨K, [], []⟩]) := ⟨_, w4.heap.size, by simp, hown5, hbase, hg5.size, hr5⟩
    have hk8 := hk6.push hg5 hWn
    have hk9 := hk7.push hg5 hWn1
    have hb5 : Below B w w5 := (HOWN.out _ hb2).grown (hb2.mono hBw) (Nat.le_refl _) hbase hg5
    obtain ⟨a5, c5, rfl, _⟩ := hs5.defs
    clear hown5 hg5 hr5 hk6 hk7 hb2 c0 c1 c2
    rw [List.length_append, List.length_map, List.length_singleton] at hs5 ⊢
    obtain ⟨c0, c1, c2⟩ := hk8.cells3
    have f0 := hk8.frozen 0
    go_upto_region 7 with fail
    have hka : Blk (w5.setCell ⟨w.heap.size, 0, none⟩ (.slice a5 (qs.length + 1) c5)) w.heap.size 57 #[.slice a5 (qs.length + 1) c5, .bool true, .bool false] := hk8.set 0 (.slice a5 (qs.length + 1) c5)
    have hkb := hk9.setO ⟨w.heap.size, 0, none⟩ (.slice a5 (qs.length + 1) c5) (by simp)
    have hs6 := hs5.setT hk8 (by decide) (by decide) 0 (.slice a5 (qs.length + 1) c5)
    have hb6 := hb5.setCell (p := ⟨w.heap.size, 0, none⟩) hBw (.slice a5 (qs.length + 1) c5)
    generalize w5.setCell ⟨w.heap.size, 0, none⟩ (.slice a5 (qs.length + 1) c5) = w6 at *
    clear c0 c1 c2 f0 hk8 hk9 hs5 hb5
    obtain ⟨c0, c1, c2⟩ := hka.cells3
    obtain ⟨d0, d1, d2⟩ := hkb.cells3
    have f0 := hkb.frozen 0
    have f1 := hkb.frozen 1
    have f2 := hkb.frozen 2
    have hs7 := hs6.set3 hkb (.slice a5 (qs.length + 1) c5) (.bool true) (.bool false)
    have hb7 := below_set3 hb6 (Nat.le_succ_of_le hBw) (.slice a5 (qs.length + 1) c5) (.bool true) (.bool false)
    have HS7 := Lib.hid hs7
    have HB7 := Lib.hid hb7
    clear hs6 hs7 hb6 hb7
    go_wp2_with fail
    refine bodyPost_ret (v := .agg #[.slice a5 (qs.length + 1) c5, .bool true, .bool false]) ?_ rfl ⟨_, _, _, true, false, rfl, HB7.out, ?_⟩
    · refine (results_cell_S rfl _ _ (w.heap.size + 1) _ #[.slice a5 (qs.length + 1) c5, .bool true, .bool false] _ _ ?_ (hkb.set3 _ _ _) Tryd.underlying57 rfl (by kernel_rfl)).trans ?_
      · rfl
      · rfl
    · rcases HRES.out with ⟨h1, h2⟩ | ⟨h1, h2⟩
      · exact .inl ⟨h1, h2⟩
      · exact .inr ⟨_, h1, h2, rfl, HS7.out⟩
  · go_enter Tryd.func28, Tryd.ntmps28
    go_upto_region 1 with fail
    have hk2 := HK2.out
    have hk4 := HK4.out
    have hb0 := HB0.out
    generalize (w.alloc (.cells #[.slice a qs.length c, .bool false, .bool true] 57)).alloc (.cells #[.slice none 0 0, .bool false, .bool false] 57) = w1 at *
    obtain ⟨c0, c1, c2⟩ := hk2.cells3
    have f2 := hk2.frozen 2
    go_upto_region 5 with (go_at_call 49; (with_reducible refine (HBG.out _).mono ?_); rintro e w2 ⟨rfl, rfl⟩)
    have hk3 : Blk (w1.setCell ⟨w.heap.size, 2, none⟩ (.bool false)) w.heap.size 57 #[.slice a qs.length c, .bool false, .bool false] := hk2.set 2 (.bool false)
    have hk5 := hk4.setO ⟨w.heap.size, 2, none⟩ (.bool false) (by simp)
    have hb1 := hb0.setCell (p := ⟨w.heap.size, 2, none⟩) (Nat.le_refl _) (.bool false)
    generalize w1.setCell ⟨w.heap.size, 2, none⟩ (.bool false) = w3 at *
    clear c0 c1 c2 f2 hk2 hk4 hb0 HK2 HK4 HB0 HBG
    obtain ⟨c0, c1, c2⟩ := hk3.cells3
    have f1 := hk3.frozen 1
    go_upto_region 6 with fail
    have hk6 : Blk (w3.setCell ⟨w.heap.size, 1, none⟩ (.bool true)) w.heap.size 57 #[.slice a qs.length c, .bool true, .bool false] := hk3.set 1 (.bool true)
    have hk7 := hk5.setO ⟨w.heap.size, 1, none⟩ (.bool true) (by simp)
    have hb2 := hb1.setCell (p := ⟨w.heap.size, 1, none⟩) (Nat.le_refl _) (.bool true)
    generalize w3.setCell ⟨w.heap.size, 1, none⟩ (.bool true) = w4 at *
    clear c0 c1 c2 f1 hk3 hk5 hb1
    obtain ⟨c0, c1, c2⟩ := hk6.cells3
    have hbase : B ≤ w4.heap.size := Nat.le_trans hBw hb2.size
    go_wp2_with (at_builtin; refine (wpList_pushD w4 rfl _ _ 22 rfl B 61 i0 (.agg #[.string ⟨#[]⟩, .slice none 0 0, .slice none 0 0]) Tryd.underlying22 hi hz0 hz1 hz2 rfl (.slice a qs.length c) qs rfl (HOWN.out _ hb2) ⟨⟨K, [], []⟩, none, 0, none, 0⟩ rfl hq6 hbase ?_))
    intro v5 w5 hown5 hg5
    have hr5 := openRows (HOWN.out _ hb2) (Nat.le_trans HL.out.2 hb2.size) (HROWS.out _ hb2) hg5 hK
    have hs5 : SAt w5 B v5 (qs.map (·.d) ++ [⟨K, [], []⟩]) := ⟨_, w4.heap.size, by simp, hown5, hbase, hg5.size, hr5⟩
    have hk8 := hk6.push hg5 hWn
    have hk9 := hk7.push hg5 hWn1
    have hb5 : Below B w w5 := (HOWN.out _ hb2).grown (hb2.mono hBw) (Nat.le_refl _) hbase hg5
    obtain ⟨a5, c5, rfl, _⟩ := hs5.defs
    clear hown5 hg5 hr5 hk6 hk7 hb2 c0 c1 c2
    rw [List.length_append, List.length_map, List.length_singleton] at hs5 ⊢
    obtain ⟨c0, c1, c2⟩ := hk8.cells3
    have f0 := hk8.frozen 0
    go_upto_region 7 with fail
    have hka : Blk (w5.setCell ⟨w.heap.size, 0, none⟩ (.slice a5 (qs.length + 1) c5)) w.heap.size 57 #[.slice a5 (qs.length + 1) c5, .bool true, .bool false] := hk8.set 0 (.slice a5 (qs.length + 1) c5)
    have hkb := hk9.setO ⟨w.heap.size, 0, none⟩ (.slice a5 (qs.length + 1) c5) (by simp)
    have hs6 := hs5.setT hk8 (by decide) (by decide) 0 (.slice a5 (qs.length + 1) c5)
    have hb6 := hb5.setCell (p := ⟨w.heap.size, 0, none⟩) hBw (.slice a5 (qs.length + 1) c5)
    generalize w5.setCell ⟨w.heap.size, 0, none⟩ (.slice a5 (qs.length + 1) c5) = w6 at *
    clear c0 c1 c2 f0 hk8 hk9 hs5 hb5
    obtain ⟨c0, c1, c2⟩ := hka.cells3
    obtain ⟨d0, d1, d2⟩ := hkb.cells3
    have f0 := hkb.frozen 0
    have f1 := hkb.frozen 1
    have f2 := hkb.frozen 2
    have hs7 := hs6.set3 hkb (.slice a5 (qs.length + 1) c5) (.bool true) (.bool false)
    have hb7 := below_set3 hb6 (Nat.le_succ_of_le hBw) (.slice a5 (qs.length + 1) c5) (.bool true) (.bool false)
    have HS7 := Lib.hid hs7
    have HB7 := Lib.hid hb7
    clear hs6 hs7 hb6 hb7
    go_wp2_with fail
    refine bodyPost_ret (v := .agg #[.slice a5 (qs.length + 1) c5, .bool true, .bool false]) ?_ rfl ⟨_, _, _, true, false, rfl, HB7.out, ?_⟩
    · refine (results_cell_S rfl _ _ (w.heap.size + 1) _ #[.slice a5 (qs.length + 1) c5, .bool true, .bool false] _ _ ?_ (hkb.set3 _ _ _) Tryd.underlying57 rfl (by kernel_rfl)).trans ?_
      · rfl
      · rfl
    · rcases HRES.out with ⟨h1, h2⟩ | ⟨h1, h2⟩
      · exact .inl ⟨h1, h2⟩
      · exact .inr ⟨_, h1, h2, rfl, HS7.out⟩
end Go.Proofs.YtekcmgajjbdmgabDoor
