/- The contract of the document's own 'line' within a block: at its end, where no key stands, and where a key stands already or is one too many. -/
import Derived.Test.YtekcmgajjbdmgabDoorRpsC
import Derived.Test.YtekcmgajjbdmgabDoorBlkB
import Derived.Test.YtekcmgajjbdmgabDoorLater
import Derived.Outline
namespace Go.Proofs.YtekcmgajjbdmgabDoor
open Go.RowKit

theorem lineS_in {ds : List Dfn} {l : Bs} (h : l ≠ [125]) : lineS (ds, true) l = match keyL l with | none => none | some kv => (match growL ds kv.1 kv.2 with | none => none | some ds => some (ds, true)) := by
  unfold lineS
  rw [if_pos rfl, if_neg h]
  rfl
theorem growL_bad {ds : List Dfn} {d : Dfn} {k v : Bs} (hl : ds.getLast? = some d) (h : memB (bytesA k) d.keys = true ∨ d.keys.length = 64) : growL ds k v = none := by
  unfold growL
  rw [hl]
  simp only
  rw [if_pos]
  rcases h with h | h <;> simp [h]
theorem growL_ok {ds : List Dfn} {d : Dfn} {k v : Bs} (hl : ds.getLast? = some d) (h1 : memB (bytesA k) d.keys = false) (h2 : d.keys.length ≠ 64) : growL ds k v = some (ds.dropLast ++ [addK d k v]) := by
  unfold growL
  rw [hl]
  simp only
  rw [if_neg]
  simp [h1, h2]

set_option maxHeartbeats 6400000 in
set_option maxRecDepth 100000 in
theorem line_end (B : Nat) (ds : List Dfn) (v : Value) (w : World) (h : SAt w B v ds) :
    Calls Tryd.prog 28 #[.agg #[v, .bool true, .bool true], .string ⟨#[125]⟩] w (LinP B (ds, true) [125] w) := by
  obtain ⟨a, c, rfl, _⟩ := h.defs
  have hBw : B ≤ w.heap.size := by obtain ⟨_, _, _, _, h4, h5, _⟩ := h; omega
  have hk2 := (Blk.new w 57 #[.slice a ds.length c, .bool true, .bool true]).alloc (.cells #[.slice none 0 0, .bool false, .bool false] 57)
  have hk4 := Blk.new (w.alloc (.cells #[.slice a ds.length c, .bool true, .bool true] 57)) 57 #[.slice none 0 0, .bool false, .bool false]
  rw [show (w.alloc (.cells #[.slice a ds.length c, .bool true, .bool true] 57)).heap.size = w.heap.size + 1 by simp] at hk4
  have hb0 := ((Below.refl w.heap.size w).alloc (Nat.le_refl _) (.cells #[.slice a ds.length c, .bool true, .bool true] 57)).alloc (by simp) (.cells #[.slice none 0 0, .bool false, .bool false] 57)
  go_enter Tryd.func28, Tryd.ntmps28
  go_upto_region 1 with fail
  generalize (w.alloc (.cells #[.slice a ds.length c, .bool true, .bool true] 57)).alloc (.cells #[.slice none 0 0, .bool false, .bool false] 57) = w1 at *
  obtain ⟨c0, c1, c2⟩ := hk2.cells3
  have f1 := hk2.frozen 1
  go_upto_region 10 with fail
  have hk3 : Blk (w1.setCell ⟨w.heap.size, 1, none⟩ (.bool false)) w.heap.size 57 #[.slice a ds.length c, .bool false, .bool true] := hk2.set 1 (.bool false)
  have hk5 := hk4.setO ⟨w.heap.size, 1, none⟩ (.bool false) (by simp)
  have hb1 := hb0.setCell (p := ⟨w.heap.size, 1, none⟩) (Nat.le_refl _) (.bool false)
  generalize w1.setCell ⟨w.heap.size, 1, none⟩ (.bool false) = w3 at *
  clear c0 c1 c2 f1
  obtain ⟨c0, c1, c2⟩ := hk3.cells3
  obtain ⟨d0, d1, d2⟩ := hk5.cells3
  have f0 := hk5.frozen 0
  have f1 := hk5.frozen 1
  have f2 := hk5.frozen 2
  have HS := Lib.hid ((h.call hb1).set3 hk5 (.slice a ds.length c) (.bool false) (.bool true))
  have HB := Lib.hid (below_set3 (hb1.mono hBw) (Nat.le_succ_of_le hBw) (.slice a ds.length c) (.bool false) (.bool true))
  go_wp2_with fail
  refine bodyPost_ret (v := .agg #[.slice a ds.length c, .bool false, .bool true]) ?_ rfl ⟨_, _, _, false, true, rfl, HB.out, .inr ⟨(ds, false), rfl, rfl, rfl, HS.out⟩⟩
  refine (results_cell_S rfl _ _ (w.heap.size + 1) _ #[.slice a ds.length c, .bool false, .bool true] _ _ ?_ (hk5.set3 _ _ _) Tryd.underlying57 rfl (by kernel_rfl)).trans ?_
  · rfl
  · rfl

/-- the end of a line that is not as it must be: Ok is false, whatever the rest -/
theorem bad_end {B : Nat} {st : PSt} {l : Bs} {w w' : World} {a : Option Addr} {n c : Nat} {op : Bool} (hl : lineS st l = none) (hb : Below B w w') : LinP B st l w (.returned (.agg #[.slice a n c, .bool op, .bool false])) w' := ⟨a, n, c, op, false, rfl, hb, .inl ⟨hl, rfl⟩⟩

set_option maxHeartbeats 6400000 in
set_option maxRecDepth 100000 in
theorem line_no (B : Nat) (ds : List Dfn) (v : Value) (s : ByteArray) (w : World) (h : SAt w B v ds) (hs : s.size ≤ 9000) (hne : s ≠ ⟨#[125]⟩) (hk : keyL s.data.toList = none) :
    Calls Tryd.prog 28 #[.agg #[v, .bool true, .bool true], .string s] w (LinP B (ds, true) s.data.toList w) := by
  have hl : lineS (ds, true) s.data.toList = none := by rw [lineS_in (fun e => hne (bytes_ext e)), hk]
  have hkey := fun W => rKey_any s W hs
  rw [hk] at hkey
  have hkey' := fun W => (hkey W).mono (R' := fun e w' => e = .returned (.slice none 0 0) ∧ Below W.heap.size W w') (fun _ _ h => ⟨h.2, h.1⟩)
  have HKEY := Lib.hid hkey'
  have hq : (s.toList == [125]) = false := by
    rw [ByteArray.toList_eq, beq_eq_false_iff_ne]
    exact fun e => hne (bytes_ext e)
  obtain ⟨a, c, rfl, _⟩ := h.defs
  have hBw : B ≤ w.heap.size := by obtain ⟨_, _, _, _, h4, h5, _⟩ := h; omega
  have hk2 := (Blk.new w 57 #[.slice a ds.length c, .bool true, .bool true]).alloc (.cells #[.slice none 0 0, .bool false, .bool false] 57)
  have hk4 := Blk.new (w.alloc (.cells #[.slice a ds.length c, .bool true, .bool true] 57)) 57 #[.slice none 0 0, .bool false, .bool false]
  rw [show (w.alloc (.cells #[.slice a ds.length c, .bool true, .bool true] 57)).heap.size = w.heap.size + 1 by simp] at hk4
  have hb0 := ((Below.refl w.heap.size w).alloc (Nat.le_refl _) (.cells #[.slice a ds.length c, .bool true, .bool true] 57)).alloc (by simp) (.cells #[.slice none 0 0, .bool false, .bool false] 57)
  clear hkey hkey' hk h
  go_enter Tryd.func28, Tryd.ntmps28
  go_upto_region 1 with fail
  generalize (w.alloc (.cells #[.slice a ds.length c, .bool true, .bool true] 57)).alloc (.cells #[.slice none 0 0, .bool false, .bool false] 57) = w1 at *
  obtain ⟨c0, c1, c2⟩ := hk2.cells3
  go_upto_region 12 with (go_at_call 50; (with_reducible refine (HKEY.out _).mono ?_); rintro e w2 ⟨rfl, hb2⟩)
  refine wp_region_later (by kernel_rfl) (by kernel_rfl) ?_
  repeat (go_big_quiet_step ((fail)))
  refine wpQuiet_nil ?_
  rintro _ ⟨xq, rfl⟩
  have hb3 := bthen hb2 (later_below w2 xq)
  generalize later w2 xq = w3 at *
  have hk3 := hk2.call hb3
  have hk5 := hk4.call hb3
  have hbz := bthen hb0 hb3
  clear c0 c1 c2 hb2 hb3
  obtain ⟨c0, c1, c2⟩ := hk3.cells3
  have f2 := hk3.frozen 2
  go_upto_region 14 with fail
  have hk6 : Blk (w3.setCell ⟨w.heap.size, 2, none⟩ (.bool false)) w.heap.size 57 #[.slice a ds.length c, .bool true, .bool false] := hk3.set 2 (.bool false)
  have hk7 := hk5.setO ⟨w.heap.size, 2, none⟩ (.bool false) (by simp)
  have hb1 := hbz.setCell (p := ⟨w.heap.size, 2, none⟩) (Nat.le_refl _) (.bool false)
  generalize w3.setCell ⟨w.heap.size, 2, none⟩ (.bool false) = w4 at *
  clear c0 c1 c2 f2
  obtain ⟨c0, c1, c2⟩ := hk6.cells3
  obtain ⟨d0, d1, d2⟩ := hk7.cells3
  have f0 := hk7.frozen 0
  have f1 := hk7.frozen 1
  have f2 := hk7.frozen 2
  have HB := Lib.hid (below_set3 (hb1.mono hBw) (Nat.le_succ_of_le hBw) (.slice a ds.length c) (.bool true) (.bool false))
  go_wp2_with fail
  refine bodyPost_ret (v := .agg #[.slice a ds.length c, .bool true, .bool false]) ?_ rfl (bad_end hl HB.out)
  refine (results_cell_S rfl _ _ (w.heap.size + 1) _ #[.slice a ds.length c, .bool true, .bool false] _ _ ?_ (hk7.set3 _ _ _) Tryd.underlying57 rfl (by kernel_rfl)).trans ?_
  · rfl
  · rfl
end Go.Proofs.YtekcmgajjbdmgabDoor
