/- The contract of the document's own 'line' where a key stands already, or is one too many. -/
import Derived.Test.YtekcmgajjbdmgabDoorRpsD
namespace Go.Proofs.YtekcmgajjbdmgabDoor
open Go.RowKit

set_option maxHeartbeats 12800000 in
set_option maxRecDepth 100000 in
theorem line_full (B : Nat) (ds : List Dfn) (d : Dfn) (v : Value) (s : ByteArray) (k u : Bs) (w : World) (h : SAt w B v ds) (h64 : ds.length ≤ 64) (hs : s.size ≤ 9000) (hne : s ≠ ⟨#[125]⟩) (hl : ds.getLast? = some d) (hk : keyL s.data.toList = some (k, u))
    (hno : memB (bytesA k) d.keys = true ∨ memB (bytesA k) d.keys = false ∧ d.keys.length = 64) :
    Calls Tryd.prog 28 #[.agg #[v, .bool true, .bool true], .string s] w (LinP B (ds, true) s.data.toList w) := by
  have hln : lineS (ds, true) s.data.toList = none := by
    rw [lineS_in (fun e => hne (bytes_ext e)), hk]
    simp only
    rw [growL_bad hl (hno.imp id (fun h => h.2))]
  have hkey := fun W => rKey_any s W hs
  rw [hk] at hkey
  have hkey' := fun W => (hkey W).mono (R' := fun e w' => ∃ b, e = .returned (.slice (some ⟨b, 0, none⟩) 2 2) ∧ HasStrs w' (some ⟨b, 0, none⟩) 2 [bytesA k, bytesA u] ∧ Below W.heap.size W w') (fun _ _ h => by
    obtain ⟨h1, b, _, h2, h3⟩ := h
    exact ⟨b, h2, h3, h1⟩)
  have HKEY := Lib.hid hkey'
  have hq : (s.toList == [125]) = false := by
    rw [ByteArray.toList_eq, beq_eq_false_iff_ne]
    exact fun e => hne (bytes_ext e)
  obtain ⟨qs, lo, rfl, hown, hl1, hl2, hrows⟩ := h
  obtain ⟨q, hql, rfl⟩ := getLast_map (fun x : DefAt => x.d) qs d hl
  obtain ⟨i, hi, hlen, hqi⟩ := last_at qs q hql
  obtain ⟨a, c, hvv, _⟩ := hown.defs fun q hq => ((hrows.all hl2) q hq).1.1
  subst hvv
  obtain ⟨g, rfl, hgb, hgl, _, hnc, hcm, d0, d1, d2, _⟩ := hown.at i hi
  have hkeys := ((hrows.2 q hql).okT.1).1.1
  rw [hqi] at d0 d1 d2
  have hBw : B ≤ w.heap.size := by omega
  have hi64 : i < 64 := by simp at h64; omega
  rw [hlen] at hnc ⊢
  have e1 : ((i + 1 : Nat) : Int) = (i : Int) + 1 := by omega
  have e2 : IntKind.i64.wrap ((i : Int) + 1 - 1) = (i : Int) := by rw [IntWalk.i64_in _ (by omega)]; omega
  have e3 : (i : Int) + 1 - 1 = (i : Int) := by omega
  have e4 : (0 : Int) < (i : Int) + 1 := by omega
  have e5 : (0 : Int) ≤ (i : Int) := by omega
  have e6 : (i : Int) < (i : Int) + 1 := by omega
  unfold maxLen at hcm
  have hk2 := (Blk.new w 57 #[.slice (some ⟨g, 0, none⟩) (i + 1) c, .bool true, .bool true]).alloc (.cells #[.slice none 0 0, .bool false, .bool false] 57)
  have hk4 := Blk.new (w.alloc (.cells #[.slice (some ⟨g, 0, none⟩) (i + 1) c, .bool true, .bool true] 57)) 57 #[.slice none 0 0, .bool false, .bool false]
  rw [show (w.alloc (.cells #[.slice (some ⟨g, 0, none⟩) (i + 1) c, .bool true, .bool true] 57)).heap.size = w.heap.size + 1 by simp] at hk4
  have hb0 := ((Below.refl w.heap.size w).alloc (Nat.le_refl _) (.cells #[.slice (some ⟨g, 0, none⟩) (i + 1) c, .bool true, .bool true] 57)).alloc (by simp) (.cells #[.slice none 0 0, .bool false, .bool false] 57)
  have HD1 := Lib.hid (fun W (h : Below w.heap.size w W) => cellL h d1)
  have HKS := Lib.hid (fun W (h : Below w.heap.size w W) => hkeys.call h)
  have hmemo : memB (bytesA k) q.d.keys = true ∨ (memB (bytesA k) q.d.keys = false ∧ ((q.d.keys.length : Int) == 64) = true) := hno.imp id (fun h => ⟨h.1, beq_iff_eq.2 (by omega)⟩)
  have HMO := Lib.hid hmemo
  generalize bytesA k = K at *
  generalize bytesA u = U at *
  clear hown hrows hkeys d0 d1 d2 hql hqi hlen hl hno hmemo hkey hkey' hk hgb hl1 hl2 hi h64
  go_enter Tryd.func28, Tryd.ntmps28
  go_upto_region 1 with fail
  generalize (w.alloc (.cells #[.slice (some ⟨g, 0, none⟩) (i + 1) c, .bool true, .bool true] 57)).alloc (.cells #[.slice none 0 0, .bool false, .bool false] 57) = w1 at *
  obtain ⟨c0, c1, c2⟩ := hk2.cells3
  go_upto_region 12 with (go_at_call 50; (with_reducible refine (HKEY.out _).mono ?_); rintro e w2 ⟨b, rfl, hstr, hb2⟩)
  clear c0 c1 c2
  have hb3 := bthen hb0 hb2
  have hk3 := hk2.call hb2
  have hk5 := hk4.call hb2
  have s0 : w2.cell? ⟨b, 0, none⟩ = some (.string K) := hstr.at 0 (by simp)
  obtain ⟨c0, c1, c2⟩ := hk3.cells3
  have c0l := fun xq => later_cell c0 xq
  have d1l := fun xq => later_cell (HD1.out _ hb3) xq
  have s0l := fun xq => later_cell s0 xq
  have hhas := fun xq => calls_later_same (rHas_any _ _ _ K (later w2 xq) (HKS.out _ (bthen hb3 (later_below w2 xq))))
  clear c0 c1 c2 s0
  rcases HMO.out with hm | ⟨hm, ht⟩
  all_goals
    rw [hm] at hhas
    have HH := Lib.hid hhas
    clear hhas hm
    refine wp_region_later (by kernel_rfl) (by kernel_rfl) ?_
    repeat (go_big_quiet_step ((go_at_call 51; (with_reducible exact HH.out _))))
    refine wpQuiet_nil ?_
    rintro _ ⟨xq, rfl⟩
    have hb4 := later_below w2 xq
    generalize later w2 xq = w3 at *
    have hk3' := hk3.call hb4
    have hk5' := hk5.call hb4
    have hbz := bthen hb3 hb4
    clear c0l d1l s0l hb2 hb3 hb4 hk3 hk5 hk2 hk4 hb0 hstr
    obtain ⟨c0, c1, c2⟩ := hk3'.cells3
    have f2 := hk3'.frozen 2
    go_upto_region 14 with fail
    have hk6 : Blk (w3.setCell ⟨w.heap.size, 2, none⟩ (.bool false)) w.heap.size 57 #[.slice (some ⟨g, 0, none⟩) (i + 1) c, .bool true, .bool false] := hk3'.set 2 (.bool false)
    have hk7 := hk5'.setO ⟨w.heap.size, 2, none⟩ (.bool false) (by simp)
    have hb1 := hbz.setCell (p := ⟨w.heap.size, 2, none⟩) (Nat.le_refl _) (.bool false)
    generalize w3.setCell ⟨w.heap.size, 2, none⟩ (.bool false) = w4 at *
    clear c0 c1 c2 f2 hk3' hk5' hbz
    obtain ⟨c0, c1, c2⟩ := hk6.cells3
    obtain ⟨d0, d1, d2⟩ := hk7.cells3
    have f0 := hk7.frozen 0
    have f1 := hk7.frozen 1
    have f2 := hk7.frozen 2
    have HB := Lib.hid (below_set3 (hb1.mono hBw) (Nat.le_succ_of_le hBw) (.slice (some ⟨g, 0, none⟩) (i + 1) c) (.bool true) (.bool false))
    go_wp2_with fail
    refine bodyPost_ret (v := .agg #[.slice (some ⟨g, 0, none⟩) (i + 1) c, .bool true, .bool false]) ?_ rfl (bad_end hln HB.out)
    refine (results_cell_S rfl _ _ (w.heap.size + 1) _ #[.slice (some ⟨g, 0, none⟩) (i + 1) c, .bool true, .bool false] _ _ ?_ (hk7.set3 _ _ _) Tryd.underlying57 rfl (by kernel_rfl)).trans ?_
    · rfl
    · rfl
end Go.Proofs.YtekcmgajjbdmgabDoor
