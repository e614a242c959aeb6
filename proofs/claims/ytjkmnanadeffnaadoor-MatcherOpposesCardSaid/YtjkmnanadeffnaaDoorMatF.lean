/- The contract of 'few' of the statements of layer 4. -/
import Derived.Test.YtjkmnanadeffnaaDoorLabC
import Derived.Test.YtjkmnanadeffnaaDoorOwn
import Derived.Deep.RegionHeld3
namespace Go.Proofs.YtjkmnanadeffnaaDoor
open Go.RowKit

theorem Tryd.infoL : (Tryd.prog.info? 49).map (fun i => (i.zero, i.size, i.bytes)) = some (some (.agg #[.string ⟨#[]⟩, .string ⟨#[]⟩]), 2, 32) := by kernel_rfl
theorem info_partsL {x : Option TypeInfo} (h : x.map (fun i => (i.zero, i.size, i.bytes)) = some (some (.agg #[.string ⟨#[]⟩, .string ⟨#[]⟩]), 2, 32)) : ∃ i, x = some i ∧ i.zero = some (.agg #[.string ⟨#[]⟩, .string ⟨#[]⟩]) ∧ i.size = 2 ∧ i.bytes = 32 := by
  cases x with
  | none => cases h
  | some i => simp at h; exact ⟨i, rfl, h.1, h.2.1, h.2.2⟩

/-- v is the call's own slice of the labels ls -/
def OwnL (T : TypeId) (w : World) (base : Nat) (v : Value) (ls : List Lab) : Prop := w.ownsRow base T 2 v ls.length (labsV ls)
theorem OwnL.call {T : TypeId} {w w1 : World} {base : Nat} {v : Value} {l : List Lab} (h : OwnL T w base v l) (hb : Below w.heap.size w w1) : OwnL T w1 base v l :=
  World.ownsRow.kept h (row := none) ⟨hb.os, hb.tape, hb.output, hb.size, fun k hk _ => hb.block k hk⟩ (by cases v.ownBlock <;> simp)
theorem OwnL.alloc {T : TypeId} {w : World} {base : Nat} {v : Value} {l : List Lab} (h : OwnL T w base v l) (o : Obj) : OwnL T (w.alloc o) base v l := World.ownsRow.alloc h o
theorem OwnL.grown {T : TypeId} {w w1 : World} {base : Nat} {v : Value} {l : List Lab} (h : OwnL T w base v l) {w0 : World} (hb : Below base w0 w) (hz : base ≤ w.heap.size) (hg : w.grownBy w1 v.ownBlock) : Below base w0 w1 :=
  hb.grown hg hz (fun k hk => (World.ownsRow.lt h k hk).1)
theorem OwnL.nil (T : TypeId) (w : World) (base : Nat) : OwnL T w base (.slice none 0 0) [] := World.ownsRow_nil _ _ _ _
theorem OwnL.labs {T : TypeId} {w : World} {base : Nat} {v : Value} {ls : List Lab} (h : OwnL T w base v ls) (hs : ∀ l ∈ ls, l.1.size ≤ maxLen ∧ l.2.size ≤ maxLen) : ∃ a c, v = .slice a ls.length c ∧ HasLabs w a c ls := labs_of_own h hs

theorem wpList_pushL {P : Program} (W : World) {ops : Array Oper} {rest : List Oper} {o : Oper} {a : Act} {Q : Exit → Act → World → Prop} (hgd : o.guard = none) (s x : Operand) (t : TypeId)
    (ho : o.op = .call { callee := .builtin .append, args := #[s, x], argTypes := #[t, t] })
    (base : Nat) (e : TypeId) (i : TypeInfo) (z : Value) (ht : P.underlying t = some (.slice e)) (hi : P.info? e = some i) (hz : i.zero = some z) (hsize : i.size = 2) (hby : i.bytes = 32) (hzs : z.cells.size = 2)
    (v : Value) (ls : List Lab) (l : Lab) (hs : a.eval s = v) (hown : OwnL e W base v ls) (us : List Value) (hus : us = labsV [l])
    (hx : a.eval x = .slice (some ⟨W.heap.size, 0, none⟩) 1 1) (h63 : ls.length ≤ 1000000) (hbase : base ≤ W.heap.size)
    (h : ∀ (v' : Value) (w' : World), OwnL e w' base v' (ls ++ [l]) → W.grownBy w' v.ownBlock → wpList P ops Q rest (a.put o.dst v') w') :
    wpList P ops Q (o :: rest) a (W.alloc (.cells us.toArray e)) := by
  subst hus
  refine wpList_append_own (W.alloc (.cells (labsV [l]).toArray e)) hgd s x t ho base e i z 2 32 ht hi hz hsize hby hzs (by omega) v ls.length (labsV ls) hs (World.ownsRow.alloc hown _) ⟨W.heap.size, 0, none⟩ 1 1 (labsV [l]) hx (by rw [labsV_len]; rfl) ?_ ?_ (by unfold maxLen; omega) (by omega) (by simp; omega) ?_
  · intro j y hy
    have e0 : (⟨W.heap.size, 0, none⟩ : Addr).add j = ⟨W.heap.size, j, none⟩ := by unfold Addr.add; split <;> simp_all
    rw [e0]
    rw [show (W.alloc (.cells (labsV [l]).toArray e)).cell? ⟨W.heap.size, j, none⟩ = _ from World.cell?_alloc_mark W (labsV [l]).toArray e (0, 0) j]
    simpa using hy
  · exact labsV_one _
  · intro v' w' hown' hg _
    refine h v' w' ?_ ⟨hg.os, hg.tape, hg.output, ?_, ?_⟩
    · unfold OwnL
      rw [labsV_app, List.length_append]
      exact hown'
    · have := hg.size; simp at this; omega
    · intro k hk hne
      rw [hg.block k (by simp; omega) hne]
      exact Below.heap_alloc W _ k hk

/-- the same, where the append lies in a region that draws its order -/
theorem step_pushL {P : Program} (W : World) {ops : Array Oper} {o : Oper} {a : Act} {K : Act → World → Prop} {Q : Exit → Act → World → Prop} {E : Prop} (hgd : o.guard = none) (s x : Operand) (t : TypeId)
    (ho : o.op = .call { callee := .builtin .append, args := #[s, x], argTypes := #[t, t] })
    (base : Nat) (e : TypeId) (i : TypeInfo) (z : Value) (ht : P.underlying t = some (.slice e)) (hi : P.info? e = some i) (hz : i.zero = some z) (hsize : i.size = 2) (hby : i.bytes = 32) (hzs : z.cells.size = 2)
    (v : Value) (ls : List Lab) (l : Lab) (hs : a.eval s = v) (hown : OwnL e W base v ls) (us : List Value) (hus : us = labsV [l]) (B : Nat)
    (hx : a.eval x = .slice (some ⟨B, 0, none⟩) 1 1) (hB : B = W.heap.size) (h63 : ls.length ≤ 1000000) (hbase : base ≤ W.heap.size)
    (h : ∀ (v' : Value) (w' : World), OwnL e w' base v' (ls ++ [l]) → W.grownBy w' v.ownBlock → K (a.put o.dst v') w') :
    if Region.wanted o (yielded ops a.tmps) = true then Oper.wp P o a (W.alloc (.cells us.toArray e)) K Q else E := by
  have hw : Region.wanted o (yielded ops a.tmps) = true := by simp [Region.wanted, hgd]
  rw [if_pos hw]
  subst hus hB
  refine wp_append_own (W.alloc (.cells (labsV [l]).toArray e)) s x t ho base e i z 2 32 ht hi hz hsize hby hzs (by omega) v ls.length (labsV ls) hs (World.ownsRow.alloc hown _) ⟨W.heap.size, 0, none⟩ 1 1 (labsV [l]) hx (by rw [labsV_len]; rfl) ?_ ?_ (by unfold maxLen; omega) (by omega) (by simp; omega) ?_
  · intro j y hy
    have e0 : (⟨W.heap.size, 0, none⟩ : Addr).add j = ⟨W.heap.size, j, none⟩ := by unfold Addr.add; split <;> simp_all
    rw [e0]
    rw [show (W.alloc (.cells (labsV [l]).toArray e)).cell? ⟨W.heap.size, j, none⟩ = _ from World.cell?_alloc_mark W (labsV [l]).toArray e (0, 0) j]
    simpa using hy
  · exact labsV_one _
  · intro v' w' hown' hg _
    refine h v' w' ?_ ⟨hg.os, hg.tape, hg.output, ?_, ?_⟩
    · unfold OwnL
      rw [labsV_app, List.length_append]
      exact hown'
    · have := hg.size; simp at this; omega
    · intro k hk hne
      rw [hg.block k (by simp; omega) hne]
      exact Below.heap_alloc W _ k hk
theorem run_min70 {P : Program} (w : World) (ts : Array TypeId) (t : TypeId) (x : Nat) : (Builtin.min_ ts t #[.int .i64 (x : Int), .int .i64 70]).run P w = .ok (.int .i64 ((min x 70 : Nat) : Int)) w := by
  simp [Builtin.min_, Builtin.min2]
  repeat' split
  all_goals omega
theorem run_slice_to {P : Program} (w : World) (t : TypeId) (s : ByteArray) (j : Nat) (h : P.underlying t = some .string) (h2 : j ≤ s.size) :
    (Instr.slice t (.string s) none (some (.int .i64 (j : Int))) none).run P w = .ok (.string (s.extract 0 j)) w := by
  have hj : (0 : Int) ≤ (j : Int) ∧ (j : Int) ≤ (s.size : Int) := ⟨by omega, by omega⟩
  simp [Instr.slice, Instr.sliceBounds, Instr.sliceBound, asIntOf, run_underlying h, hj]
  try omega
def cut70 (s : ByteArray) : ByteArray := if s.size ≤ 70 then s else s.extract 0 70
theorem cut70_ext (s : ByteArray) : s.extract 0 (min s.size 70) = cut70 s := by
  unfold cut70
  split
  · rw [Nat.min_eq_left (by assumption)]; simp
  · rw [Nat.min_eq_right (by omega)]
theorem run_cut70 {P : Program} (w : World) (t : TypeId) (s : ByteArray) (h : P.underlying t = some .string) :
    (Instr.slice t (.string s) none (some (.int .i64 ((min s.size 70 : Nat) : Int))) none).run P w = .ok (.string (cut70 s)) w := by
  rw [run_slice_to w t s (min s.size 70) h (by omega), cut70_ext]
theorem cut70_size (s : ByteArray) : (cut70 s).size ≤ 70 := by
  unfold cut70; split
  · assumption
  · simp; omega
def fewL (ls : List Lab) : List Lab := (ls.take 10).map fun l => (cut70 l.1, cut70 l.2)
theorem fewL_len (ls : List Lab) : (fewL ls).length ≤ 10 := by simp [fewL]; omega
theorem fewL_size (ls : List Lab) : ∀ l ∈ fewL ls, l.1.size ≤ 70 ∧ l.2.size ≤ 70 := by
  intro l hl
  obtain ⟨x, _, rfl⟩ := List.mem_map.1 hl
  exact ⟨cut70_size _, cut70_size _⟩
def LabsPost (ls : List Lab) (w : World) (e : Ending) (w' : World) : Prop := ∃ a c, e = .returned (.slice a ls.length c) ∧ HasLabs w' a c ls ∧ Below w.heap.size w w'

set_option maxHeartbeats 3200000 in
set_option maxRecDepth 100000 in
theorem few_some (b off c : Nat) (ls : List Lab) (w : World) (hne : ls ≠ []) (hlc : ls.length ≤ c) (hcm : c ≤ maxLen) (hsz : ∀ l ∈ ls, l.1.size ≤ maxLen ∧ l.2.size ≤ maxLen) (_hb : b < w.heap.size)
    (hcell : ∀ i (h : i < ls.length), w.cell? ⟨b, off + i * 2, none⟩ = some (.string ls[i].1) ∧ w.cell? ⟨b, off + i * 2 + 1, none⟩ = some (.string ls[i].2)) :
    Calls Tryd.prog 9 #[.slice (some ⟨b, off, none⟩) ls.length c] w (LabsPost (fewL ls) w) := by
  obtain ⟨i0, hi, hz0, hz1, hz2⟩ := info_partsL Tryd.infoL
  unfold maxLen at hcm
  have hpos : 0 < ls.length := List.length_pos_iff.2 hne
  have HC := Lib.hid hcell
  have HS := Lib.hid (labs_sizes hsz)
  clear hcell hsz hne
  go_enter Tryd.func9, Tryd.ntmps9
  go_upto_region 2 with fail
  go_cut [10, 11, 12] (fun v n i wx => ∃ L : Nat, L ≤ 10 ∧ L ≤ ls.length ∧ ls.take L = ls.take 10 ∧ v = .slice (some ⟨b, off, none⟩) L c ∧ n = .int .i64 L ∧ i = .int .i64 0 ∧ w = wx)
  case first =>
    by_cases h5 : ls.length ≤ 10
    · go_wp2_with fail
      go_meet
      exact ⟨ls.length, h5, Nat.le_refl _, by rw [List.take_of_length_le (Nat.le_refl _), List.take_of_length_le h5], by (congr 1; omega), by (congr 1; omega), rfl, rfl⟩
    · go_wp2_with fail
      go_meet
      exact ⟨10, Nat.le_refl _, by omega, rfl, by (congr 1; omega), by (congr 1; omega), rfl, rfl⟩
  case rest =>
    obtain ⟨L, hL5, hL, hT, rfl, rfl, rfl, rfl⟩ := hcut
    have HT := Lib.hid hT
    clear hT
    go_wp2_with fail
    go_loopw [3, 12] (fun v i wr => ∃ k : Nat, k ≤ L ∧ i = .int .i64 k ∧ OwnL 49 wr w.heap.size v ((ls.take k).map fun l => (cut70 l.1, cut70 l.2)) ∧ Below w.heap.size w wr ∧ w.heap.size ≤ wr.heap.size) (fun _ i _ => L - (intOf i).toNat)
    case atStart => exact ⟨0, Nat.zero_le _, rfl, OwnL.nil _ _ _, Below.refl _ _, Nat.le_refl _⟩
    case round =>
      obtain ⟨k, hk, rfl, hown, hbl, hzl⟩ := hrel
      by_cases hkL : k < L
      · have hc1 := cellLater hbl (HC.out k (by omega)).1
        have hc2 := cellLater hbl (HC.out k (by omega)).2
        obtain ⟨hs1, hs2⟩ := HS.out k (by omega)
        have hts : (ls.take (k + 1)).map (fun l => (cut70 l.1, cut70 l.2)) = (ls.take k).map (fun l => (cut70 l.1, cut70 l.2)) ++ [(cut70 (ls[k]'(by omega)).1, cut70 (ls[k]'(by omega)).2)] := by
          rw [List.take_succ_eq_append_getElem (by omega), List.map_append]; rfl
        have hkl : k < ls.length := by omega
        obtain ⟨X, hX⟩ : ∃ X, ls[k] = X := ⟨_, rfl⟩
        rw [hX] at hc1 hc2 hs1 hs2 hts
        have HTS := Lib.hid hts
        have hll : ((ls.take k).map fun l => (cut70 l.1, cut70 l.2)).length ≤ 1000000 := by simp; omega
        obtain ⟨M, HM⟩ : ∃ M, Hid ((ls.take k).map (fun l => (cut70 l.1, cut70 l.2)) = M) := ⟨_, Lib.hid rfl⟩
        rw [HM.out] at hown hll
        clear hts hX
        unfold maxLen at hs1 hs2
        have hbx := Blk.new wr 49 #[.string X.1, .string X.2]
        have hne : some wr.heap.size ≠ u3.ownBlock := fun e => by have := (World.ownsRow.lt hown _ e.symm).2; omega
        have hownW := hown.alloc (.cells #[.string X.1, .string X.2] 49)
        have hbW := hbl.alloc hzl (.cells #[.string X.1, .string X.2] 49)
        have hzW := hbW.size
        clear hown hbl
        go_upto_region 5 with fail
        generalize wr.alloc (.cells #[.string X.1, .string X.2] 49) = W at *
        generalize wr.heap.size = B at *
        have q1 := hbx.cell 0
        have q2 := hbx.cell 1
        have hm1 := fun W => run_min70 (P := Tryd.prog) W #[3, 3] 3 X.1.size
        have hm2 := fun W => run_min70 (P := Tryd.prog) W #[3, 3] 3 X.2.size
        have hs1 := fun W => run_cut70 (P := Tryd.prog) W 9 X.1 Tryd.underlying9
        have hs2 := fun W => run_cut70 (P := Tryd.prog) W 9 X.2 Tryd.underlying9
        generalize cut70 X.1 = Y1 at *
        generalize cut70 X.2 = Y2 at *
        generalize min X.1.size 70 = m1 at *
        generalize min X.2.size 70 = m2 at *
        have hbD : Below w.heap.size w W.drew := below_drewN hbW 1
        have hownD : OwnL 49 W.drew w.heap.size u3 M := hownW
        have hzD : w.heap.size ≤ W.drew.heap.size := hzW
        have hbxD : Blk W.drew B 49 #[.string X.1, .string X.2] := hbx
        have hS0 : W.drew.cell? ⟨B, 0, none⟩ = some (.string X.1) ∧ W.drew.cell? ⟨B, 1, none⟩ = some (.string X.2) := ⟨hbxD.cell 0, hbxD.cell 1⟩
        have hSA : ∀ o, (W.drew.alloc o).cell? ⟨B, 0, none⟩ = some (.string X.1) ∧ (W.drew.alloc o).cell? ⟨B, 1, none⟩ = some (.string X.2) := fun o => ⟨(hbxD.alloc o).cell 0, (hbxD.alloc o).cell 1⟩
        have HSP : Hid (∀ w2, W.drew.grownBy w2 u3.ownBlock → w2.cell? ⟨B, 0, none⟩ = some (.string X.1) ∧ w2.cell? ⟨B, 1, none⟩ = some (.string X.2)) := Lib.hid fun w2 hg => ⟨(hbxD.push hg hne).cell 0, (hbxD.push hg hne).cell 1⟩
        clear q1 q2
        go_region_held3 (fun w' => w'.cell? ⟨B, 0, none⟩ = some (.string X.1) ∧ w'.cell? ⟨B, 1, none⟩ = some (.string X.2))
          (first | exact hS0 | exact hSA _ | exact HSP.out _ (by assumption))
          (first
            | (refine step_pushL W.drew (by rfl) (.tmp 16) (.tmp 32) 22 (by rfl) w.heap.size 49 i0 (.agg #[.string ⟨#[]⟩, .string ⟨#[]⟩]) Tryd.underlying22 hi hz0 hz1 hz2 rfl u3 M (Y1, Y2) (by rfl) hownD [.string Y1, .string Y2] rfl W.heap.size (by rfl) rfl hll hzD ?_; intro v2 w2 hown2 hg2))
        all_goals
          have hb2 := hownD.grown hbD hzD hg2
          have hz2' := Nat.le_trans hzD hg2.size
          clear hownD hbD hzD hg2 hS0 hSA hm1 hm2 hs1 hs2
          go_wp2
          go_roundw
          case rel => exact ⟨k + 1, by omega, by go_num, by rw [HTS.out, HM.out]; exact hown2, hb2, hz2'⟩
          case measure => simp [intOf]; omega
      · obtain rfl : k = L := by omega
        have hfl : (ls.take k).map (fun l => (cut70 l.1, cut70 l.2)) = fewL ls := by rw [fewL, HT.out]
        rw [hfl] at hown
        obtain ⟨a', c', rfl, hh⟩ := hown.labs (fun l hl => by have := fewL_size ls l hl; unfold maxLen; omega)
        have HH := Lib.hid hh
        clear hfl hown hh
        go_wp2
        go_ret
        exact ⟨a', c', rfl, HH.out, hbl⟩

theorem few_none (a : Option Addr) (c : Nat) (w : World) (hcm : c ≤ maxLen) : Calls Tryd.prog 9 #[.slice a 0 c] w (LabsPost (fewL []) w) := by
  unfold maxLen at hcm
  go_enter Tryd.func9, Tryd.ntmps9
  go_wp2
  refine wp_loop_rounds 1 ?_
  rw [rounds_succ]
  go_wp2
  go_ret
  exact ⟨none, 0, rfl, HasLabs.nil _ _ _ (by unfold maxLen; omega), Below.refl _ _⟩

theorem few_any (a : Option Addr) (c : Nat) (ls : List Lab) (w : World) (h : HasLabs w a c ls) : Calls Tryd.prog 9 #[.slice a ls.length c] w (LabsPost (fewL ls) w) := by
  obtain ⟨h1, h2, h3, h4⟩ := h
  by_cases he : ls = []
  · subst he; exact few_none a c w h2
  · rcases h4 with h4 | ⟨b, off, rfl, hb, hc⟩
    · exact absurd h4 he
    · exact few_some b off c ls w he h1 h2 h3 hb hc
end Go.Proofs.YtjkmnanadeffnaaDoor
