/- The contracts of 'few', 'names' and 'alive' of the statements of layer 3. -/
import Derived.Test.YtkgnapojkijbgaaGreatDoorLabC
import Derived.Test.YtkgnapojkijbgaaGreatDoorOwn
import Derived.Deep.RegionHeld3
namespace Go.Proofs.YtkgnapojkijbgaaGreatDoor
open Go.RowKit

theorem Tryz.infoL : (Tryz.prog.info? 152).map (fun i => (i.zero, i.size, i.bytes)) = some (some (.agg #[.string ⟨#[]⟩, .string ⟨#[]⟩]), 2, 32) := by kernel_rfl
theorem info_partsL {x : Option TypeInfo} (h : x.map (fun i => (i.zero, i.size, i.bytes)) = some (some (.agg #[.string ⟨#[]⟩, .string ⟨#[]⟩]), 2, 32)) : ∃ i, x = some i ∧ i.zero = some (.agg #[.string ⟨#[]⟩, .string ⟨#[]⟩]) ∧ i.size = 2 ∧ i.bytes = 32 := by
  cases x with
  | none => cases h
  | some i => simp at h; exact ⟨i, rfl, h.1, h.2.1, h.2.2⟩

/-- v is the call's own slice of the labels ls -/
def OwnL (T : TypeId) (w : World) (base : Nat) (v : Value) (ls : List Lab) : Prop := w.ownsRow base T 2 v ls.length (labsV ls)
theorem OwnL.call {T : TypeId} {w w1 : World} {base : Nat} {v : Value} {l : List Lab} (h : OwnL T w base v l) (hb : Below w.heap.size w w1) : OwnL T w1 base v l :=
  World.ownsRow.kept h (row := none) ⟨hb.os, hb.tape, hb.output, hb.size, fun k hk _ => hb.block k hk⟩ (by cases v.ownBlock <;> simp)
theorem OwnL.alloc {T : TypeId} {w : World} {base : Nat} {v : Value} {l : List Lab} (h : OwnL T w base v l) (o : Obj) : OwnL T (w.alloc o) base v l := World.ownsRow.alloc h o
theorem OwnL.grown {T : TypeId} {w w1 : World} {base : Nat} {v : Value} {l : List Lab} (h : OwnL T w base v l) {w0 : World} (hb : Below base w0 w) (hz : base ≤ w.heap.size) (hg : w.grownBy w1 v.ownBlock) : Below base w0 w1 :=
  hb.grown hg hz (fun k hk => (World.ownsRow.lt h k hk).1)
theorem OwnL.nil (T : TypeId) (w : World) (base : Nat) : OwnL T w base (.slice none 0 0) [] := World.ownsRow_nil _ _ _ _
theorem OwnL.labs {T : TypeId} {w : World} {base : Nat} {v : Value} {ls : List Lab} (h : OwnL T w base v ls) (hs : ∀ l ∈ ls, l.1.size ≤ maxLen ∧ l.2.size ≤ maxLen) : ∃ a c, v = .slice a ls.length c ∧ HasLabs w a c ls := labs_of_own h hs

theorem wpList_pushL {P : Program} (W : World) {ops : Array Oper} {rest : List Oper} {o : Oper} {a : Act} {Q : Exit → Act → World → Prop} (hgd : o.guard = none) (s x : Operand) (t : TypeId)
    (ho : o.op = .call { callee := .builtin .append, args := #[s, x], argTypes := #[t, t] })
    (base : Nat) (e : TypeId) (i : TypeInfo) (z : Value) (ht : P.underlying t = some (.slice e)) (hi : P.info? e = some i) (hz : i.zero = some z) (hsize : i.size = 2) (hby : i.bytes = 32) (hzs : z.cells.size = 2)
    (v : Value) (ls : List Lab) (l : Lab) (hs : a.eval s = v) (hown : OwnL e W base v ls) (us : List Value) (hus : us = labsV [l])
    (hx : a.eval x = .slice (some ⟨W.heap.size, 0, none⟩) 1 1) (h63 : ls.length ≤ 1000000) (hbase : base ≤ W.heap.size)
    (h : ∀ (v' : Value) (w' : World), OwnL e w' base v' (ls ++ [l]) → W.grownBy w' v.ownBlock → wpList P ops Q rest (a.put o.dst v') w') :
    wpList P ops Q (o :: rest) a (W.alloc (.cells us.toArray e)) := by
  subst hus
  refine wpList_append_own (W.alloc (.cells (labsV [l]).toArray e)) hgd s x t ho base e i z 2 32 ht hi hz hsize hby hzs (by omega) v ls.length (labsV ls) hs (World.ownsRow.alloc hown _) ⟨W.heap.size, 0, none⟩ 1 1 (labsV [l]) hx (by rw [labsV_len]; rfl) ?_ ?_ (by unfold maxLen; omega) (by omega) (by simp; omega) ?_
  · intro j y hy
    have e0 : (⟨W.heap.size, 0, none⟩ : Addr).add j = ⟨W.heap.size, j, none⟩ := by unfold Addr.add; split <;> simp_all
    rw [e0]
    rw [show (W.alloc (.cells (labsV [l]).toArray e)).cell? ⟨W.heap.size, j, none⟩ = _ from World.cell?_alloc_mark W (labsV [l]).toArray e (0, 0) j]
    simpa using hy
  · exact labsV_one _
  · intro v' w' hown' hg _
    refine h v' w' ?_ ⟨hg.os, hg.tape, hg.output, ?_, ?_⟩
    · unfold OwnL
      rw [labsV_app, List.length_append]
      exact hown'
    · have := hg.size; simp at this; omega
    · intro k hk hne
      rw [hg.block k (by simp; omega) hne]
      exact Below.heap_alloc W _ k hk

/-- the same, where the append lies in a region that draws its order -/
theorem step_pushL {P : Program} (W : World) {ops : Array Oper} {o : Oper} {a : Act} {K : Act → World → Prop} {Q : Exit → Act → World → Prop} {E : Prop} (hgd : o.guard = none) (s x : Operand) (t : TypeId)
    (ho : o.op = .call { callee := .builtin .append, args := #[s, x], argTypes := #[t, t] })
    (base : Nat) (e : TypeId) (i : TypeInfo) (z : Value) (ht : P.underlying t = some (.slice e)) (hi : P.info? e = some i) (hz : i.zero = some z) (hsize : i.size = 2) (hby : i.bytes = 32) (hzs : z.cells.size = 2)
    (v : Value) (ls : List Lab) (l : Lab) (hs : a.eval s = v) (hown : OwnL e W base v ls) (us : List Value) (hus : us = labsV [l]) (B : Nat)
    (hx : a.eval x = .slice (some ⟨B, 0, none⟩) 1 1) (hB : B = W.heap.size) (h63 : ls.length ≤ 1000000) (hbase : base ≤ W.heap.size)
    (h : ∀ (v' : Value) (w' : World), OwnL e w' base v' (ls ++ [l]) → W.grownBy w' v.ownBlock → K (a.put o.dst v') w') :
    if Region.wanted o (yielded ops a.tmps) = true then Oper.wp P o a (W.alloc (.cells us.toArray e)) K Q else E := by
  have hw : Region.wanted o (yielded ops a.tmps) = true := by simp [Region.wanted, hgd]
  rw [if_pos hw]
  subst hus hB
  refine wp_append_own (W.alloc (.cells (labsV [l]).toArray e)) s x t ho base e i z 2 32 ht hi hz hsize hby hzs (by omega) v ls.length (labsV ls) hs (World.ownsRow.alloc hown _) ⟨W.heap.size, 0, none⟩ 1 1 (labsV [l]) hx (by rw [labsV_len]; rfl) ?_ ?_ (by unfold maxLen; omega) (by omega) (by simp; omega) ?_
  · intro j y hy
    have e0 : (⟨W.heap.size, 0, none⟩ : Addr).add j = ⟨W.heap.size, j, none⟩ := by unfold Addr.add; split <;> simp_all
    rw [e0]
    rw [show (W.alloc (.cells (labsV [l]).toArray e)).cell? ⟨W.heap.size, j, none⟩ = _ from World.cell?_alloc_mark W (labsV [l]).toArray e (0, 0) j]
    simpa using hy
  · exact labsV_one _
  · intro v' w' hown' hg _
    refine h v' w' ?_ ⟨hg.os, hg.tape, hg.output, ?_, ?_⟩
    · unfold OwnL
      rw [labsV_app, List.length_append]
      exact hown'
    · have := hg.size; simp at this; omega
    · intro k hk hne
      rw [hg.block k (by simp; omega) hne]
      exact Below.heap_alloc W _ k hk
theorem run_min70 {P : Program} (w : World) (ts : Array TypeId) (t : TypeId) (x : Nat) : (Builtin.min_ ts t #[.int .i64 (x : Int), .int .i64 70]).run P w = .ok (.int .i64 ((min x 70 : Nat) : Int)) w := by
  simp [Builtin.min_, Builtin.min2]
  repeat' split
  all_goals omega
theorem run_slice_to {P : Program} (w : World) (t : TypeId) (s : ByteArray) (j : Nat) (h : P.underlying t = some .string) (h2 : j ≤ s.size) :
    (Instr.slice t (.string s) none (some (.int .i64 (j : Int))) none).run P w = .ok (.string (s.extract 0 j)) w := by
  have hj : (0 : Int) ≤ (j : Int) ∧ (j : Int) ≤ (s.size : Int) := ⟨by omega, by omega⟩
  simp [Instr.slice, Instr.sliceBounds, Instr.sliceBound, asIntOf, run_underlying h, hj]
  try omega
def cut70 (s : ByteArray) : ByteArray := if s.size ≤ 70 then s else s.extract 0 70
theorem cut70_ext (s : ByteArray) : s.extract 0 (min s.size 70) = cut70 s := by
  unfold cut70
  split
  · rw [Nat.min_eq_left (by assumption)]; simp
  · rw [Nat.min_eq_right (by omega)]
theorem run_cut70 {P : Program} (w : World) (t : TypeId) (s : ByteArray) (h : P.underlying t = some .string) :
    (Instr.slice t (.string s) none (some (.int .i64 ((min s.size 70 : Nat) : Int))) none).run P w = .ok (.string (cut70 s)) w := by
  rw [run_slice_to w t s (min s.size 70) h (by omega), cut70_ext]
theorem cut70_size (s : ByteArray) : (cut70 s).size ≤ 70 := by
  unfold cut70; split
  · assumption
  · simp; omega
def fewL (ls : List Lab) : List Lab := (ls.take 10).map fun l => (cut70 l.1, cut70 l.2)
theorem fewL_len (ls : List Lab) : (fewL ls).length ≤ 10 := by simp [fewL]; omega
theorem fewL_size (ls : List Lab) : ∀ l ∈ fewL ls, l.1.size ≤ 70 ∧ l.2.size ≤ 70 := by
  intro l hl
  obtain ⟨x, _, rfl⟩ := List.mem_map.1 hl
  exact ⟨cut70_size _, cut70_size _⟩
def LabsPost (ls : List Lab) (w : World) (e : Ending) (w' : World) : Prop := ∃ a c, e = .returned (.slice a ls.length c) ∧ HasLabs w' a c ls ∧ Below w.heap.size w w'

end Go.Proofs.YtkgnapojkijbgaaGreatDoor
