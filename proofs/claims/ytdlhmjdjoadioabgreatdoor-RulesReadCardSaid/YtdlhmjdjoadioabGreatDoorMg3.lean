/- Slices of texts, in memory: what is known of one that came in, or that the call has made. It speaks of no one program. -/
import Derived.Test.YtdlhmjdjoadioabGreatDoorMg2
import Derived.SliceStrings
import Derived.ProofKit
import Derived.Test.YtdlhmjdjoadioabGreatDoorZOwn
import Derived.Test.YtdlhmjdjoadioabGreatDoorLabM
import Derived.Sort.Grow
import Derived.Test.YtdlhmjdjoadioabGreatDoorRows
import Derived.WalkLawsBesides
import Derived.WalkSpells
import Derived.Deep.DeepCutAuto
namespace Go.Proofs.YtdlhmjdjoadioabGreatDoor
open Go.RowKit Go.ChangeShapes Go.WideShapes

/-- the slice '.slice a ss.length c' reads as the texts ss -/
def HasStrs (w : World) (a : Option Addr) (c : Nat) (ss : List ByteArray) : Prop :=
  ss.length ≤ c ∧ c ≤ maxLen ∧ (∀ s ∈ ss, s.size ≤ maxLen) ∧
    (ss = [] ∨ ∃ b off, a = some ⟨b, off, none⟩ ∧ b < w.heap.size ∧ ∀ i (h : i < ss.length), w.cell? ⟨b, off + i, none⟩ = some (.string ss[i]))
theorem HasStrs.call {w w' : World} {a : Option Addr} {c : Nat} {ss : List ByteArray} (h : HasStrs w a c ss) (hb : Below w.heap.size w w') : HasStrs w' a c ss := by
  obtain ⟨h1, h2, h3, h4⟩ := h
  refine ⟨h1, h2, h3, ?_⟩
  rcases h4 with h4 | ⟨b, off, rfl, hlt, hc⟩
  · exact .inl h4
  · exact .inr ⟨b, off, rfl, Nat.lt_of_lt_of_le hlt hb.size, fun i hi => (hb.cell (p := ⟨b, off + i, none⟩) hlt).trans (hc i hi)⟩
theorem HasStrs.drew {w : World} {a : Option Addr} {c : Nat} {ss : List ByteArray} (h : HasStrs w a c ss) : HasStrs w.drew a c ss := h
theorem HasStrs.nil (w : World) (a : Option Addr) (c : Nat) (hc : c ≤ maxLen) : HasStrs w a c [] := ⟨Nat.zero_le _, hc, (fun _ h => by cases h), .inl rfl⟩

/-- texts, as cells -/
def strsV (ss : List ByteArray) : List Value := ss.map .string
theorem strsV_len (ss : List ByteArray) : (strsV ss).length = ss.length := by simp [strsV]
theorem strsV_push (ss : List ByteArray) (s : ByteArray) : strsV ss ++ [.string s] = strsV (ss ++ [s]) := by simp [strsV]

/-- a slice of texts of the call's own: its value, and that it reads as them -/
theorem strs_of_own {w : World} {base e : Nat} {v : Value} {ss : List ByteArray} (h : w.ownsRow base e 1 v ss.length (strsV ss)) (hs : ∀ s ∈ ss, s.size ≤ maxLen) :
    ∃ a c, v = .slice a ss.length c ∧ HasStrs w a c ss := by
  rcases h.2 with ⟨rfl, h0⟩ | ⟨g, cap, cur, rfl, hb, hg, hn, hm, hcs, ht⟩
  · obtain rfl : ss = [] := List.eq_nil_of_length_eq_zero h0
    exact ⟨none, 0, rfl, HasStrs.nil _ _ _ (by unfold maxLen; omega)⟩
  · refine ⟨some ⟨g, 0, none⟩, cap, rfl, hn, hm, hs, .inr ⟨g, 0, rfl, lt_of_block hg, fun i hi => ?_⟩⟩
    rw [Nat.zero_add, h.cellAt i (by omega)]
    simp [strsV, hi]

theorem strArg_of {H : Type} {enc : TypeId × Value → H} {P : Program} {w : World} {base : Nat} {spare : Nat → Bool} {held : Bool} {t e : TypeId} {a : Option Addr} {len cap : Nat} {d : DataW H} {ps : List MemPlace}
    (ht : P.underlying t = some (.slice e)) (he : P.underlying e = some .string) (hc : P.cellsOf e = 1)
    (h : DataW.Trod enc P w base spare held t (.slice a len cap) d ps) : ∃ ss : List ByteArray, ss.length = len ∧ HasStrs w a cap ss := by
  obtain ⟨fuel, hf⟩ := h
  rcases open_strings ht he hc hf with ⟨hcs, _⟩ | ⟨x, l, c, ss, hcs, _, hl, hm, hz, _, hcell, hwz⟩
  · simp [Value.cells] at hcs
    obtain ⟨rfl, rfl, rfl⟩ := hcs
    exact ⟨[], rfl, HasStrs.nil _ _ _ (by unfold maxLen; omega)⟩
  · simp [Value.cells] at hcs
    obtain ⟨rfl, rfl, rfl⟩ := hcs
    have hlen : len ≤ ss.length := by rw [hz]; split <;> omega
    refine ⟨ss.take len, by simp; omega, by simp; omega, hm, fun s hs => hwz s (List.mem_of_mem_take hs), ?_⟩
    by_cases h0 : len = 0
    · subst h0; exact .inl (by simp)
    · have c0 := hcell 0 (by omega)
      obtain ⟨b, off, spot⟩ := x
      have hspot : spot = none := by simpa [Addr.add] using World.cell?_spot c0
      subst hspot
      refine .inr ⟨b, off, rfl, ?_, fun i hi => ?_⟩
      · have := World.block_lt_of_cell? w _ c0
        simpa [Addr.add] using this
      · have hi' : i < len := by simp at hi; omega
        have e0 : (⟨b, off, none⟩ : Addr).add i = ⟨b, off + i, none⟩ := by unfold Addr.add; split <;> simp_all
        have ci := hcell i (by omega)
        rw [e0] at ci
        rw [ci]
        simp [List.getD, show i < ss.length by omega]

end Go.Proofs.YtdlhmjdjoadioabGreatDoor
/- A slice of texts of the call's own that is appended to, and the block in whose cell it lies. It speaks of no one program. -/
namespace Go.Proofs.YtdlhmjdjoadioabGreatDoor
open Go.RowKit

/-- v is the call's own slice of the texts ss -/
def OwnS (T : TypeId) (w : World) (base : Nat) (v : Value) (ss : List ByteArray) : Prop := w.ownsRow base T 1 v ss.length (strsV ss)
theorem OwnS.call {T : TypeId} {w w1 : World} {base : Nat} {v : Value} {ss : List ByteArray} (h : OwnS T w base v ss) (hb : Below w.heap.size w w1) : OwnS T w1 base v ss :=
  World.ownsRow.kept h (row := none) ⟨hb.os, hb.tape, hb.output, hb.size, fun k hk _ => hb.block k hk⟩ (by cases v.ownBlock <;> simp)
theorem OwnS.alloc {T : TypeId} {w : World} {base : Nat} {v : Value} {ss : List ByteArray} (h : OwnS T w base v ss) (o : Obj) : OwnS T (w.alloc o) base v ss := World.ownsRow.alloc h o
theorem OwnS.drew {T : TypeId} {w : World} {base : Nat} {v : Value} {ss : List ByteArray} (h : OwnS T w base v ss) : OwnS T w.drew base v ss := h
theorem OwnS.grown {T : TypeId} {w w1 : World} {base : Nat} {v : Value} {ss : List ByteArray} (h : OwnS T w base v ss) {w0 : World} {B : Nat} (hb : Below B w0 w) (hB : B ≤ base) (hz : B ≤ w.heap.size) (hg : w.grownBy w1 v.ownBlock) : Below B w0 w1 :=
  hb.grown hg hz (fun k hk => Nat.le_trans hB (World.ownsRow.lt h k hk).1)
theorem OwnS.nil (T : TypeId) (w : World) (base : Nat) : OwnS T w base (.slice none 0 0) [] := World.ownsRow_nil _ _ _ _
theorem OwnS.strs {T : TypeId} {w : World} {base : Nat} {v : Value} {ss : List ByteArray} (h : OwnS T w base v ss) (hs : ∀ s ∈ ss, s.size ≤ maxLen) : ∃ a c, v = .slice a ss.length c ∧ HasStrs w a c ss := strs_of_own h hs
theorem OwnS.ne {T : TypeId} {w : World} {base : Nat} {v : Value} {ss : List ByteArray} (h : OwnS T w base v ss) {g : Nat} (hg : g < base) : some g ≠ v.ownBlock := fun e => by have := (World.ownsRow.lt h _ e.symm).1; omega
theorem grown_setCell (w : World) (g i : Nat) (v : Value) : w.grownBy (w.setCell ⟨g, i, none⟩ v) (some g) :=
  ⟨rfl, rfl, rfl, by simp [World.setCell], fun k _ hk => Below.heap_setCell w ⟨g, i, none⟩ v k (fun e => hk (by rw [e]))⟩
/-- a store into another block -/
theorem OwnS.setCell {T : TypeId} {w : World} {base : Nat} {v : Value} {ss : List ByteArray} (h : OwnS T w base v ss) {g : Nat} (hg : g < base) (i : Nat) (u : Value) : OwnS T (w.setCell ⟨g, i, none⟩ u) base v ss :=
  World.ownsRow.kept h (grown_setCell w g i u) (.inr fun e => h.ne hg e.symm)
theorem strsV_one (ss : List ByteArray) : ∀ u ∈ strsV ss, u.oneCell' = true := by
  intro u hu
  obtain ⟨s, _, rfl⟩ := List.mem_map.1 hu
  rfl

theorem step_pushS {P : Program} (W : World) {ops : Array Oper} {o : Oper} {a : Act} {K : Act → World → Prop} {Q : Exit → Act → World → Prop} {E : Prop} (hgd : o.guard = none) (s x : Operand) (t : TypeId)
    (ho : o.op = .call { callee := .builtin .append, args := #[s, x], argTypes := #[t, t] })
    (base : Nat) (e : TypeId) (i : TypeInfo) (z : Value) (ht : P.underlying t = some (.slice e)) (hi : P.info? e = some i) (hz : i.zero = some z) (hsize : i.size = 1) (hby : i.bytes = 16) (hzs : z.cells.size = 1)
    (v : Value) (ss : List ByteArray) (l : ByteArray) (hs : a.eval s = v) (hown : OwnS e W base v ss) (B : Nat)
    (hx : a.eval x = .slice (some ⟨B, 0, none⟩) 1 1) (hB : B = W.heap.size) (h63 : ss.length ≤ 1000000) (hbase : base ≤ W.heap.size)
    (h : ∀ (v' : Value) (w' : World), OwnS e w' base v' (ss ++ [l]) → W.grownBy w' v.ownBlock → K (a.put o.dst v') w') :
    if Region.wanted o (yielded ops a.tmps) = true then Oper.wp P o a (W.alloc (.cells #[.string l] e)) K Q else E := by
  have hw : Region.wanted o (yielded ops a.tmps) = true := by simp [Region.wanted, hgd]
  rw [if_pos hw]
  subst hB
  refine wp_append_own (W.alloc (.cells (strsV [l]).toArray e)) s x t ho base e i z 1 16 ht hi hz hsize hby hzs (by omega) v ss.length (strsV ss) hs (World.ownsRow.alloc hown _) ⟨W.heap.size, 0, none⟩ 1 1 (strsV [l]) hx (by rw [strsV_len]; rfl) ?_ ?_ (by unfold maxLen; omega) (by omega) (by simp; omega) ?_
  · intro j y hy
    have e0 : (⟨W.heap.size, 0, none⟩ : Addr).add j = ⟨W.heap.size, j, none⟩ := by unfold Addr.add; split <;> simp_all
    rw [e0]
    rw [show (W.alloc (.cells (strsV [l]).toArray e)).cell? ⟨W.heap.size, j, none⟩ = _ from World.cell?_alloc_mark W (strsV [l]).toArray e (0, 0) j]
    simpa using hy
  · exact strsV_one _
  · intro v' w' hown' hg _
    refine h v' w' ?_ ⟨hg.os, hg.tape, hg.output, ?_, ?_⟩
    · unfold OwnS
      rw [← strsV_push, List.length_append]
      exact hown'
    · have := hg.size; simp at this; omega
    · intro k hk hne
      rw [hg.block k (by simp; omega) hne]
      exact Below.heap_alloc W _ k hk
end Go.Proofs.YtdlhmjdjoadioabGreatDoor
/- More laws of the walk that speak of no one program: an append of one element, whose block's number is reckoned. -/
namespace Go.Proofs.YtdlhmjdjoadioabGreatDoor
open Go.RowKit

/-- 'wpList_push', where the new element's block is told by another name of its number -/
theorem wpList_push_at {P : Program} (W : World) {ops : Array Oper} {rest : List Oper} {o : Oper} {a : Act} {Q : Exit → Act → World → Prop} (hgd : o.guard = none) (s x : Operand) (t : TypeId)
    (ho : o.op = .call { callee := .builtin .append, args := #[s, x], argTypes := #[t, t] })
    (base : Nat) (e : TypeId) (i : TypeInfo) (z : Value) (bytes : Nat) (ht : P.underlying t = some (.slice e)) (hi : P.info? e = some i) (hz : i.zero = some z)
    (hsize : i.size = 1) (hby : i.bytes = bytes) (hzs : z.cells.size = 1)
    (v : Value) (n : Nat) (xs : List Value) (hs : a.eval s = v) (hown : W.ownsRow base e 1 v n xs) (u : Value) (B : Nat)
    (hx : a.eval x = .slice (some ⟨B, 0, none⟩) 1 1) (hB : B = W.heap.size) (hu : u.oneCell' = true)
    (h63 : n + 1 ≤ maxLen) (hbytes : (n + 1) * bytes ≤ 140737488355328) (hbase : base ≤ W.heap.size)
    (h : ∀ (g c : Nat) (w' : World), w'.ownsRow base e 1 (.slice (some ⟨g, 0, none⟩) (n + 1) c) (n + 1) (xs ++ [u]) → W.grownBy w' v.ownBlock → wpList P ops Q rest (a.put o.dst (.slice (some ⟨g, 0, none⟩) (n + 1) c)) w') :
    wpList P ops Q (o :: rest) a (W.alloc (.cells #[u] e)) := by
  subst hB
  exact wpList_push W hgd s x t ho base e i z bytes ht hi hz hsize hby hzs v n xs hs hown u hx hu h63 hbytes hbase h

end Go.Proofs.YtdlhmjdjoadioabGreatDoor
/- Laws and small facts that speak of no one program: a text's bytes, the least of two lengths, a text that is cut, what a call that answers a Bool leaves. -/
namespace Go.Proofs.YtdlhmjdjoadioabGreatDoor
open Go.RowKit
open Go.WideShapes (bytes_inj)

theorem byteAt (s : ByteArray) (k : Nat) (h : k < s.size) : s.data.toList[k]'(by simpa using h) = s[k] := rfl
theorem byteD (s : ByteArray) (k : Nat) (h : k < s.size) : s.data.toList.getD k 0 = s[k] := by
  rw [List.getD_eq_getElem?_getD, List.getElem?_eq_getElem (by simpa using h)]; rfl
theorem bytesAll {p : UInt8 → Bool} {s : ByteArray} (h : s.data.toList.all p = true) (k : Nat) (hk : k < s.size) : p s[k] = true := by
  rw [List.all_eq_true] at h
  exact h _ (by rw [← byteAt s k hk]; exact List.getElem_mem _)
theorem bytesNot {p : UInt8 → Bool} (s : ByteArray) (h : ¬ s.data.toList.all p = true) : ∃ j, ∃ hj : j < s.size, p s[j] = false ∧ ∀ k (_hk : k < j), p (s[k]'(by omega)) = true := by
  obtain ⟨j, hj, hp, ha⟩ := first_not (fun i => if h : i < s.size then p s[i] else true) s.size (fun hall => h (by
    rw [List.all_eq_true]
    intro x hx
    obtain ⟨i, hi, rfl⟩ := List.getElem_of_mem hx
    have hi' : i < s.size := by simpa using hi
    have := hall i hi'
    simp only [hi', dite_true] at this
    exact this))
  refine ⟨j, hj, by simpa [hj] using hp, fun k hk => ?_⟩
  have := ha k hk
  simpa [show k < s.size by omega] using this
theorem lenB (s : ByteArray) : s.data.toList.length = s.size := by simp

/-- a call that answers a Bool and leaves the world alone; one that may make memory -/
def BoolS (B : Bool) (w : World) (e : Ending) (w' : World) : Prop := e = .returned (.bool B) ∧ w = w'
def BoolW (B : Bool) (w : World) (e : Ending) (w' : World) : Prop := e = .returned (.bool B) ∧ Below w.heap.size w w'
theorem cellL {w wx : World} {a : Addr} {v : Value} (hb : Below w.heap.size w wx) (h : w.cell? a = some v) : wx.cell? a = some v := (hb.cell (World.block_lt_of_cell? _ _ h)).trans h
theorem strEq (a b : ByteArray) : (a.toList == b.toList) = decide (a = b) := by
  rw [ByteArray.toList_eq, ByteArray.toList_eq, Bool.eq_iff_iff, beq_iff_eq, decide_eq_true_iff]
  exact ⟨fun e => bytes_inj e, fun e => by rw [e]⟩
theorem belowGrow (w : World) (os : Array Obj) : Below w.heap.size w (Go.Sort.grow w os) := by
  refine ⟨rfl, rfl, rfl, ?_, ?_⟩
  · simp [Go.Sort.grow]
  · intro k hk
    simp only [Go.Sort.grow]
    rw [Array.getElem?_append_left hk]

theorem run_minN {P : Program} (w : World) (ts : Array TypeId) (t : TypeId) (x k : Nat) : (Builtin.min_ ts t #[.int .i64 (x : Int), .int .i64 (k : Int)]).run P w = .ok (.int .i64 ((min x k : Nat) : Int)) w := by
  simp [Builtin.min_, Builtin.min2]
  repeat' split
  all_goals omega
theorem run_sliceTo {P : Program} (w : World) (t : TypeId) (s : ByteArray) (j : Nat) (h : P.underlying t = some .string) (h2 : j ≤ s.size) :
    (Instr.slice t (.string s) none (some (.int .i64 (j : Int))) none).run P w = .ok (.string (s.extract 0 j)) w := by
  have hj : (0 : Int) ≤ (j : Int) ∧ (j : Int) ≤ (s.size : Int) := ⟨by omega, by omega⟩
  simp [Instr.slice, Instr.sliceBounds, Instr.sliceBound, asIntOf, run_underlying h, hj]
  try omega
/-- a text's first bytes -/
def cutN (k : Nat) (s : ByteArray) : ByteArray := if s.size ≤ k then s else s.extract 0 k
theorem cutN_ext (k : Nat) (s : ByteArray) : s.extract 0 (min s.size k) = cutN k s := by
  unfold cutN
  split
  · rw [Nat.min_eq_left (by assumption)]; simp
  · rw [Nat.min_eq_right (by omega)]
theorem run_cutN {P : Program} (w : World) (t : TypeId) (k : Nat) (s : ByteArray) (h : P.underlying t = some .string) :
    (Instr.slice t (.string s) none (some (.int .i64 ((min s.size k : Nat) : Int))) none).run P w = .ok (.string (cutN k s)) w := by
  rw [run_sliceTo w t s (min s.size k) h (by omega), cutN_ext]
theorem cutN_size (k : Nat) (s : ByteArray) : (cutN k s).size ≤ k := by
  unfold cutN; split
  · assumption
  · simp; omega
end Go.Proofs.YtdlhmjdjoadioabGreatDoor
/- The element of a row of texts. -/
namespace Go.Proofs.YtdlhmjdjoadioabGreatDoor
open Go.RowKit

theorem Tryz.infoS : (Tryz.prog.info? 9).map (fun i => (i.zero, i.size, i.bytes)) = some (some (.string ⟨#[]⟩), 1, 16) := by kernel_rfl

end Go.Proofs.YtdlhmjdjoadioabGreatDoor
