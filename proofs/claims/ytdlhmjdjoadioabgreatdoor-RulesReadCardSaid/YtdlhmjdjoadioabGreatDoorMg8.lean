/- Labels held against one another. -/
import Derived.Test.YtdlhmjdjoadioabGreatDoorZLabC
import Derived.Test.YtdlhmjdjoadioabGreatDoorZOwn
import Derived.Laws.StructEq
import Derived.Test.YtdlhmjdjoadioabGreatDoorZLabF
import Derived.Test.YtdlhmjdjoadioabGreatDoorShelf
namespace Go.Proofs.YtdlhmjdjoadioabGreatDoor
open Go.RowKit
open Go.WideShapes (bytes_inj)


theorem lab_parts (w : World) (n v : ByteArray) : (part 9 #[.string n, .string v] 0).run Tryz.prog w = .ok (.string n) w ∧ (part 9 #[.string n, .string v] 1).run Tryz.prog w = .ok (.string v) w := by
  constructor <;> simp [go_sem]
theorem run_neq_lab (x y : Lab) (w : World) : (binOp .neq 60 (.agg #[.string x.1, .string x.2]) (.agg #[.string y.1, .string y.2])).run Tryz.prog w = .ok (.bool (!decide (x = y))) w := by
  have hd : decide (x = y) = (decide (x.1 = y.1) && decide (x.2 = y.2)) := by
    rw [Bool.eq_iff_iff, Bool.and_eq_true, decide_eq_true_iff, decide_eq_true_iff, decide_eq_true_iff]
    exact Prod.ext_iff
  rw [hd, ← toList_eq_iff, ← toList_eq_iff]
  simp [go_sem]
  by_cases h1 : x.1.toList = y.1.toList <;> by_cases h2 : x.2.toList = y.2.toList <;> simp [h1, h2]
end Go.Proofs.YtdlhmjdjoadioabGreatDoor
/- The contracts of 'names' and 'alive' of the statements of layer 3. -/
namespace Go.Proofs.YtdlhmjdjoadioabGreatDoor
open Go.RowKit

def namesL (ss : List ByteArray) : List ByteArray := (ss.take 10).map cut70
theorem namesL_len (ss : List ByteArray) : (namesL ss).length ≤ 10 := by simp [namesL]; omega
theorem namesL_size (ss : List ByteArray) : ∀ s ∈ namesL ss, s.size ≤ 70 := by
  intro s hs
  obtain ⟨x, _, rfl⟩ := List.mem_map.1 hs
  exact cut70_size x

theorem cut70_int (s : ByteArray) : s.extract 0 (min (s.size : Int) 70).toNat = cut70 s := by
  rw [show (min (s.size : Int) 70).toNat = min s.size 70 by omega, cut70_ext]
def NamesPost (ss : List ByteArray) (w : World) (e : Ending) (w' : World) : Prop :=
  ∃ a c, e = .returned (.slice a (namesL ss).length c) ∧ HasStrs w' a c (namesL ss) ∧ Below w.heap.size w w'

/-- a row of labels that has just been laid -/
theorem HasLabs.made (w : World) (T : TypeId) (ls : List Lab) (h : ls.length ≤ 1000) (hs : ∀ l ∈ ls, l.1.size ≤ maxLen ∧ l.2.size ≤ maxLen) :
    HasLabs (w.alloc (.cells (labsV ls).toArray T)) (some ⟨w.heap.size, 0, none⟩) ls.length ls := by
  refine ⟨Nat.le_refl _, by unfold maxLen; omega, hs, .inr ⟨w.heap.size, 0, rfl, by simp, fun i hi => ?_⟩⟩
  obtain ⟨g1, g2⟩ := labsV_get ls i hi
  refine ⟨?_, ?_⟩
  · rw [show (w.alloc (.cells (labsV ls).toArray T)).cell? ⟨w.heap.size, 0 + i * 2, none⟩ = _ from World.cell?_alloc_mark w (labsV ls).toArray T (0, 0) (0 + i * 2)]
    simpa using g1
  · rw [show (w.alloc (.cells (labsV ls).toArray T)).cell? ⟨w.heap.size, 0 + i * 2 + 1, none⟩ = _ from World.cell?_alloc_mark w (labsV ls).toArray T (0, 0) (0 + i * 2 + 1)]
    simpa using g2
end Go.Proofs.YtdlhmjdjoadioabGreatDoor
/- Which names are among some. -/
namespace Go.Proofs.YtdlhmjdjoadioabGreatDoor
open Go.RowKit


theorem HasLabs.some {w : World} {a : Option Addr} {c : Nat} {ls : List Lab} (h : HasLabs w a c ls) (k : Nat) (hk : k < ls.length) :
    ∃ b off, a = some ⟨b, off, none⟩ ∧ b < w.heap.size ∧ ∀ i (h : i < ls.length), w.cell? ⟨b, off + i * 2, none⟩ = some (.string ls[i].1) ∧ w.cell? ⟨b, off + i * 2 + 1, none⟩ = some (.string ls[i].2) := by
  obtain ⟨_, _, _, h4⟩ := h
  rcases h4 with rfl | h4
  · exact absurd hk (by simp)
  · exact h4

def inB (x : ByteArray) (ss : List ByteArray) : Bool := ss.any fun s => decide (s = x)
theorem inB_iff (x : ByteArray) (ss : List ByteArray) : inB x ss = true ↔ x ∈ ss := by
  simp only [inB, List.any_eq_true, decide_eq_true_eq]
  exact ⟨fun ⟨s, h, e⟩ => e ▸ h, fun h => ⟨x, h, rfl⟩⟩
end Go.Proofs.YtdlhmjdjoadioabGreatDoor
/- What is kept of labels. -/
namespace Go.Proofs.YtdlhmjdjoadioabGreatDoor
open Go.RowKit
open Go.WideShapes (bytes_inj)


def keepL (ls : List Lab) (ns : List ByteArray) : List Lab := ls.filter fun l => inB l.1 ns
theorem keepL_take (ls : List Lab) (ns : List ByteArray) (k : Nat) (h : k < ls.length) : keepL (ls.take (k + 1)) ns = keepL (ls.take k) ns ++ (if inB ls[k].1 ns = true then [ls[k]] else []) := by
  rw [List.take_succ_eq_append_getElem h, keepL, List.filter_append]
  congr 1
  by_cases hq : inB ls[k].1 ns = true <;> simp [hq]
theorem keepL_sub (ls : List Lab) (ns : List ByteArray) (P : Lab → Prop) (h : ∀ l ∈ ls, P l) : ∀ l ∈ keepL ls ns, P l := fun l hl => h l (List.mem_filter.1 hl).1
theorem keepL_len (ls : List Lab) (ns : List ByteArray) : (keepL ls ns).length ≤ ls.length := List.length_filter_le _ _
def LabsE (ls : List Lab) (n : Int) (w : World) (e : Ending) (w' : World) : Prop := ∃ a c, e = .returned (.tuple #[.slice a ls.length c, .int .i64 n]) ∧ HasLabs w' a c ls ∧ Below w.heap.size w w'
theorem labsE_nil {n : Int} {w w' : World} (hb : Below w.heap.size w w') : LabsE [] n w (.returned (.tuple #[.slice none 0 0, .int .i64 n])) w' := ⟨none, 0, rfl, HasLabs.nil _ _ _ (by unfold maxLen; omega), hb⟩

def keepP (ls : List Lab) (ns : List ByteArray) : List Lab × Int := if rightC ls = true then (keepL ls ns, 0) else ([], 1)
end Go.Proofs.YtdlhmjdjoadioabGreatDoor
