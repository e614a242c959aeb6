/- The contracts of 'names' and 'alive' of the statements of layer 3. -/
import Derived.Test.YtmhekhilgllciaaGreatMg2
namespace Go.Proofs.YtmhekhilgllciaaGreat
open Go.RowKit

def namesL (ss : List ByteArray) : List ByteArray := (ss.take 10).map cut70
theorem namesL_len (ss : List ByteArray) : (namesL ss).length ≤ 10 := by simp [namesL]; omega
theorem namesL_size (ss : List ByteArray) : ∀ s ∈ namesL ss, s.size ≤ 70 := by
  intro s hs
  obtain ⟨x, _, rfl⟩ := List.mem_map.1 hs
  exact cut70_size x

theorem cut70_int (s : ByteArray) : s.extract 0 (min (s.size : Int) 70).toNat = cut70 s := by
  rw [show (min (s.size : Int) 70).toNat = min s.size 70 by omega, cut70_ext]
def NamesPost (ss : List ByteArray) (w : World) (e : Ending) (w' : World) : Prop :=
  ∃ a c, e = .returned (.slice a (namesL ss).length c) ∧ HasStrs w' a c (namesL ss) ∧ Below w.heap.size w w'

/-- a row of labels that has just been laid -/
theorem HasLabs.made (w : World) (T : TypeId) (ls : List Lab) (h : ls.length ≤ 1000) (hs : ∀ l ∈ ls, l.1.size ≤ maxLen ∧ l.2.size ≤ maxLen) :
    HasLabs (w.alloc (.cells (labsV ls).toArray T)) (some ⟨w.heap.size, 0, none⟩) ls.length ls := by
  refine ⟨Nat.le_refl _, by unfold maxLen; omega, hs, .inr ⟨w.heap.size, 0, rfl, by simp, fun i hi => ?_⟩⟩
  obtain ⟨g1, g2⟩ := labsV_get ls i hi
  refine ⟨?_, ?_⟩
  · rw [show (w.alloc (.cells (labsV ls).toArray T)).cell? ⟨w.heap.size, 0 + i * 2, none⟩ = _ from World.cell?_alloc_mark w (labsV ls).toArray T (0, 0) (0 + i * 2)]
    simpa using g1
  · rw [show (w.alloc (.cells (labsV ls).toArray T)).cell? ⟨w.heap.size, 0 + i * 2 + 1, none⟩ = _ from World.cell?_alloc_mark w (labsV ls).toArray T (0, 0) (0 + i * 2 + 1)]
    simpa using g2
end Go.Proofs.YtmhekhilgllciaaGreat
