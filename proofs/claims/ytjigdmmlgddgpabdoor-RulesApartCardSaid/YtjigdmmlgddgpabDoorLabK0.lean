/- What is kept of labels. -/
import Derived.Test.YtjigdmmlgddgpabDoorLabR0
import Derived.Test.YtjigdmmlgddgpabDoorLabN
import Derived.Test.YtjigdmmlgddgpabDoorLabU0
namespace Go.Proofs.YtjigdmmlgddgpabDoor
open Go.RowKit
open Go.WideShapes (bytes_inj)


def keepL (ls : List Lab) (ns : List ByteArray) : List Lab := ls.filter fun l => inB l.1 ns
theorem keepL_take (ls : List Lab) (ns : List ByteArray) (k : Nat) (h : k < ls.length) : keepL (ls.take (k + 1)) ns = keepL (ls.take k) ns ++ (if inB ls[k].1 ns = true then [ls[k]] else []) := by
  rw [List.take_succ_eq_append_getElem h, keepL, List.filter_append]
  congr 1
  by_cases hq : inB ls[k].1 ns = true <;> simp [hq]
theorem keepL_sub (ls : List Lab) (ns : List ByteArray) (P : Lab → Prop) (h : ∀ l ∈ ls, P l) : ∀ l ∈ keepL ls ns, P l := fun l hl => h l (List.mem_filter.1 hl).1
theorem keepL_len (ls : List Lab) (ns : List ByteArray) : (keepL ls ns).length ≤ ls.length := List.length_filter_le _ _
def LabsE (ls : List Lab) (n : Int) (w : World) (e : Ending) (w' : World) : Prop := ∃ a c, e = .returned (.tuple #[.slice a ls.length c, .int .i64 n]) ∧ HasLabs w' a c ls ∧ Below w.heap.size w w'
theorem labsE_nil {n : Int} {w w' : World} (hb : Below w.heap.size w w') : LabsE [] n w (.returned (.tuple #[.slice none 0 0, .int .i64 n])) w' := ⟨none, 0, rfl, HasLabs.nil _ _ _ (by unfold maxLen; omega), hb⟩

def keepP (ls : List Lab) (ns : List ByteArray) : List Lab × Int := if rightC ls = true then (keepL ls ns, 0) else ([], 1)
end Go.Proofs.YtjigdmmlgddgpabDoor
