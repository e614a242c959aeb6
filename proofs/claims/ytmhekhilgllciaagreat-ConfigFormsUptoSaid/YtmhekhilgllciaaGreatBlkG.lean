/- Laws and small facts that speak of no one program: a text's bytes, the least of two lengths, a text that is cut, what a call that answers a Bool leaves. -/
import Derived.Test.YtmhekhilgllciaaGreatLabM
import Derived.Test.YtmhekhilgllciaaGreatOwn
import Derived.Test.YtmhekhilgllciaaGreatOwnS
import Derived.Test.YtmhekhilgllciaaGreatLib3
import Derived.ProofKit
import Derived.Sort.Grow
namespace Go.Proofs.YtmhekhilgllciaaGreat
open Go.RowKit
open Go.WideShapes (bytes_inj)

theorem byteAt (s : ByteArray) (k : Nat) (h : k < s.size) : s.data.toList[k]'(by simpa using h) = s[k] := rfl
theorem byteD (s : ByteArray) (k : Nat) (h : k < s.size) : s.data.toList.getD k 0 = s[k] := by
  rw [List.getD_eq_getElem?_getD, List.getElem?_eq_getElem (by simpa using h)]; rfl
theorem bytesAll {p : UInt8 → Bool} {s : ByteArray} (h : s.data.toList.all p = true) (k : Nat) (hk : k < s.size) : p s[k] = true := by
  rw [List.all_eq_true] at h
  exact h _ (by rw [← byteAt s k hk]; exact List.getElem_mem _)
theorem bytesNot {p : UInt8 → Bool} (s : ByteArray) (h : ¬ s.data.toList.all p = true) : ∃ j, ∃ hj : j < s.size, p s[j] = false ∧ ∀ k (_hk : k < j), p (s[k]'(by omega)) = true := by
  obtain ⟨j, hj, hp, ha⟩ := first_not (fun i => if h : i < s.size then p s[i] else true) s.size (fun hall => h (by
    rw [List.all_eq_true]
    intro x hx
    obtain ⟨i, hi, rfl⟩ := List.getElem_of_mem hx
    have hi' : i < s.size := by simpa using hi
    have := hall i hi'
    simp only [hi', dite_true] at this
    exact this))
  refine ⟨j, hj, by simpa [hj] using hp, fun k hk => ?_⟩
  have := ha k hk
  simpa [show k < s.size by omega] using this
theorem lenB (s : ByteArray) : s.data.toList.length = s.size := by simp

/-- a call that answers a Bool and leaves the world alone; one that may make memory -/
def BoolS (B : Bool) (w : World) (e : Ending) (w' : World) : Prop := e = .returned (.bool B) ∧ w = w'
def BoolW (B : Bool) (w : World) (e : Ending) (w' : World) : Prop := e = .returned (.bool B) ∧ Below w.heap.size w w'
theorem cellL {w wx : World} {a : Addr} {v : Value} (hb : Below w.heap.size w wx) (h : w.cell? a = some v) : wx.cell? a = some v := (hb.cell (World.block_lt_of_cell? _ _ h)).trans h
theorem strEq (a b : ByteArray) : (a.toList == b.toList) = decide (a = b) := by
  rw [ByteArray.toList_eq, ByteArray.toList_eq, Bool.eq_iff_iff, beq_iff_eq, decide_eq_true_iff]
  exact ⟨fun e => bytes_inj e, fun e => by rw [e]⟩
theorem belowGrow (w : World) (os : Array Obj) : Below w.heap.size w (Go.Sort.grow w os) := by
  refine ⟨rfl, rfl, rfl, ?_, ?_⟩
  · simp [Go.Sort.grow]
  · intro k hk
    simp only [Go.Sort.grow]
    rw [Array.getElem?_append_left hk]

theorem run_minN {P : Program} (w : World) (ts : Array TypeId) (t : TypeId) (x k : Nat) : (Builtin.min_ ts t #[.int .i64 (x : Int), .int .i64 (k : Int)]).run P w = .ok (.int .i64 ((min x k : Nat) : Int)) w := by
  simp [Builtin.min_, Builtin.min2]
  repeat' split
  all_goals omega
theorem run_sliceTo {P : Program} (w : World) (t : TypeId) (s : ByteArray) (j : Nat) (h : P.underlying t = some .string) (h2 : j ≤ s.size) :
    (Instr.slice t (.string s) none (some (.int .i64 (j : Int))) none).run P w = .ok (.string (s.extract 0 j)) w := by
  have hj : (0 : Int) ≤ (j : Int) ∧ (j : Int) ≤ (s.size : Int) := ⟨by omega, by omega⟩
  simp [Instr.slice, Instr.sliceBounds, Instr.sliceBound, asIntOf, run_underlying h, hj]
  try omega
/-- a text's first bytes -/
def cutN (k : Nat) (s : ByteArray) : ByteArray := if s.size ≤ k then s else s.extract 0 k
theorem cutN_ext (k : Nat) (s : ByteArray) : s.extract 0 (min s.size k) = cutN k s := by
  unfold cutN
  split
  · rw [Nat.min_eq_left (by assumption)]; simp
  · rw [Nat.min_eq_right (by omega)]
theorem run_cutN {P : Program} (w : World) (t : TypeId) (k : Nat) (s : ByteArray) (h : P.underlying t = some .string) :
    (Instr.slice t (.string s) none (some (.int .i64 ((min s.size k : Nat) : Int))) none).run P w = .ok (.string (cutN k s)) w := by
  rw [run_sliceTo w t s (min s.size k) h (by omega), cutN_ext]
theorem cutN_size (k : Nat) (s : ByteArray) : (cutN k s).size ≤ k := by
  unfold cutN; split
  · assumption
  · simp; omega
end Go.Proofs.YtmhekhilgllciaaGreat
