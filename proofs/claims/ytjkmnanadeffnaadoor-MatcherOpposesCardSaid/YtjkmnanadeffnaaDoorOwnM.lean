/- A slice of matchers of the call's own that is appended to. It speaks of no one program. -/
import Derived.Test.YtjkmnanadeffnaaDoorOwnS
import Derived.Test.YtjkmnanadeffnaaDoorMatD
namespace Go.Proofs.YtjkmnanadeffnaaDoor
open Go.RowKit

/-- a matcher with the place of its words -/
structure MatAt where
  mat : Mat
  at_ : Option Addr
  cap : Nat
def matsV (qs : List MatAt) : List Value := qs.flatMap fun q => [.string q.mat.name, .int .i64 q.mat.how, .slice q.at_ q.mat.words.length q.cap]
theorem matsV_len (qs : List MatAt) : (matsV qs).length = qs.length * 3 := by
  induction qs with
  | nil => rfl
  | cons l qs ih =>
    have e : matsV (l :: qs) = .string l.mat.name :: .int .i64 l.mat.how :: .slice l.at_ l.mat.words.length l.cap :: matsV qs := rfl
    rw [e, List.length_cons, List.length_cons, List.length_cons, ih, List.length_cons]; omega
theorem matsV_app (a b : List MatAt) : matsV (a ++ b) = matsV a ++ matsV b := by simp [matsV]
theorem matsV_push (qs : List MatAt) (q : MatAt) : matsV qs ++ [.string q.mat.name, .int .i64 q.mat.how, .slice q.at_ q.mat.words.length q.cap] = matsV (qs ++ [q]) := by simp [matsV]
theorem matsV_get : ∀ (qs : List MatAt) (i : Nat) (h : i < qs.length), (matsV qs)[i * 3]? = some (.string qs[i].mat.name) ∧ (matsV qs)[i * 3 + 1]? = some (.int .i64 qs[i].mat.how) ∧ (matsV qs)[i * 3 + 2]? = some (.slice qs[i].at_ qs[i].mat.words.length qs[i].cap)
  | l :: qs, 0, _ => ⟨rfl, rfl, rfl⟩
  | l :: qs, i + 1, h => by
    have e : matsV (l :: qs) = .string l.mat.name :: .int .i64 l.mat.how :: .slice l.at_ l.mat.words.length l.cap :: matsV qs := rfl
    have ih := matsV_get qs i (by simpa using h)
    rw [e, show (i + 1) * 3 = i * 3 + 1 + 1 + 1 by omega]
    simp only [List.getElem?_cons_succ]
    exact ih
/-- v is the call's own slice of the matchers qs -/
def OwnM (T : TypeId) (w : World) (base : Nat) (v : Value) (qs : List MatAt) : Prop := w.ownsRow base T 3 v qs.length (matsV qs)
theorem OwnM.call {T : TypeId} {w w1 : World} {base : Nat} {v : Value} {qs : List MatAt} (h : OwnM T w base v qs) (hb : Below w.heap.size w w1) : OwnM T w1 base v qs :=
  World.ownsRow.kept h (row := none) ⟨hb.os, hb.tape, hb.output, hb.size, fun k hk _ => hb.block k hk⟩ (by cases v.ownBlock <;> simp)
theorem OwnM.alloc {T : TypeId} {w : World} {base : Nat} {v : Value} {qs : List MatAt} (h : OwnM T w base v qs) (o : Obj) : OwnM T (w.alloc o) base v qs := World.ownsRow.alloc h o
theorem OwnM.drew {T : TypeId} {w : World} {base : Nat} {v : Value} {qs : List MatAt} (h : OwnM T w base v qs) : OwnM T w.drew base v qs := h
theorem OwnM.grown {T : TypeId} {w w1 : World} {base : Nat} {v : Value} {qs : List MatAt} (h : OwnM T w base v qs) {w0 : World} {B : Nat} (hb : Below B w0 w) (hB : B ≤ base) (hz : B ≤ w.heap.size) (hg : w.grownBy w1 v.ownBlock) : Below B w0 w1 :=
  hb.grown hg hz (fun k hk => Nat.le_trans hB (World.ownsRow.lt h k hk).1)
theorem OwnM.ne {T : TypeId} {w : World} {base : Nat} {v : Value} {qs : List MatAt} (h : OwnM T w base v qs) {g : Nat} (hg : g < base) : some g ≠ v.ownBlock := fun e => by have := (World.ownsRow.lt h _ e.symm).1; omega
/-- a store into another block -/
theorem OwnM.setCell {T : TypeId} {w : World} {base : Nat} {v : Value} {qs : List MatAt} (h : OwnM T w base v qs) {g : Nat} (hg : g < base) (i : Nat) (u : Value) : OwnM T (w.setCell ⟨g, i, none⟩ u) base v qs :=
  World.ownsRow.kept h (grown_setCell w g i u) (.inr fun e => h.ne hg e.symm)
/-- what a matcher's words must be, for the row to be a row of matchers -/
def MatAt.ok (w : World) (q : MatAt) : Prop := HasStrs w q.at_ q.cap q.mat.words ∧ q.mat.name.size ≤ maxLen ∧ (Lit.int .i64 q.mat.how).wf = true
theorem MatAt.ok.call {w w1 : World} {q : MatAt} (h : q.ok w) (hb : Below w.heap.size w w1) : q.ok w1 := ⟨h.1.call hb, h.2.1, h.2.2⟩
theorem OwnM.mats {T : TypeId} {w : World} {base : Nat} {v : Value} {qs : List MatAt} (h : OwnM T w base v qs) (hs : ∀ q ∈ qs, q.ok w) : ∃ a c, v = .slice a qs.length c ∧ HasMats w a c (qs.map (·.mat)) := by
  have h' : w.ownsRow base T 3 v qs.length (matsV qs) := h
  rcases h'.2 with ⟨rfl, h0⟩ | ⟨g, cap, cur, rfl, hb, hg, hn, hm, hcs, ht⟩
  · obtain rfl : qs = [] := List.eq_nil_of_length_eq_zero h0
    exact ⟨none, 0, rfl, HasMats.nil _ _ _ (by unfold maxLen; omega)⟩
  · have hl : (matsV qs).length = qs.length * 3 := matsV_len qs
    refine ⟨some ⟨g, 0, none⟩, cap, rfl, by simpa using hn, hm, .inr ⟨g, 0, rfl, lt_of_block hg, fun i hi => ?_⟩⟩
    have hi' : i < qs.length := by simpa using hi
    obtain ⟨g1, g2, g3⟩ := matsV_get qs i hi'
    obtain ⟨k1, k2, k3⟩ := hs _ (List.getElem_mem hi')
    refine ⟨qs[i].at_, qs[i].cap, ⟨?_, ?_, ?_⟩, ?_, ?_, ?_⟩
    · rw [Nat.zero_add, h'.cellAt (i * 3) (by omega), g1]; simp
    · rw [Nat.zero_add, h'.cellAt (i * 3 + 1) (by omega), g2]; simp
    · rw [Nat.zero_add, h'.cellAt (i * 3 + 2) (by omega), g3]; simp
    · simpa using k1
    · simpa using k2
    · simpa using k3
end Go.Proofs.YtjkmnanadeffnaaDoor
