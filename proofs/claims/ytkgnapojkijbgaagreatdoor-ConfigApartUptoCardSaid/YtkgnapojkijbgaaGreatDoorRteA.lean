/- Routes, and routes in memory. -/
import Derived.Test.YtkgnapojkijbgaaGreatDoorMatD0
import Derived.Test.YtkgnapojkijbgaaGreatDoorStrs
import Derived.Test.YtkgnapojkijbgaaGreatDoorOwn
import Derived.Test.YtkgnapojkijbgaaGreatDoorOwnS
import Derived.Test.YtkgnapojkijbgaaGreatDoorBlkG
namespace Go.Proofs.YtkgnapojkijbgaaGreatDoor
open Go.RowKit

inductive Rt where
  | mk (recv : ByteArray) (ms : List Mat) (bys : List ByteArray) (wait every rep : Int) (mute : List ByteArray) (on : Bool) (kids : List Rt)
def Rt.recv : Rt → ByteArray | .mk r _ _ _ _ _ _ _ _ => r
def Rt.ms : Rt → List Mat | .mk _ m _ _ _ _ _ _ _ => m
def Rt.bys : Rt → List ByteArray | .mk _ _ b _ _ _ _ _ _ => b
def Rt.wait : Rt → Int | .mk _ _ _ a _ _ _ _ _ => a
def Rt.every : Rt → Int | .mk _ _ _ _ e _ _ _ _ => e
def Rt.rep : Rt → Int | .mk _ _ _ _ _ p _ _ _ => p
def Rt.mute : Rt → List ByteArray | .mk _ _ _ _ _ _ u _ _ => u
def Rt.on : Rt → Bool | .mk _ _ _ _ _ _ _ o _ => o
def Rt.kids : Rt → List Rt | .mk _ _ _ _ _ _ _ _ k => k
instance : Inhabited Rt := ⟨.mk .empty [] [] 0 0 0 [] false []⟩
/-- without the routes within it -/
def Rt.bare : Rt → Rt | .mk r m b a e p u o _ => .mk r m b a e p u o []

mutual
/-- how many routes there are in one -/
def Rt.count : Rt → Nat
  | .mk _ _ _ _ _ _ _ _ xs => 1 + countRs xs
def countRs : List Rt → Nat
  | [] => 0
  | x :: xs => x.count + countRs xs
end
theorem Rt.count_eq (n : Rt) : n.count = 1 + countRs n.kids := by
  cases n; simp [Rt.count, Rt.kids]
theorem countRs_take (xs : List Rt) (k : Nat) (h : k < xs.length) : countRs (xs.take (k + 1)) = countRs (xs.take k) + xs[k].count := by
  induction xs generalizing k with
  | nil => simp at h
  | cons x xs ih =>
    cases k with
    | zero => simp [countRs]
    | succ k =>
      have := ih k (by simpa using h)
      simp only [List.take_succ_cons, countRs, List.getElem_cons_succ]
      omega

/-- a route with the places of its matchers, its names, its words of hours, and the routes within it -/
structure RtAt where
  n : Rt
  ma : Option Addr
  mc : Nat
  ba : Option Addr
  bc : Nat
  ua : Option Addr
  uc : Nat
  ka : Option Addr
  kc : Nat
instance : Inhabited RtAt := ⟨⟨default, none, 0, none, 0, none, 0, none, 0⟩⟩
abbrev tCells (q : RtAt) : Array Value := #[.string q.n.recv, .slice q.ma q.n.ms.length q.mc, .slice q.ba q.n.bys.length q.bc, .int .i64 q.n.wait, .int .i64 q.n.every, .int .i64 q.n.rep, .slice q.ua q.n.mute.length q.uc, .bool q.n.on, .slice q.ka q.n.kids.length q.kc]
/-- the cells of a route lie there -/
def RtAt.lies (w : World) (b o : Nat) (q : RtAt) : Prop :=
  w.cell? ⟨b, o, none⟩ = some (.string q.n.recv) ∧ w.cell? ⟨b, o + 1, none⟩ = some (.slice q.ma q.n.ms.length q.mc) ∧ w.cell? ⟨b, o + 2, none⟩ = some (.slice q.ba q.n.bys.length q.bc) ∧ w.cell? ⟨b, o + 3, none⟩ = some (.int .i64 q.n.wait) ∧
  w.cell? ⟨b, o + 4, none⟩ = some (.int .i64 q.n.every) ∧ w.cell? ⟨b, o + 5, none⟩ = some (.int .i64 q.n.rep) ∧ w.cell? ⟨b, o + 6, none⟩ = some (.slice q.ua q.n.mute.length q.uc) ∧ w.cell? ⟨b, o + 7, none⟩ = some (.bool q.n.on) ∧ w.cell? ⟨b, o + 8, none⟩ = some (.slice q.ka q.n.kids.length q.kc)
/-- what is asked of a route, those within it and how many may stand there aside; no list is longer than a statement's arguments may be -/
def RtAt.own (w : World) (q : RtAt) : Prop :=
  HasMats w q.ma q.mc q.n.ms ∧ HasStrs w q.ba q.bc q.n.bys ∧ HasStrs w q.ua q.uc q.n.mute ∧ q.n.recv.size ≤ 1048576 ∧ ((Lit.int .i64 q.n.wait).wf = true ∧ (Lit.int .i64 q.n.every).wf = true ∧ (Lit.int .i64 q.n.rep).wf = true) ∧
  (q.n.ms.length ≤ 1048576 ∧ q.n.bys.length ≤ 1048576 ∧ q.n.mute.length ≤ 1048576)
theorem RtAt.own.call {w w1 : World} {q : RtAt} (h : q.own w) (hb : Below w.heap.size w w1) : q.own w1 := ⟨h.1.call hb, h.2.1.call hb, h.2.2.1.call hb, h.2.2.2⟩
/-- what is asked of a route, the routes within it aside -/
def RtAt.head (w : World) (q : RtAt) : Prop := q.own w ∧ q.n.kids.length ≤ q.kc ∧ q.kc ≤ maxLen
/-- a route, and all within it, lie in memory -/
inductive RtAt.ok (w : World) : RtAt → Prop
  | flat (q : RtAt) : q.head w → q.n.kids = [] → RtAt.ok w q
  | row (q : RtAt) (b off : Nat) (R : Nat → RtAt) : q.head w → q.ka = some ⟨b, off, none⟩ → b < w.heap.size → (∀ i (h : i < q.n.kids.length), (R i).n = q.n.kids[i]) → (∀ i, i < q.n.kids.length → (R i).lies w b (off + i * 9)) → (∀ i, i < q.n.kids.length → RtAt.ok w (R i)) → RtAt.ok w q
theorem RtAt.head.call {w w1 : World} {q : RtAt} (h : q.head w) (hb : Below w.heap.size w w1) : q.head w1 := ⟨h.1.call hb, h.2⟩
theorem RtAt.lies.call {w w1 : World} {q : RtAt} {b o : Nat} (h : q.lies w b o) (hb : Below w.heap.size w w1) : q.lies w1 b o := by
  obtain ⟨h0, h1, h2, h3, h4, h5, h6, h7, h8⟩ := h
  exact ⟨cellL hb h0, cellL hb h1, cellL hb h2, cellL hb h3, cellL hb h4, cellL hb h5, cellL hb h6, cellL hb h7, cellL hb h8⟩
theorem RtAt.ok.call {w w1 : World} {q : RtAt} (h : q.ok w) (hb : Below w.heap.size w w1) : q.ok w1 := by
  induction h with
  | flat q h0 h1 => exact .flat q (h0.call hb) h1
  | row q b off R h0 h1 h2 h3 h4 h5 ih => exact .row q b off R (h0.call hb) h1 (Nat.lt_of_lt_of_le h2 hb.size) h3 (fun i hi => (h4 i hi).call hb) ih
theorem RtAt.ok.head {w : World} {q : RtAt} (h : q.ok w) : q.head w := by
  cases h with
  | flat _ h0 _ => exact h0
  | row _ _ _ _ h0 _ _ _ _ _ => exact h0
/-- the routes within it, one by one -/
theorem RtAt.ok.place {w : World} {q : RtAt} (h : q.ok w) : q.n.kids = [] ∨ ∃ b off, q.ka = some ⟨b, off, none⟩ ∧ b < w.heap.size ∧ ∀ i (h : i < q.n.kids.length), ∃ r : RtAt, r.n = q.n.kids[i] ∧ r.lies w b (off + i * 9) ∧ r.ok w := by
  cases h with
  | flat _ _ h1 => exact .inl h1
  | row _ b off R _ h1 h2 h3 h4 h5 => exact .inr ⟨b, off, h1, h2, fun i hi => ⟨R i, h3 i hi, h4 i hi, h5 i hi⟩⟩
/-- a route laid from those within it -/
theorem RtAt.ok.of {w : World} {q : RtAt} {b off : Nat} (h0 : q.head w) (h1 : q.ka = some ⟨b, off, none⟩) (h2 : b < w.heap.size) (h3 : ∀ i (_h : i < q.n.kids.length), ∃ r : RtAt, r.n = q.n.kids[i] ∧ r.lies w b (off + i * 9) ∧ r.ok w) : q.ok w := by
  classical
  have h' : ∀ i, ∃ r : RtAt, ∀ (h : i < q.n.kids.length), r.n = q.n.kids[i] ∧ r.lies w b (off + i * 9) ∧ r.ok w := by
    intro i
    by_cases hi : i < q.n.kids.length
    · obtain ⟨r, hr⟩ := h3 i hi
      exact ⟨r, fun _ => hr⟩
    · exact ⟨default, fun h => absurd h hi⟩
  refine .row q b off (fun i => Classical.choose (h' i)) h0 h1 h2 (fun i hi => (Classical.choose_spec (h' i) hi).1) (fun i hi => (Classical.choose_spec (h' i) hi).2.1) fun i hi => (Classical.choose_spec (h' i) hi).2.2
/-- the slice '.slice a xs.length c' reads as the routes xs -/
def HasRts (w : World) (a : Option Addr) (c : Nat) (xs : List Rt) : Prop :=
  xs.length ≤ c ∧ c ≤ maxLen ∧ (xs = [] ∨ ∃ b off, a = some ⟨b, off, none⟩ ∧ b < w.heap.size ∧ ∀ i (h : i < xs.length), ∃ r : RtAt, r.n = xs[i] ∧ r.lies w b (off + i * 9) ∧ r.ok w)
theorem HasRts.nil (w : World) (a : Option Addr) (c : Nat) (hc : c ≤ maxLen) : HasRts w a c [] := ⟨Nat.zero_le _, hc, .inl rfl⟩
theorem RtAt.ok.rts {w : World} {q : RtAt} (h : q.ok w) : HasRts w q.ka q.kc q.n.kids := ⟨h.head.2.1, h.head.2.2, h.place⟩
theorem RtAt.ok.own {w : World} {q : RtAt} (h : q.ok w) : q.own w := h.head.1
theorem RtAt.of_rts {w : World} {q : RtAt} (h : q.own w) (h4 : HasRts w q.ka q.kc q.n.kids) : q.ok w := by
  obtain ⟨g1, g2, g3⟩ := h4
  rcases g3 with g3 | ⟨b, off, e, hb, hr⟩
  · exact .flat q ⟨h, g1, g2⟩ g3
  · exact .of ⟨h, g1, g2⟩ e hb hr
/-- its cells, if they lie in a block of their own -/
theorem Blk.cells9 {w : World} {g : Nat} {t : TypeId} {v0 v1 v2 v3 v4 v5 v6 v7 v8 : Value} (h : Blk w g t #[v0, v1, v2, v3, v4, v5, v6, v7, v8]) :
    w.cell? ⟨g, 0, none⟩ = some v0 ∧ w.cell? ⟨g, 1, none⟩ = some v1 ∧ w.cell? ⟨g, 2, none⟩ = some v2 ∧ w.cell? ⟨g, 3, none⟩ = some v3 ∧ w.cell? ⟨g, 4, none⟩ = some v4 ∧ w.cell? ⟨g, 5, none⟩ = some v5 ∧ w.cell? ⟨g, 6, none⟩ = some v6 ∧ w.cell? ⟨g, 7, none⟩ = some v7 ∧ w.cell? ⟨g, 8, none⟩ = some v8 :=
  ⟨h.cell 0, h.cell 1, h.cell 2, h.cell 3, h.cell 4, h.cell 5, h.cell 6, h.cell 7, h.cell 8⟩
end Go.Proofs.YtkgnapojkijbgaaGreatDoor
