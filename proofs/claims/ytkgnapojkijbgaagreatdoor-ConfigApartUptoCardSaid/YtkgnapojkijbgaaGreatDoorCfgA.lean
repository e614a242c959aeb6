/- Rows of rules, of hours and of inhibits, and configurations, in memory. -/
import Derived.Test.YtkgnapojkijbgaaGreatDoorRulB
import Derived.Test.YtkgnapojkijbgaaGreatDoorHrsM
import Derived.Test.YtkgnapojkijbgaaGreatDoorRteM
import Derived.Test.YtkgnapojkijbgaaGreatDoorMatD0
namespace Go.Proofs.YtkgnapojkijbgaaGreatDoor
open Go.RowKit

/-- the slice '.slice a xs.length c' reads as the things xs, each of sz cells -/
def HasRow {A : Type} (sz : Nat) (enc : A → List Value) (ok : World → A → Prop) (w : World) (a : Option Addr) (c : Nat) (xs : List A) : Prop :=
  xs.length ≤ c ∧ c ≤ maxLen ∧ (∀ x ∈ xs, ok w x) ∧ (xs = [] ∨ ∃ b off, a = some ⟨b, off, none⟩ ∧ b < w.heap.size ∧ ∀ i (h : i < xs.length) j u, (enc xs[i])[j]? = some u → w.cell? ⟨b, off + i * sz + j, none⟩ = some u)
theorem HasRow.call {A : Type} {sz : Nat} {enc : A → List Value} {ok : World → A → Prop} {w w1 : World} {a : Option Addr} {c : Nat} {xs : List A} (h : HasRow sz enc ok w a c xs) (hb : Below w.heap.size w w1)
    (hok : ∀ x, ok w x → ok w1 x) : HasRow sz enc ok w1 a c xs := by
  obtain ⟨h1, h2, h3, h4⟩ := h
  refine ⟨h1, h2, fun x hx => hok x (h3 x hx), h4.imp id ?_⟩
  rintro ⟨b, off, e, hl, hc⟩
  exact ⟨b, off, e, Nat.lt_of_lt_of_le hl hb.size, fun i hi j u hu => cellL hb (hc i hi j u hu)⟩
theorem HasRow.place {A : Type} {sz : Nat} {enc : A → List Value} {ok : World → A → Prop} {w : World} {a : Option Addr} {c : Nat} {xs : List A} (h : HasRow sz enc ok w a c xs) (k : Nat) (hk : k < xs.length) :
    ∃ b off, a = some ⟨b, off, none⟩ ∧ b < w.heap.size ∧ ∀ j u, (enc xs[k])[j]? = some u → w.cell? ⟨b, off + k * sz + j, none⟩ = some u := by
  rcases h.2.2.2 with h | ⟨b, off, e, hl, hc⟩
  · rw [h] at hk; simp at hk
  · exact ⟨b, off, e, hl, hc k hk⟩

/-- a rule, with the place of its labels -/
structure RuA where
  r : Rul
  a : Option Addr
  c : Nat
def RuA.enc (x : RuA) : List Value := [.string x.r.name, .string x.r.metric, .int .i64 x.r.how, .int .i64 x.r.limit, .int .i64 x.r.fr, .int .i64 x.r.keep, .int .i64 x.r.tries, .slice x.a x.r.labels.length x.c]
def RuA.ok (w : World) (x : RuA) : Prop := RulAt w x.r x.a x.c
abbrev HasRules (w : World) (a : Option Addr) (c : Nat) (xs : List RuA) : Prop := HasRow 8 RuA.enc RuA.ok w a c xs
theorem HasRules.keep {w w1 : World} {a : Option Addr} {c : Nat} {xs : List RuA} (h : HasRules w a c xs) (hb : Below w.heap.size w w1) : HasRules w1 a c xs := h.call hb (fun _ hx => RulAt.call hx hb)
/-- hours -/
structure HrA where
  n : ByteArray
  d : Int
  f : Int
  t : Int
def HrA.enc (x : HrA) : List Value := [.string x.n, .int .i64 x.d, .int .i64 x.f, .int .i64 x.t]
def HrA.ok (_ : World) (x : HrA) : Prop := x.n.size ≤ maxLen ∧ (Lit.int .i64 x.d).wf = true ∧ (Lit.int .i64 x.f).wf = true ∧ (Lit.int .i64 x.t).wf = true
def HrA.good (x : HrA) : Bool := bwC x.n.data.toList && spanC x.d x.f x.t
abbrev HasHours (w : World) (a : Option Addr) (c : Nat) (xs : List HrA) : Prop := HasRow 4 HrA.enc HrA.ok w a c xs
theorem HasHours.keep {w w1 : World} {a : Option Addr} {c : Nat} {xs : List HrA} (h : HasHours w a c xs) (hb : Below w.heap.size w w1) : HasHours w1 a c xs := h.call hb (fun _ hx => hx)
/-- an inhibit, with the places of its lists -/
structure InA where
  s : List Mat
  t : List Mat
  e : List ByteArray
  sa : Option Addr
  sc : Nat
  ta : Option Addr
  tc : Nat
  ea : Option Addr
  ec : Nat
def InA.enc (x : InA) : List Value := [.slice x.sa x.s.length x.sc, .slice x.ta x.t.length x.tc, .slice x.ea x.e.length x.ec]
/-- what is asked of an inhibit in memory; no list of names is longer than a statement's arguments may be -/
def InA.ok (w : World) (x : InA) : Prop := HasMats w x.sa x.sc x.s ∧ HasMats w x.ta x.tc x.t ∧ HasStrs w x.ea x.ec x.e ∧ x.e.length ≤ 1048576
theorem InA.ok.call {w w1 : World} {x : InA} (h : InA.ok w x) (hb : Below w.heap.size w w1) : InA.ok w1 x := ⟨h.1.call hb, h.2.1.call hb, h.2.2.1.call hb, h.2.2.2⟩
abbrev HasInhs (w : World) (a : Option Addr) (c : Nat) (xs : List InA) : Prop := HasRow 3 InA.enc InA.ok w a c xs
theorem HasInhs.keep {w w1 : World} {a : Option Addr} {c : Nat} {xs : List InA} (h : HasInhs w a c xs) (hb : Below w.heap.size w w1) : HasInhs w1 a c xs := h.call hb (fun _ hx => InA.ok.call hx hb)
/-- may matchers be an inhibit's? -/
def sideC (ms : List Mat) : Bool := decide (0 < ms.length) && matchC ms
/-- may an inhibit be? -/
def InA.good (x : InA) : Bool := sideC x.s && (sideC x.t && rightC (byLabs x.e))
def RuA.good (x : RuA) : Bool := rulC x.r
end Go.Proofs.YtkgnapojkijbgaaGreatDoor
