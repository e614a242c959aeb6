/- Routes, and routes in memory. -/
import Derived.Test.YtmhekhilgllciaaGreatMg1
import Derived.Test.YtmhekhilgllciaaGreatStrs
import Derived.Test.YtmhekhilgllciaaGreatOwn
import Derived.Test.YtmhekhilgllciaaGreatOwnS
import Derived.Test.YtmhekhilgllciaaGreatBlkG
import Derived.Test.YtmhekhilgllciaaGreatBlkM
import Derived.Lib.ItoaNum
import Derived.Test.YtmhekhilgllciaaGreatRulB
import Derived.Test.YtmhekhilgllciaaGreatHrsM
import Derived.Test.YtmhekhilgllciaaGreatLabC
import Derived.Deep.RegionHeld3
import Derived.Test.YtmhekhilgllciaaGreatBlkE
import Derived.Test.YtmhekhilgllciaaGreatInfo
import Derived.Test.YtmhekhilgllciaaGreatLib2
import Derived.WalkLawsBesides
import Derived.IntWalk
import Derived.BigQuiet
namespace Go.Proofs.YtmhekhilgllciaaGreat
open Go.RowKit

inductive Rt where
  | mk (recv : ByteArray) (ms : List Mat) (bys : List ByteArray) (wait every rep : Int) (mute : List ByteArray) (on : Bool) (kids : List Rt)
def Rt.recv : Rt → ByteArray | .mk r _ _ _ _ _ _ _ _ => r
def Rt.ms : Rt → List Mat | .mk _ m _ _ _ _ _ _ _ => m
def Rt.bys : Rt → List ByteArray | .mk _ _ b _ _ _ _ _ _ => b
def Rt.wait : Rt → Int | .mk _ _ _ a _ _ _ _ _ => a
def Rt.every : Rt → Int | .mk _ _ _ _ e _ _ _ _ => e
def Rt.rep : Rt → Int | .mk _ _ _ _ _ p _ _ _ => p
def Rt.mute : Rt → List ByteArray | .mk _ _ _ _ _ _ u _ _ => u
def Rt.on : Rt → Bool | .mk _ _ _ _ _ _ _ o _ => o
def Rt.kids : Rt → List Rt | .mk _ _ _ _ _ _ _ _ k => k
instance : Inhabited Rt := ⟨.mk .empty [] [] 0 0 0 [] false []⟩
/-- without the routes within it -/
def Rt.bare : Rt → Rt | .mk r m b a e p u o _ => .mk r m b a e p u o []

mutual
/-- how many routes there are in one -/
def Rt.count : Rt → Nat
  | .mk _ _ _ _ _ _ _ _ xs => 1 + countRs xs
def countRs : List Rt → Nat
  | [] => 0
  | x :: xs => x.count + countRs xs
end
theorem Rt.count_eq (n : Rt) : n.count = 1 + countRs n.kids := by
  cases n; simp [Rt.count, Rt.kids]
theorem countRs_take (xs : List Rt) (k : Nat) (h : k < xs.length) : countRs (xs.take (k + 1)) = countRs (xs.take k) + xs[k].count := by
  induction xs generalizing k with
  | nil => simp at h
  | cons x xs ih =>
    cases k with
    | zero => simp [countRs]
    | succ k =>
      have := ih k (by simpa using h)
      simp only [List.take_succ_cons, countRs, List.getElem_cons_succ]
      omega

/-- a route with the places of its matchers, its names, its words of hours, and the routes within it -/
structure RtAt where
  n : Rt
  ma : Option Addr
  mc : Nat
  ba : Option Addr
  bc : Nat
  ua : Option Addr
  uc : Nat
  ka : Option Addr
  kc : Nat
instance : Inhabited RtAt := ⟨⟨default, none, 0, none, 0, none, 0, none, 0⟩⟩
abbrev tCells (q : RtAt) : Array Value := #[.string q.n.recv, .slice q.ma q.n.ms.length q.mc, .slice q.ba q.n.bys.length q.bc, .int .i64 q.n.wait, .int .i64 q.n.every, .int .i64 q.n.rep, .slice q.ua q.n.mute.length q.uc, .bool q.n.on, .slice q.ka q.n.kids.length q.kc]
/-- the cells of a route lie there -/
def RtAt.lies (w : World) (b o : Nat) (q : RtAt) : Prop :=
  w.cell? ⟨b, o, none⟩ = some (.string q.n.recv) ∧ w.cell? ⟨b, o + 1, none⟩ = some (.slice q.ma q.n.ms.length q.mc) ∧ w.cell? ⟨b, o + 2, none⟩ = some (.slice q.ba q.n.bys.length q.bc) ∧ w.cell? ⟨b, o + 3, none⟩ = some (.int .i64 q.n.wait) ∧
  w.cell? ⟨b, o + 4, none⟩ = some (.int .i64 q.n.every) ∧ w.cell? ⟨b, o + 5, none⟩ = some (.int .i64 q.n.rep) ∧ w.cell? ⟨b, o + 6, none⟩ = some (.slice q.ua q.n.mute.length q.uc) ∧ w.cell? ⟨b, o + 7, none⟩ = some (.bool q.n.on) ∧ w.cell? ⟨b, o + 8, none⟩ = some (.slice q.ka q.n.kids.length q.kc)
/-- what is asked of a route, those within it and how many may stand there aside; no list is longer than a statement's arguments may be -/
def RtAt.own (w : World) (q : RtAt) : Prop :=
  HasMats w q.ma q.mc q.n.ms ∧ HasStrs w q.ba q.bc q.n.bys ∧ HasStrs w q.ua q.uc q.n.mute ∧ q.n.recv.size ≤ 1048576 ∧ ((Lit.int .i64 q.n.wait).wf = true ∧ (Lit.int .i64 q.n.every).wf = true ∧ (Lit.int .i64 q.n.rep).wf = true) ∧
  (q.n.ms.length ≤ 1048576 ∧ q.n.bys.length ≤ 1048576 ∧ q.n.mute.length ≤ 1048576)
theorem RtAt.own.call {w w1 : World} {q : RtAt} (h : q.own w) (hb : Below w.heap.size w w1) : q.own w1 := ⟨h.1.call hb, h.2.1.call hb, h.2.2.1.call hb, h.2.2.2⟩
/-- what is asked of a route, the routes within it aside -/
def RtAt.head (w : World) (q : RtAt) : Prop := q.own w ∧ q.n.kids.length ≤ q.kc ∧ q.kc ≤ maxLen
/-- a route, and all within it, lie in memory -/
inductive RtAt.ok (w : World) : RtAt → Prop
  | flat (q : RtAt) : q.head w → q.n.kids = [] → RtAt.ok w q
  | row (q : RtAt) (b off : Nat) (R : Nat → RtAt) : q.head w → q.ka = some ⟨b, off, none⟩ → b < w.heap.size → (∀ i (h : i < q.n.kids.length), (R i).n = q.n.kids[i]) → (∀ i, i < q.n.kids.length → (R i).lies w b (off + i * 9)) → (∀ i, i < q.n.kids.length → RtAt.ok w (R i)) → RtAt.ok w q
theorem RtAt.head.call {w w1 : World} {q : RtAt} (h : q.head w) (hb : Below w.heap.size w w1) : q.head w1 := ⟨h.1.call hb, h.2⟩
theorem RtAt.lies.call {w w1 : World} {q : RtAt} {b o : Nat} (h : q.lies w b o) (hb : Below w.heap.size w w1) : q.lies w1 b o := by
  obtain ⟨h0, h1, h2, h3, h4, h5, h6, h7, h8⟩ := h
  exact ⟨cellL hb h0, cellL hb h1, cellL hb h2, cellL hb h3, cellL hb h4, cellL hb h5, cellL hb h6, cellL hb h7, cellL hb h8⟩
theorem RtAt.ok.call {w w1 : World} {q : RtAt} (h : q.ok w) (hb : Below w.heap.size w w1) : q.ok w1 := by
  induction h with
  | flat q h0 h1 => exact .flat q (h0.call hb) h1
  | row q b off R h0 h1 h2 h3 h4 h5 ih => exact .row q b off R (h0.call hb) h1 (Nat.lt_of_lt_of_le h2 hb.size) h3 (fun i hi => (h4 i hi).call hb) ih
theorem RtAt.ok.head {w : World} {q : RtAt} (h : q.ok w) : q.head w := by
  cases h with
  | flat _ h0 _ => exact h0
  | row _ _ _ _ h0 _ _ _ _ _ => exact h0
/-- the routes within it, one by one -/
theorem RtAt.ok.place {w : World} {q : RtAt} (h : q.ok w) : q.n.kids = [] ∨ ∃ b off, q.ka = some ⟨b, off, none⟩ ∧ b < w.heap.size ∧ ∀ i (h : i < q.n.kids.length), ∃ r : RtAt, r.n = q.n.kids[i] ∧ r.lies w b (off + i * 9) ∧ r.ok w := by
  cases h with
  | flat _ _ h1 => exact .inl h1
  | row _ b off R _ h1 h2 h3 h4 h5 => exact .inr ⟨b, off, h1, h2, fun i hi => ⟨R i, h3 i hi, h4 i hi, h5 i hi⟩⟩
/-- a route laid from those within it -/
theorem RtAt.ok.of {w : World} {q : RtAt} {b off : Nat} (h0 : q.head w) (h1 : q.ka = some ⟨b, off, none⟩) (h2 : b < w.heap.size) (h3 : ∀ i (_h : i < q.n.kids.length), ∃ r : RtAt, r.n = q.n.kids[i] ∧ r.lies w b (off + i * 9) ∧ r.ok w) : q.ok w := by
  classical
  have h' : ∀ i, ∃ r : RtAt, ∀ (h : i < q.n.kids.length), r.n = q.n.kids[i] ∧ r.lies w b (off + i * 9) ∧ r.ok w := by
    intro i
    by_cases hi : i < q.n.kids.length
    · obtain ⟨r, hr⟩ := h3 i hi
      exact ⟨r, fun _ => hr⟩
    · exact ⟨default, fun h => absurd h hi⟩
  refine .row q b off (fun i => Classical.choose (h' i)) h0 h1 h2 (fun i hi => (Classical.choose_spec (h' i) hi).1) (fun i hi => (Classical.choose_spec (h' i) hi).2.1) fun i hi => (Classical.choose_spec (h' i) hi).2.2
/-- the slice '.slice a xs.length c' reads as the routes xs -/
def HasRts (w : World) (a : Option Addr) (c : Nat) (xs : List Rt) : Prop :=
  xs.length ≤ c ∧ c ≤ maxLen ∧ (xs = [] ∨ ∃ b off, a = some ⟨b, off, none⟩ ∧ b < w.heap.size ∧ ∀ i (h : i < xs.length), ∃ r : RtAt, r.n = xs[i] ∧ r.lies w b (off + i * 9) ∧ r.ok w)
theorem HasRts.nil (w : World) (a : Option Addr) (c : Nat) (hc : c ≤ maxLen) : HasRts w a c [] := ⟨Nat.zero_le _, hc, .inl rfl⟩
theorem RtAt.ok.rts {w : World} {q : RtAt} (h : q.ok w) : HasRts w q.ka q.kc q.n.kids := ⟨h.head.2.1, h.head.2.2, h.place⟩
theorem RtAt.ok.own {w : World} {q : RtAt} (h : q.ok w) : q.own w := h.head.1
theorem RtAt.of_rts {w : World} {q : RtAt} (h : q.own w) (h4 : HasRts w q.ka q.kc q.n.kids) : q.ok w := by
  obtain ⟨g1, g2, g3⟩ := h4
  rcases g3 with g3 | ⟨b, off, e, hb, hr⟩
  · exact .flat q ⟨h, g1, g2⟩ g3
  · exact .of ⟨h, g1, g2⟩ e hb hr
/-- its cells, if they lie in a block of their own -/
theorem Blk.cells9 {w : World} {g : Nat} {t : TypeId} {v0 v1 v2 v3 v4 v5 v6 v7 v8 : Value} (h : Blk w g t #[v0, v1, v2, v3, v4, v5, v6, v7, v8]) :
    w.cell? ⟨g, 0, none⟩ = some v0 ∧ w.cell? ⟨g, 1, none⟩ = some v1 ∧ w.cell? ⟨g, 2, none⟩ = some v2 ∧ w.cell? ⟨g, 3, none⟩ = some v3 ∧ w.cell? ⟨g, 4, none⟩ = some v4 ∧ w.cell? ⟨g, 5, none⟩ = some v5 ∧ w.cell? ⟨g, 6, none⟩ = some v6 ∧ w.cell? ⟨g, 7, none⟩ = some v7 ∧ w.cell? ⟨g, 8, none⟩ = some v8 :=
  ⟨h.cell 0, h.cell 1, h.cell 2, h.cell 3, h.cell 4, h.cell 5, h.cell 6, h.cell 7, h.cell 8⟩
end Go.Proofs.YtmhekhilgllciaaGreat
/- Routes: which may be, and where labels lead. Mathematics alone. -/
namespace Go.Proofs.YtmhekhilgllciaaGreat

def inRt (n a b : Int) : Bool := decide (a ≤ n) && decide (n ≤ b)
/-- the set that is asked of names -/
def byLabs (bs : List ByteArray) : List Lab := bs.map fun b => (b, ⟨#[118]⟩)
/-- what is asked of the word of hours at place i -/
def okU (us : List ByteArray) (i : Nat) : Bool :=
  match us[i]? with
  | none => true
  | some x => bwC x.data.toList && (match i with | 0 => true | j + 1 => match us[j]? with | none => true | some p => ltW p x)
theorem okU_zero (us : List ByteArray) (h : 0 < us.length) : okU us 0 = bwC us[0].data.toList := by simp [okU, h]
theorem okU_succ (us : List ByteArray) (j : Nat) (h : j + 1 < us.length) : okU us (j + 1) = (bwC us[j + 1].data.toList && ltW us[j] us[j + 1]) := by
  simp [okU, h, show j < us.length by omega]
def allU (us : List ByteArray) : Bool := (List.range us.length).all (okU us)
def muteC (us : List ByteArray) : Bool := allU us && decide (us.length ≤ 8)
theorem mute_end (us : List ByteArray) : ∃ J, J ≤ us.length ∧ (∀ k (_h : k < J), okU us k = true) ∧ (J = us.length ∧ allU us = true ∨ J < us.length ∧ okU us J = false ∧ allU us = false) := by
  cases h : allU us with
  | true => exact ⟨us.length, Nat.le_refl _, by simpa [allU] using h, .inl ⟨rfl, rfl⟩⟩
  | false =>
    obtain ⟨j, hj, hb, ha⟩ := first_not (okU us) us.length (fun hall => by
      have : allU us = true := by simpa [allU] using hall
      rw [h] at this; cases this)
    exact ⟨j, by omega, ha, .inr ⟨hj, hb, rfl⟩⟩
def matchC (ms : List Mat) : Bool := decide (ms.length ≤ 8) && ms.all rightM
def timesC (n : Rt) : Bool := inRt n.wait 0 1099511627776 && (inRt n.every 1 1099511627776 && inRt n.rep 1 1099511627776)
/-- may a route be, those within it aside? -/
def aloneC (n : Rt) : Bool := bwC n.recv.data.toList && (matchC n.ms && (rightC (byLabs n.bys) && (timesC n && (muteC n.mute && decide (n.kids.length ≤ 16)))))
/-- may a route be, that is so deep at most? -/
def rightRt : Nat → Rt → Bool
  | 0, _ => false
  | d + 1, n => aloneC n && n.kids.all (rightRt d)
def rteC (n : Rt) : Bool := rightRt 4 n
theorem alone_kids {n : Rt} (h : aloneC n = true) : n.kids.length ≤ 16 ∧ n.ms.length ≤ 8 := by
  simp only [aloneC, matchC, Bool.and_eq_true, decide_eq_true_eq] at h
  exact ⟨h.2.2.2.2.2, h.2.1.1⟩
theorem kids_end (p : Rt → Bool) (xs : List Rt) : ∃ J, J ≤ xs.length ∧ (∀ k (h : k < xs.length), k < J → p xs[k] = true) ∧ (J = xs.length ∧ xs.all p = true ∨ ∃ h : J < xs.length, p xs[J] = false ∧ xs.all p = false) := by
  induction xs with
  | nil => exact ⟨0, Nat.le_refl _, fun k h => by simp at h, .inl ⟨rfl, rfl⟩⟩
  | cons x xs ih =>
    cases hx : p x with
    | false => exact ⟨0, Nat.zero_le _, fun k _ h => by omega, .inr ⟨by simp, hx, by simp [hx]⟩⟩
    | true =>
      obtain ⟨J, h1, h2, h3⟩ := ih
      refine ⟨J + 1, by simpa using h1, fun k h hk => ?_, ?_⟩
      · cases k with
        | zero => exact hx
        | succ k => exact h2 k (by simpa using h) (by omega)
      · rcases h3 with ⟨e, h4⟩ | ⟨h4, h5, h6⟩
        · exact .inl ⟨by simp [e], by simp [hx, h4]⟩
        · exact .inr ⟨by simpa using h4, h5, by simp [hx, h6]⟩

/-! ### Where labels lead -/
/-- a target: its path, and the route without those within it -/
abbrev Tgt := Bs × Rt
def leadsTo (L : List Lab) (x : Rt) : Bool := (holdsL L x.ms).1
mutual
def Rt.find (L : List Lab) (p : Bs) : Rt → List Tgt
  | .mk r m b a e pp u o xs => match findRs L p 0 xs with
    | [] => [(p, .mk r m b a e pp u o [])]
    | t :: ts => t :: ts
def findRs (L : List Lab) (p : Bs) (i : Nat) : List Rt → List Tgt
  | [] => []
  | x :: xs => if leadsTo L x then x.find L (p ++ 46 :: Lib.decDigits i) ++ (if x.on then findRs L p (i + 1) xs else []) else findRs L p (i + 1) xs
end
end Go.Proofs.YtmhekhilgllciaaGreat
/- Rows of rules, of hours and of inhibits, and configurations, in memory. -/
namespace Go.Proofs.YtmhekhilgllciaaGreat
open Go.RowKit

/-- the slice '.slice a xs.length c' reads as the things xs, each of sz cells -/
def HasRow {A : Type} (sz : Nat) (enc : A → List Value) (ok : World → A → Prop) (w : World) (a : Option Addr) (c : Nat) (xs : List A) : Prop :=
  xs.length ≤ c ∧ c ≤ maxLen ∧ (∀ x ∈ xs, ok w x) ∧ (xs = [] ∨ ∃ b off, a = some ⟨b, off, none⟩ ∧ b < w.heap.size ∧ ∀ i (h : i < xs.length) j u, (enc xs[i])[j]? = some u → w.cell? ⟨b, off + i * sz + j, none⟩ = some u)
theorem HasRow.call {A : Type} {sz : Nat} {enc : A → List Value} {ok : World → A → Prop} {w w1 : World} {a : Option Addr} {c : Nat} {xs : List A} (h : HasRow sz enc ok w a c xs) (hb : Below w.heap.size w w1)
    (hok : ∀ x, ok w x → ok w1 x) : HasRow sz enc ok w1 a c xs := by
  obtain ⟨h1, h2, h3, h4⟩ := h
  refine ⟨h1, h2, fun x hx => hok x (h3 x hx), h4.imp id ?_⟩
  rintro ⟨b, off, e, hl, hc⟩
  exact ⟨b, off, e, Nat.lt_of_lt_of_le hl hb.size, fun i hi j u hu => cellL hb (hc i hi j u hu)⟩
theorem HasRow.place {A : Type} {sz : Nat} {enc : A → List Value} {ok : World → A → Prop} {w : World} {a : Option Addr} {c : Nat} {xs : List A} (h : HasRow sz enc ok w a c xs) (k : Nat) (hk : k < xs.length) :
    ∃ b off, a = some ⟨b, off, none⟩ ∧ b < w.heap.size ∧ ∀ j u, (enc xs[k])[j]? = some u → w.cell? ⟨b, off + k * sz + j, none⟩ = some u := by
  rcases h.2.2.2 with h | ⟨b, off, e, hl, hc⟩
  · rw [h] at hk; simp at hk
  · exact ⟨b, off, e, hl, hc k hk⟩

/-- a rule, with the place of its labels -/
structure RuA where
  r : Rul
  a : Option Addr
  c : Nat
def RuA.enc (x : RuA) : List Value := [.string x.r.name, .string x.r.metric, .int .i64 x.r.how, .int .i64 x.r.limit, .int .i64 x.r.fr, .int .i64 x.r.keep, .int .i64 x.r.tries, .slice x.a x.r.labels.length x.c]
def RuA.ok (w : World) (x : RuA) : Prop := RulAt w x.r x.a x.c
abbrev HasRules (w : World) (a : Option Addr) (c : Nat) (xs : List RuA) : Prop := HasRow 8 RuA.enc RuA.ok w a c xs
theorem HasRules.keep {w w1 : World} {a : Option Addr} {c : Nat} {xs : List RuA} (h : HasRules w a c xs) (hb : Below w.heap.size w w1) : HasRules w1 a c xs := h.call hb (fun _ hx => RulAt.call hx hb)
/-- hours -/
structure HrA where
  n : ByteArray
  d : Int
  f : Int
  t : Int
def HrA.enc (x : HrA) : List Value := [.string x.n, .int .i64 x.d, .int .i64 x.f, .int .i64 x.t]
def HrA.ok (_ : World) (x : HrA) : Prop := x.n.size ≤ maxLen ∧ (Lit.int .i64 x.d).wf = true ∧ (Lit.int .i64 x.f).wf = true ∧ (Lit.int .i64 x.t).wf = true
def HrA.good (x : HrA) : Bool := bwC x.n.data.toList && spanC x.d x.f x.t
abbrev HasHours (w : World) (a : Option Addr) (c : Nat) (xs : List HrA) : Prop := HasRow 4 HrA.enc HrA.ok w a c xs
theorem HasHours.keep {w w1 : World} {a : Option Addr} {c : Nat} {xs : List HrA} (h : HasHours w a c xs) (hb : Below w.heap.size w w1) : HasHours w1 a c xs := h.call hb (fun _ hx => hx)
/-- an inhibit, with the places of its lists -/
structure InA where
  s : List Mat
  t : List Mat
  e : List ByteArray
  sa : Option Addr
  sc : Nat
  ta : Option Addr
  tc : Nat
  ea : Option Addr
  ec : Nat
def InA.enc (x : InA) : List Value := [.slice x.sa x.s.length x.sc, .slice x.ta x.t.length x.tc, .slice x.ea x.e.length x.ec]
/-- what is asked of an inhibit in memory; no list of names is longer than a statement's arguments may be -/
def InA.ok (w : World) (x : InA) : Prop := HasMats w x.sa x.sc x.s ∧ HasMats w x.ta x.tc x.t ∧ HasStrs w x.ea x.ec x.e ∧ x.e.length ≤ 1048576
theorem InA.ok.call {w w1 : World} {x : InA} (h : InA.ok w x) (hb : Below w.heap.size w w1) : InA.ok w1 x := ⟨h.1.call hb, h.2.1.call hb, h.2.2.1.call hb, h.2.2.2⟩
abbrev HasInhs (w : World) (a : Option Addr) (c : Nat) (xs : List InA) : Prop := HasRow 3 InA.enc InA.ok w a c xs
theorem HasInhs.keep {w w1 : World} {a : Option Addr} {c : Nat} {xs : List InA} (h : HasInhs w a c xs) (hb : Below w.heap.size w w1) : HasInhs w1 a c xs := h.call hb (fun _ hx => InA.ok.call hx hb)
/-- may matchers be an inhibit's? -/
def sideC (ms : List Mat) : Bool := decide (0 < ms.length) && matchC ms
/-- may an inhibit be? -/
def InA.good (x : InA) : Bool := sideC x.s && (sideC x.t && rightC (byLabs x.e))
def RuA.good (x : RuA) : Bool := rulC x.r
end Go.Proofs.YtmhekhilgllciaaGreat
/- The contracts of 'few', 'names' and 'alive' of the statements of layer 3. -/
namespace Go.Proofs.YtmhekhilgllciaaGreat
open Go.RowKit

theorem Tryz.infoL : (Tryz.prog.info? 124).map (fun i => (i.zero, i.size, i.bytes)) = some (some (.agg #[.string ⟨#[]⟩, .string ⟨#[]⟩]), 2, 32) := by kernel_rfl
theorem info_partsL {x : Option TypeInfo} (h : x.map (fun i => (i.zero, i.size, i.bytes)) = some (some (.agg #[.string ⟨#[]⟩, .string ⟨#[]⟩]), 2, 32)) : ∃ i, x = some i ∧ i.zero = some (.agg #[.string ⟨#[]⟩, .string ⟨#[]⟩]) ∧ i.size = 2 ∧ i.bytes = 32 := by
  cases x with
  | none => cases h
  | some i => simp at h; exact ⟨i, rfl, h.1, h.2.1, h.2.2⟩

/-- v is the call's own slice of the labels ls -/
def OwnL (T : TypeId) (w : World) (base : Nat) (v : Value) (ls : List Lab) : Prop := w.ownsRow base T 2 v ls.length (labsV ls)
theorem OwnL.call {T : TypeId} {w w1 : World} {base : Nat} {v : Value} {l : List Lab} (h : OwnL T w base v l) (hb : Below w.heap.size w w1) : OwnL T w1 base v l :=
  World.ownsRow.kept h (row := none) ⟨hb.os, hb.tape, hb.output, hb.size, fun k hk _ => hb.block k hk⟩ (by cases v.ownBlock <;> simp)
theorem OwnL.alloc {T : TypeId} {w : World} {base : Nat} {v : Value} {l : List Lab} (h : OwnL T w base v l) (o : Obj) : OwnL T (w.alloc o) base v l := World.ownsRow.alloc h o
theorem OwnL.grown {T : TypeId} {w w1 : World} {base : Nat} {v : Value} {l : List Lab} (h : OwnL T w base v l) {w0 : World} (hb : Below base w0 w) (hz : base ≤ w.heap.size) (hg : w.grownBy w1 v.ownBlock) : Below base w0 w1 :=
  hb.grown hg hz (fun k hk => (World.ownsRow.lt h k hk).1)
theorem OwnL.nil (T : TypeId) (w : World) (base : Nat) : OwnL T w base (.slice none 0 0) [] := World.ownsRow_nil _ _ _ _
theorem OwnL.labs {T : TypeId} {w : World} {base : Nat} {v : Value} {ls : List Lab} (h : OwnL T w base v ls) (hs : ∀ l ∈ ls, l.1.size ≤ maxLen ∧ l.2.size ≤ maxLen) : ∃ a c, v = .slice a ls.length c ∧ HasLabs w a c ls := labs_of_own h hs

theorem wpList_pushL {P : Program} (W : World) {ops : Array Oper} {rest : List Oper} {o : Oper} {a : Act} {Q : Exit → Act → World → Prop} (hgd : o.guard = none) (s x : Operand) (t : TypeId)
    (ho : o.op = .call { callee := .builtin .append, args := #[s, x], argTypes := #[t, t] })
    (base : Nat) (e : TypeId) (i : TypeInfo) (z : Value) (ht : P.underlying t = some (.slice e)) (hi : P.info? e = some i) (hz : i.zero = some z) (hsize : i.size = 2) (hby : i.bytes = 32) (hzs : z.cells.size = 2)
    (v : Value) (ls : List Lab) (l : Lab) (hs : a.eval s = v) (hown : OwnL e W base v ls) (us : List Value) (hus : us = labsV [l])
    (hx : a.eval x = .slice (some ⟨W.heap.size, 0, none⟩) 1 1) (h63 : ls.length ≤ 1000000) (hbase : base ≤ W.heap.size)
    (h : ∀ (v' : Value) (w' : World), OwnL e w' base v' (ls ++ [l]) → W.grownBy w' v.ownBlock → wpList P ops Q rest (a.put o.dst v') w') :
    wpList P ops Q (o :: rest) a (W.alloc (.cells us.toArray e)) := by
  subst hus
  refine wpList_append_own (W.alloc (.cells (labsV [l]).toArray e)) hgd s x t ho base e i z 2 32 ht hi hz hsize hby hzs (by omega) v ls.length (labsV ls) hs (World.ownsRow.alloc hown _) ⟨W.heap.size, 0, none⟩ 1 1 (labsV [l]) hx (by rw [labsV_len]; rfl) ?_ ?_ (by unfold maxLen; omega) (by omega) (by simp; omega) ?_
  · intro j y hy
    have e0 : (⟨W.heap.size, 0, none⟩ : Addr).add j = ⟨W.heap.size, j, none⟩ := by unfold Addr.add; split <;> simp_all
    rw [e0]
    rw [show (W.alloc (.cells (labsV [l]).toArray e)).cell? ⟨W.heap.size, j, none⟩ = _ from World.cell?_alloc_mark W (labsV [l]).toArray e (0, 0) j]
    simpa using hy
  · exact labsV_one _
  · intro v' w' hown' hg _
    refine h v' w' ?_ ⟨hg.os, hg.tape, hg.output, ?_, ?_⟩
    · unfold OwnL
      rw [labsV_app, List.length_append]
      exact hown'
    · have := hg.size; simp at this; omega
    · intro k hk hne
      rw [hg.block k (by simp; omega) hne]
      exact Below.heap_alloc W _ k hk

/-- the same, where the append lies in a region that draws its order -/
theorem step_pushL {P : Program} (W : World) {ops : Array Oper} {o : Oper} {a : Act} {K : Act → World → Prop} {Q : Exit → Act → World → Prop} {E : Prop} (hgd : o.guard = none) (s x : Operand) (t : TypeId)
    (ho : o.op = .call { callee := .builtin .append, args := #[s, x], argTypes := #[t, t] })
    (base : Nat) (e : TypeId) (i : TypeInfo) (z : Value) (ht : P.underlying t = some (.slice e)) (hi : P.info? e = some i) (hz : i.zero = some z) (hsize : i.size = 2) (hby : i.bytes = 32) (hzs : z.cells.size = 2)
    (v : Value) (ls : List Lab) (l : Lab) (hs : a.eval s = v) (hown : OwnL e W base v ls) (us : List Value) (hus : us = labsV [l]) (B : Nat)
    (hx : a.eval x = .slice (some ⟨B, 0, none⟩) 1 1) (hB : B = W.heap.size) (h63 : ls.length ≤ 1000000) (hbase : base ≤ W.heap.size)
    (h : ∀ (v' : Value) (w' : World), OwnL e w' base v' (ls ++ [l]) → W.grownBy w' v.ownBlock → K (a.put o.dst v') w') :
    if Region.wanted o (yielded ops a.tmps) = true then Oper.wp P o a (W.alloc (.cells us.toArray e)) K Q else E := by
  have hw : Region.wanted o (yielded ops a.tmps) = true := by simp [Region.wanted, hgd]
  rw [if_pos hw]
  subst hus hB
  refine wp_append_own (W.alloc (.cells (labsV [l]).toArray e)) s x t ho base e i z 2 32 ht hi hz hsize hby hzs (by omega) v ls.length (labsV ls) hs (World.ownsRow.alloc hown _) ⟨W.heap.size, 0, none⟩ 1 1 (labsV [l]) hx (by rw [labsV_len]; rfl) ?_ ?_ (by unfold maxLen; omega) (by omega) (by simp; omega) ?_
  · intro j y hy
    have e0 : (⟨W.heap.size, 0, none⟩ : Addr).add j = ⟨W.heap.size, j, none⟩ := by unfold Addr.add; split <;> simp_all
    rw [e0]
    rw [show (W.alloc (.cells (labsV [l]).toArray e)).cell? ⟨W.heap.size, j, none⟩ = _ from World.cell?_alloc_mark W (labsV [l]).toArray e (0, 0) j]
    simpa using hy
  · exact labsV_one _
  · intro v' w' hown' hg _
    refine h v' w' ?_ ⟨hg.os, hg.tape, hg.output, ?_, ?_⟩
    · unfold OwnL
      rw [labsV_app, List.length_append]
      exact hown'
    · have := hg.size; simp at this; omega
    · intro k hk hne
      rw [hg.block k (by simp; omega) hne]
      exact Below.heap_alloc W _ k hk
theorem run_min70 {P : Program} (w : World) (ts : Array TypeId) (t : TypeId) (x : Nat) : (Builtin.min_ ts t #[.int .i64 (x : Int), .int .i64 70]).run P w = .ok (.int .i64 ((min x 70 : Nat) : Int)) w := by
  simp [Builtin.min_, Builtin.min2]
  repeat' split
  all_goals omega
theorem run_slice_to {P : Program} (w : World) (t : TypeId) (s : ByteArray) (j : Nat) (h : P.underlying t = some .string) (h2 : j ≤ s.size) :
    (Instr.slice t (.string s) none (some (.int .i64 (j : Int))) none).run P w = .ok (.string (s.extract 0 j)) w := by
  have hj : (0 : Int) ≤ (j : Int) ∧ (j : Int) ≤ (s.size : Int) := ⟨by omega, by omega⟩
  simp [Instr.slice, Instr.sliceBounds, Instr.sliceBound, asIntOf, run_underlying h, hj]
  try omega
def cut70 (s : ByteArray) : ByteArray := if s.size ≤ 70 then s else s.extract 0 70
theorem cut70_ext (s : ByteArray) : s.extract 0 (min s.size 70) = cut70 s := by
  unfold cut70
  split
  · rw [Nat.min_eq_left (by assumption)]; simp
  · rw [Nat.min_eq_right (by omega)]
theorem run_cut70 {P : Program} (w : World) (t : TypeId) (s : ByteArray) (h : P.underlying t = some .string) :
    (Instr.slice t (.string s) none (some (.int .i64 ((min s.size 70 : Nat) : Int))) none).run P w = .ok (.string (cut70 s)) w := by
  rw [run_slice_to w t s (min s.size 70) h (by omega), cut70_ext]
theorem cut70_size (s : ByteArray) : (cut70 s).size ≤ 70 := by
  unfold cut70; split
  · assumption
  · simp; omega
def fewL (ls : List Lab) : List Lab := (ls.take 10).map fun l => (cut70 l.1, cut70 l.2)
theorem fewL_len (ls : List Lab) : (fewL ls).length ≤ 10 := by simp [fewL]; omega
theorem fewL_size (ls : List Lab) : ∀ l ∈ fewL ls, l.1.size ≤ 70 ∧ l.2.size ≤ 70 := by
  intro l hl
  obtain ⟨x, _, rfl⟩ := List.mem_map.1 hl
  exact ⟨cut70_size _, cut70_size _⟩
def LabsPost (ls : List Lab) (w : World) (e : Ending) (w' : World) : Prop := ∃ a c, e = .returned (.slice a ls.length c) ∧ HasLabs w' a c ls ∧ Below w.heap.size w w'

end Go.Proofs.YtmhekhilgllciaaGreat
/- The contracts of what routes.Right asks of a route's words, matchers and names. -/
namespace Go.Proofs.YtmhekhilgllciaaGreat
open Go.RowKit

theorem word_defsR (s : ByteArray) : defsC [⟨s, [], []⟩] = bwC s.data.toList := by
  simp [defsC, defC, keysC]
theorem rteWord_any (s : ByteArray) (w : World) (hs : s.size ≤ maxLen) : Calls Tryz.prog 192 #[.string s] w (BoolB (bwC s.data.toList) w) := by
  have hb := (Below.refl w.heap.size w).alloc (Nat.le_refl _) (.cells #[.string s, .slice none 0 0, .slice none 0 0] 113)
  have hB := Blk.new w 113 #[.string s, .slice none 0 0, .slice none 0 0]
  have hd : HasDefs (w.alloc (.cells #[.string s, .slice none 0 0, .slice none 0 0] 113)) (some ⟨w.heap.size, 0, none⟩) 1 [⟨s, [], []⟩] := by
    refine ⟨Nat.le_refl _, by unfold maxLen; omega, .inr ⟨_, _, rfl, hB.lt, fun i hi => ?_⟩⟩
    obtain rfl : i = 0 := by simpa using hi
    refine ⟨⟨⟨s, [], []⟩, none, 0, none, 0⟩, rfl, ⟨hB.cell 0, hB.cell 1, hB.cell 2⟩, HasStrs.nil _ _ _ (Nat.zero_le _), HasStrs.nil _ _ _ (Nat.zero_le _), hs⟩
  have hr := bRight_any _ _ _ _ hd
  rw [word_defsR] at hr
  go_enter Tryz.func192, Tryz.ntmps192
  go_wp2_with (go_at_call 87; refine hr.mono ?_; rintro e w2 ⟨rfl, hb2⟩)
  go_ret
  exact ⟨rfl, bthen hb hb2⟩
theorem rteWithin_any (n a b : Int) (w : World) : Calls Tryz.prog 195 #[.int .i64 n, .int .i64 a, .int .i64 b] w (BoolS (inRt n a b) w) := by
  unfold inRt
  by_cases h : a ≤ n
  · have h1 : decide (a ≤ n) = true := decide_eq_true h
    go_enter Tryz.func195, Tryz.ntmps195
    go_wp2
    go_ret
    exact ⟨by rw [h1, Bool.true_and]; rfl, rfl⟩
  · have h1 : decide (a ≤ n) = false := decide_eq_false h
    go_enter Tryz.func195, Tryz.ntmps195
    go_wp2
    go_ret
    exact ⟨by simp, rfl⟩

/-! ### Matchers -/
set_option maxHeartbeats 1600000 in
set_option maxRecDepth 100000 in
theorem wrong_any (a : Option Addr) (c : Nat) (m : Mat) (w : World) (h : HasMat w (.agg (matCells a c m)) m) : Calls Tryz.prog 223 #[.agg (matCells a c m)] w (BoolB (!rightM m) w) := by
  have hb := (Below.refl w.heap.size w).alloc (Nat.le_refl _) (.cells (matCells a c m) 97)
  have hB := Blk.new w 97 (matCells a c m)
  have hr := mRight_any _ m _ (h.call hb)
  have HB := Lib.hid hb
  have HR := Lib.hid hr
  clear hb hr h
  simp only [matCells] at *
  have c0 := hB.cell 0
  have c1 := hB.cell 1
  have c2 := hB.cell 2
  go_enter Tryz.func223, Tryz.ntmps223
  go_wp2_with (go_at_call 127; refine HR.out.mono ?_; rintro e w2 ⟨rfl, hb2⟩)
  go_ret
  exact ⟨rfl, bthen HB.out hb2⟩

def IdxW (B : Bool) (w : World) (e : Ending) (w' : World) : Prop := ∃ n : Int, e = .returned (.int .i64 n) ∧ decide (0 ≤ n) = !B ∧ Below w.heap.size w w'
set_option maxHeartbeats 3200000 in
set_option maxRecDepth 100000 in
theorem idxWrong_any (a : Option Addr) (c : Nat) (ms : List Mat) (w : World) (h : HasMats w a c ms) :
    Calls Tryz.prog 221 #[.slice a ms.length c, .func (.func 223) #[] #[]] w (IdxW (ms.all rightM) w) := by
  obtain ⟨h1, h2, h4⟩ := h
  unfold maxLen at h2
  rcases h4 with rfl | ⟨b, off, rfl, hlt, hc⟩
  · simp only [List.length_nil] at *
    go_enter Tryz.func221, Tryz.ntmps221
    go_wp2_with fail
    refine wp_loop_rounds 1 ?_
    rw [rounds_succ]
    go_wp2_with fail
    go_ret
    exact ⟨-1, rfl, rfl, Below.refl _ _⟩
  · obtain ⟨J, hJ, hgood, hend⟩ := all_end rightM ms
    obtain ⟨R, hR⟩ : ∃ R, ms.all rightM = R := ⟨_, rfl⟩
    rw [hR] at hend ⊢
    have HG := Lib.hid hgood
    have HE := Lib.hid hend
    have HC := Lib.hid hc
    have HQ := Lib.hid (fun W a c m (h : HasMat W (.agg (matCells a c m)) m) => wrong_any a c m W h)
    clear hgood hend hc hR
    go_enter Tryz.func221, Tryz.ntmps221
    go_wp2_with fail
    go_loopg [8, 5] ms.length (fun gg iv _ wr => ∃ k : Nat, k + gg = ms.length ∧ k ≤ J ∧ iv = .int .i64 (k : Int) ∧ Below w.heap.size w wr)
    case atStart => exact ⟨0, by omega, Nat.zero_le _, rfl, Below.refl _ _⟩
    case round =>
      obtain ⟨k, hkg, hkJ, rfl, hbr⟩ := hrel
      cases gk with
      | zero =>
        obtain rfl : k = ms.length := by omega
        obtain rfl : R = true := by
          rcases HE.out with ⟨_, e⟩ | ⟨hj, _⟩
          · exact e
          · omega
        have HBR := Lib.hid hbr
        clear hbr
        go_wp2_with fail
        go_ret
        exact ⟨-1, rfl, rfl, HBR.out⟩
      | succ gg =>
        have hkl : k < ms.length := by omega
        obtain ⟨x, y, ⟨g0, g1, g2⟩, g3, g4, g5⟩ := HC.out k hkl
        have c0 := cellL hbr g0
        have c1 := cellL hbr g1
        have c2 := cellL hbr g2
        have hm : HasMat wr (.agg (matCells x y ms[k])) ms[k] := ⟨x, y, rfl, g3.call hbr, g4, g5⟩
        have hq := HQ.out wr x y ms[k] hm
        have hgk : k < J → rightM ms[k] = true := fun h => HG.out k h hkl
        have hjk : k = J → rightM ms[k] = false ∧ R = false := fun h => by
          rcases HE.out with ⟨e, _⟩ | ⟨hj, e, e2⟩
          · omega
          · subst h; exact ⟨e, e2⟩
        have HQ2 := Lib.hid hq
        have HBR := Lib.hid hbr
        clear hbr g0 g1 g2 g3 g4 g5 hm hq HC
        simp only [matCells] at *
        generalize ms[k] = m at *
        have e1 : off + k * 3 = off + k * 3 := rfl
        by_cases hk : k < J
        · rw [hgk hk] at HQ2
          clear hgk hjk e1
          go_wp2_with (go_at_call 223; refine HQ2.out.mono ?_; rintro e w2 ⟨rfl, hb2⟩)
          go_roundg gg
          case measure => omega
          case rel => exact ⟨k + 1, by omega, by omega, by go_num, bthen HBR.out hb2⟩
        · obtain ⟨e3, rfl⟩ := hjk (by omega)
          rw [e3] at HQ2
          clear hgk hjk e1 e3
          go_wp2_with (go_at_call 223; refine HQ2.out.mono ?_; rintro e w2 ⟨rfl, hb2⟩)
          go_ret
          exact ⟨(k : Int), rfl, by simp, bthen HBR.out hb2⟩
theorem anyWrong_any (a : Option Addr) (c : Nat) (ms : List Mat) (w : World) (h : HasMats w a c ms) :
    Calls Tryz.prog 189 #[.slice a ms.length c, .func (.func 223) #[] #[]] w (BoolB (!(ms.all rightM)) w) := by
  have hi := idxWrong_any a c ms w h
  generalize ms.all rightM = R at *
  have HI := Lib.hid hi
  clear hi h
  go_enter Tryz.func189, Tryz.ntmps189
  go_wp2_with (go_at_call 221; refine HI.out.mono ?_; rintro e w2 ⟨n, rfl, hn, hb2⟩)
  go_ret
  exact ⟨by first | rfl | rw [hn], hb2⟩
theorem rteMatch_any (a : Option Addr) (c : Nat) (ms : List Mat) (w : World) (h : HasMats w a c ms) : Calls Tryz.prog 193 #[.slice a ms.length c] w (BoolB (matchC ms) w) := by
  have hq := anyWrong_any a c ms w h
  unfold matchC
  generalize ms.all rightM = R at *
  have HQ := Lib.hid hq
  clear hq h
  by_cases h8 : ms.length ≤ 8
  · rw [decide_eq_true h8]
    have d8 : decide ((ms.length : Int) ≤ 8) = true := decide_eq_true (by omega)
    clear h8
    go_enter Tryz.func193, Tryz.ntmps193
    go_wp2_with (go_at_call 189; refine HQ.out.mono ?_; rintro e w2 ⟨rfl, hb2⟩)
    go_ret
    exact ⟨by cases R <;> rfl, hb2⟩
  · rw [decide_eq_false h8]
    have d8 : decide ((ms.length : Int) ≤ 8) = false := decide_eq_false (by omega)
    clear h8
    go_enter Tryz.func193, Tryz.ntmps193
    go_wp2_with fail
    go_ret
    exact ⟨rfl, Below.refl _ _⟩

/-! ### Names -/
theorem wpList_pushL2 {P : Program} (W : World) {ops : Array Oper} {rest : List Oper} {o : Oper} {a : Act} {Q : Exit → Act → World → Prop} (hgd : o.guard = none) (s x : Operand) (t : TypeId)
    (ho : o.op = .call { callee := .builtin .append, args := #[s, x], argTypes := #[t, t] })
    (base : Nat) (e : TypeId) (i : TypeInfo) (z : Value) (ht : P.underlying t = some (.slice e)) (hi : P.info? e = some i) (hz : i.zero = some z) (hsize : i.size = 2) (hby : i.bytes = 32) (hzs : z.cells.size = 2)
    (v : Value) (ls : List Lab) (l : Lab) (hs : a.eval s = v) (hown : OwnL e W base v ls) (us : List Value) (hus : us = labsV [l])
    (hx : a.eval x = .slice (some ⟨W.heap.size, 0, none⟩) 1 1) (h63 : ls.length ≤ 2000000) (hbase : base ≤ W.heap.size)
    (h : ∀ (v' : Value) (w' : World), OwnL e w' base v' (ls ++ [l]) → W.grownBy w' v.ownBlock → wpList P ops Q rest (a.put o.dst v') w') :
    wpList P ops Q (o :: rest) a (W.alloc (.cells us.toArray e)) := by
  subst hus
  refine wpList_append_own (W.alloc (.cells (labsV [l]).toArray e)) hgd s x t ho base e i z 2 32 ht hi hz hsize hby hzs (by omega) v ls.length (labsV ls) hs (World.ownsRow.alloc hown _) ⟨W.heap.size, 0, none⟩ 1 1 (labsV [l]) hx (by rw [labsV_len]; rfl) ?_ ?_ (by unfold maxLen; omega) (by omega) (by simp; omega) ?_
  · intro j y hy
    have e0 : (⟨W.heap.size, 0, none⟩ : Addr).add j = ⟨W.heap.size, j, none⟩ := by unfold Addr.add; split <;> simp_all
    rw [e0]
    rw [show (W.alloc (.cells (labsV [l]).toArray e)).cell? ⟨W.heap.size, j, none⟩ = _ from World.cell?_alloc_mark W (labsV [l]).toArray e (0, 0) j]
    simpa using hy
  · exact labsV_one _
  · intro v' w' hown' hg _
    refine h v' w' ?_ ⟨hg.os, hg.tape, hg.output, ?_, ?_⟩
    · unfold OwnL
      rw [labsV_app, List.length_append]
      exact hown'
    · have := hg.size; simp at this; omega
    · intro k hk hne
      rw [hg.block k (by simp; omega) hne]
      exact Below.heap_alloc W _ k hk


set_option maxHeartbeats 3200000 in
set_option maxRecDepth 100000 in
theorem rteBy_any (a : Option Addr) (c : Nat) (bs : List ByteArray) (w : World) (h : HasStrs w a c bs) (hn : bs.length ≤ 1048576) : Calls Tryz.prog 194 #[.slice a bs.length c] w (BoolB (rightC (byLabs bs)) w) := by
  obtain ⟨i0, hi, hz0, hz1, hz2⟩ := info_partsL Tryz.infoL
  have hsl : ∀ l ∈ byLabs bs, l.1.size ≤ maxLen ∧ l.2.size ≤ maxLen := fun l hl => by
    obtain ⟨b, hb, rfl⟩ := List.mem_map.1 hl
    exact ⟨h.2.2.1 b hb, by show (1 : Nat) ≤ maxLen; unfold maxLen; omega⟩
  obtain ⟨h1, h2, h3, h4⟩ := h
  unfold maxLen at h2
  rcases h4 with rfl | ⟨b, off, rfl, hb, hc⟩
  · have hR : rightC (byLabs []) = true := by decide
    rw [hR]
    have hq := right_any none 0 [] w (HasLabs.nil w none 0 (by unfold maxLen; omega))
    rw [show rightC [] = true by decide] at hq
    simp only [List.length_nil] at *
    have HQ := Lib.hid hq
    clear hq hR
    go_enter Tryz.func194, Tryz.ntmps194
    go_wp2_with fail
    refine wp_loop_rounds 1 ?_
    rw [rounds_succ]
    go_wp2_with (go_at_call 121; refine HQ.out.mono ?_; rintro e w2 ⟨rfl, hb2⟩)
    go_ret
    exact ⟨rfl, hb2⟩
  · have HC := Lib.hid hc
    have HS := Lib.hid hsl
    clear hc h3 hsl
    go_enter Tryz.func194, Tryz.ntmps194
    go_wp2_with fail
    go_loopg [8, 3, 5] bs.length (fun gg iv v _ wr => ∃ k : Nat, k + gg = bs.length ∧ iv = .int .i64 (k : Int) ∧ OwnL 124 wr w.heap.size v (byLabs (bs.take k)) ∧ Below w.heap.size w wr ∧ w.heap.size ≤ wr.heap.size)
    case atStart => exact ⟨0, by omega, rfl, OwnL.nil _ _ _, Below.refl _ _, Nat.le_refl _⟩
    case round =>
      obtain ⟨k, hkg, rfl, hown, hbl, hzl⟩ := hrel
      cases gk with
      | zero =>
        obtain rfl : k = bs.length := by omega
        rw [List.take_length] at hown
        obtain ⟨a', c', rfl, hh⟩ := hown.labs HS.out
        have hq := right_any a' c' (byLabs bs) wr hh
        have hbl2 := hbl
        generalize byLabs bs = L at *
        have HQ := Lib.hid hq
        have HBL := Lib.hid hbl2
        clear hq hown hh hbl hbl2 HS
        go_wp2_with (go_at_call 121; refine HQ.out.mono ?_; rintro e w2 ⟨rfl, hb2⟩)
        go_ret
        exact ⟨rfl, bthen HBL.out hb2⟩
      | succ gg =>
        have hkl : k < bs.length := by omega
        have c0 := cellL hbl (HC.out k hkl)
        have hts : byLabs (bs.take (k + 1)) = byLabs (bs.take k) ++ [(bs[k], ⟨#[118]⟩)] := by
          unfold byLabs
          rw [List.take_succ_eq_append_getElem hkl, List.map_append]; rfl
        have hll : (byLabs (bs.take k)).length ≤ 2000000 := by unfold byLabs; simp; omega
        have HTS := Lib.hid hts
        generalize byLabs (bs.take k) = M at *
        generalize bs[k] = s at *
        clear hts HS
        go_wp2_with (refine wpList_pushL2 wr (by rfl) (.tmp 12) (.tmp 15) 43 (by rfl) w.heap.size 124 i0 (.agg #[.string ⟨#[]⟩, .string ⟨#[]⟩]) Tryz.underlying43 hi hz0 hz1 hz2 rfl _ M (s, ⟨#[118]⟩) (by rfl) hown [.string s, .string ⟨#[118]⟩] rfl (by rfl) hll hzl ?_; intro v2 w2 hown2 hg2)
        have hb2 := hown.grown hbl hzl hg2
        have hz2' := Nat.le_trans hzl hg2.size
        go_roundg gg
        case measure => omega
        case rel => exact ⟨k + 1, by omega, by go_num, by rw [HTS.out]; exact hown2, hb2, hz2'⟩

/-! ### Words of hours -/
set_option maxHeartbeats 3200000 in
set_option maxRecDepth 100000 in
theorem rteMute_any (a : Option Addr) (c : Nat) (us : List ByteArray) (w : World) (h : HasStrs w a c us) : Calls Tryz.prog 196 #[.slice a us.length c] w (BoolB (muteC us) w) := by
  obtain ⟨h1, h2, h3, h4⟩ := h
  unfold maxLen at h2
  rcases h4 with rfl | ⟨b, off, rfl, hb, hc⟩
  · have hR : muteC [] = true := by decide
    rw [hR]
    simp only [List.length_nil] at *
    clear hR
    go_enter Tryz.func196, Tryz.ntmps196
    go_wp2_with fail
    refine wp_loop_rounds 1 ?_
    rw [rounds_succ]
    go_wp2_with fail
    go_ret
    exact ⟨rfl, Below.refl _ _⟩
  · obtain ⟨J, hJ, hgood, hend⟩ := mute_end us
    have hd8 : decide ((us.length : Int) ≤ 8) = decide (us.length ≤ 8) := by rw [Bool.eq_iff_iff]; simp; omega
    have hR : muteC us = (allU us && decide (us.length ≤ 8)) := rfl
    generalize decide (us.length ≤ 8) = D8 at *
    generalize muteC us = R at *
    have HG := Lib.hid hgood
    have HE := Lib.hid hend
    have HC := Lib.hid hc
    have HS := Lib.hid h3
    have HR := Lib.hid hR
    have H0 := Lib.hid (fun (h : 0 < us.length) => okU_zero us h)
    have H1 := Lib.hid (fun j (h : j + 1 < us.length) => okU_succ us j h)
    have HW := Lib.hid (fun s W (hs : s.size ≤ maxLen) => rteWord_any s W hs)
    clear hgood hend hc h3 hR
    go_enter Tryz.func196, Tryz.ntmps196
    go_wp2_with fail
    go_loopg [7, 3, 4] us.length (fun gg iv _ _ wr => ∃ k : Nat, k + gg = us.length ∧ k ≤ J ∧ iv = .int .i64 (k : Int) ∧ Below w.heap.size w wr)
    case atStart => exact ⟨0, by omega, Nat.zero_le _, rfl, Below.refl _ _⟩
    case round =>
      obtain ⟨k, hkg, hkJ, rfl, hbr⟩ := hrel
      cases gk with
      | zero =>
        obtain rfl : k = us.length := by omega
        obtain rfl : R = D8 := by
          rw [HR.out]
          rcases HE.out with ⟨_, e⟩ | ⟨hj, _⟩
          · rw [e]; rfl
          · omega
        have HBR := Lib.hid hbr
        clear hbr HR HE
        go_wp2_with fail
        go_ret
        exact ⟨by first | rfl | rw [hd8], HBR.out⟩
      | succ gg =>
        have hkl : k < us.length := by omega
        have c0 := cellL hbr (HC.out k hkl)
        have hq := HW.out us[k] wr (HS.out _ (List.getElem_mem hkl))
        have hgk : k < J → okU us k = true := fun h => HG.out k h
        have hjk : k = J → okU us k = false ∧ R = false := fun h => by
          rcases HE.out with ⟨e, _⟩ | ⟨hj, e, e2⟩
          · omega
          · subst h; exact ⟨e, by rw [HR.out, e2]; rfl⟩
        have HQ := Lib.hid hq
        have HBR := Lib.hid hbr
        clear hq
        cases k with
        | zero =>
          have hok := H0.out hkl
          simp only [Nat.add_zero] at c0
          generalize us[0] = s at *
          by_cases hk : 0 < J
          · have hs := hok.symm.trans (hgk hk)
            rw [hs] at HQ
            clear hgk hjk hok hs hbr HC HS HG HE HW H0 H1 HR
            go_wp2_with (go_at_call 192; refine HQ.out.mono ?_; rintro e w2 ⟨rfl, hb2⟩)
            go_roundg gg
            case measure => omega
            case rel => exact ⟨1, by omega, by omega, by go_num, bthen HBR.out hb2⟩
          · obtain ⟨e3, rfl⟩ := hjk (by omega)
            have hs := hok.symm.trans e3
            rw [hs] at HQ
            clear hgk hjk hok hs hbr HC HS HG HE HW H0 H1 HR
            go_wp2_with (go_at_call 192; refine HQ.out.mono ?_; rintro e w2 ⟨rfl, hb2⟩)
            go_ret
            exact ⟨rfl, bthen HBR.out hb2⟩
        | succ j =>
          have c1 := fun W (hW : Below wr.heap.size wr W) => cellL (bthen hbr hW) (HC.out j (by omega))
          have hok := H1.out j hkl
          have hlt := ltW_bytes us[j] us[j + 1]
          have e1 : ((j + 1 : Nat) : Int) = (j : Int) + 1 := by omega
          have e2 : IntKind.i64.wrap ((j : Int) + 1 - 1) = (j : Int) := by rw [IntWalk.i64_in _ (by omega)]; omega
          have e3 : (j : Int) + 1 - 1 = (j : Int) := by omega
          have e4 : (0 : Int) < (j : Int) + 1 := by omega
          have hjl : j < us.length := by omega
          generalize us[j + 1] = s at *
          generalize us[j] = p at *
          have C1 := Lib.hid c1
          have HGK := Lib.hid hgk
          have HJK := Lib.hid hjk
          have HOK := Lib.hid hok
          clear c1 hgk hjk hok hbr HC HS HG HE HW H0 H1 HR
          cases hbw : bwC s.data.toList with
          | false =>
            rw [hbw] at HQ HOK
            obtain ⟨_, rfl⟩ := HJK.out (by
              have : ¬ j + 1 < J := fun h => by have h1 := HOK.out; rw [HGK.out h] at h1; cases h1
              omega)
            clear hbw hlt
            go_wp2_with (go_at_call 192; refine HQ.out.mono ?_; rintro e w2 ⟨rfl, hb2⟩; have c2 := C1.out _ hb2)
            go_ret
            exact ⟨rfl, bthen HBR.out hb2⟩
          | true =>
            rw [hbw] at HQ HOK
            rw [Bool.true_and] at HOK
            clear hbw
            cases hl : ltW p s with
            | true =>
              rw [hl] at HOK hlt
              have hJ1 : j + 1 < J := by
                have : ¬ j + 1 = J := fun h => by have h1 := HOK.out; rw [(HJK.out h).1] at h1; cases h1
                omega
              clear hl HGK HJK HOK
              go_wp2_with (go_at_call 192; refine HQ.out.mono ?_; rintro e w2 ⟨rfl, hb2⟩; have c2 := C1.out _ hb2)
              go_roundg gg
              case measure => omega
              case rel => exact ⟨j + 2, by omega, by omega, by go_num, bthen HBR.out hb2⟩
            | false =>
              rw [hl] at HOK hlt
              obtain ⟨_, rfl⟩ := HJK.out (by
                have : ¬ j + 1 < J := fun h => by have h1 := HOK.out; rw [HGK.out h] at h1; cases h1
                omega)
              clear hl HGK HJK HOK
              go_wp2_with (go_at_call 192; refine HQ.out.mono ?_; rintro e w2 ⟨rfl, hb2⟩; have c2 := C1.out _ hb2)
              go_ret
              exact ⟨rfl, bthen HBR.out hb2⟩
end Go.Proofs.YtmhekhilgllciaaGreat
/- The contracts of what asks hours: hours.isNameByte, rightName, Right, isTick, hasDay, In. -/
namespace Go.Proofs.YtmhekhilgllciaaGreat
open Go.RowKit

theorem hNameByte_any (c : UInt8) (w : World) : Calls Tryz.prog 129 #[.int .u8 (c.toNat : Int)] w (BoolS (bwB c) w) := by
  have e : bwB c = decide (97 ≤ c.toNat ∧ c.toNat ≤ 122 ∨ 48 ≤ c.toNat ∧ c.toNat ≤ 57 ∨ c.toNat = 95) := rfl
  rw [e]
  clear e
  generalize c.toNat = n
  by_cases e1 : n = 95
  · subst e1
    go_enter Tryz.func129, Tryz.ntmps129
    go_wp2
    go_ret
    exact ⟨rfl, rfl⟩
  have f1 : ((n : Int) == 95) = false := beq_eq_false_iff_ne.2 (by omega)
  by_cases h1 : 97 ≤ n <;> by_cases h2 : n ≤ 122 <;> by_cases h5 : 48 ≤ n <;> by_cases h6 : n ≤ 57 <;> (try omega)
  all_goals
    go_enter Tryz.func129, Tryz.ntmps129
    go_wp2
    go_ret
    exact ⟨by first | (simp [h1, h2, h5, h6, e1]; done) | (simp [h1, h2, h5, h6, e1]; omega), rfl⟩

set_option maxHeartbeats 800000 in
theorem hName_any (s : ByteArray) (w : World) (hs : s.size ≤ maxLen) : Calls Tryz.prog 94 #[.string s] w (BoolS (bwC s.data.toList) w) := by
  unfold maxLen at hs
  have hl := lenB s
  by_cases h1 : 1 ≤ s.size
  case neg =>
    have hR : bwC s.data.toList = false := by unfold bwC; rw [hl]; simp [h1]
    rw [hR]
    clear hR hl
    go_enter Tryz.func94, Tryz.ntmps94
    go_wp2
    go_ret
    exact ⟨rfl, rfl⟩
  by_cases h2 : s.size ≤ 64
  case neg =>
    have hR : bwC s.data.toList = false := by unfold bwC; rw [hl]; simp [h2]
    rw [hR]
    clear hR hl
    go_enter Tryz.func94, Tryz.ntmps94
    go_wp2
    go_ret
    exact ⟨rfl, rfl⟩
  by_cases hall : s.data.toList.all bwB = true
  · have hR : bwC s.data.toList = true := by unfold bwC; rw [hl, hall]; simp [h1, h2]
    have HA := Lib.hid (bytesAll hall)
    rw [hR]
    clear hR hl hall
    go_enter Tryz.func94, Tryz.ntmps94
    go_wp2
    go_loop [3] (fun i => ∃ k : Nat, k ≤ s.size ∧ i = .int .i64 k) (fun i => s.size - (intOf i).toNat)
    case atStart => exact ⟨0, Nat.zero_le _, rfl⟩
    case round =>
      obtain ⟨k, hk, rfl⟩ := hrel
      by_cases hkl : k < s.size
      · have hw := HA.out k hkl
        go_wp2_with (go_at_call 129; refine (hNameByte_any _ _).mono ?_; rintro e w2 ⟨rfl, rfl⟩)
        go_round
        case rel => exact ⟨k + 1, by omega, by go_num⟩
        case measure => simp [intOf]; omega
      · go_wp2
        go_ret
        exact ⟨rfl, rfl⟩
  · obtain ⟨j, hj, hbad, hok⟩ := bytesNot s hall
    have hR : bwC s.data.toList = false := by unfold bwC; simp only [Bool.not_eq_true] at hall; rw [hall]; simp
    have HA := Lib.hid hok
    have HB := Lib.hid hbad
    rw [hR]
    clear hR hl hall hok hbad
    go_enter Tryz.func94, Tryz.ntmps94
    go_wp2
    go_loop [3] (fun i => ∃ k : Nat, k ≤ j ∧ i = .int .i64 k) (fun i => s.size - (intOf i).toNat)
    case atStart => exact ⟨0, Nat.zero_le _, rfl⟩
    case round =>
      obtain ⟨k, hk, rfl⟩ := hrel
      by_cases hkl : k = j
      · subst hkl
        have hb := HB.out
        go_wp2_with (go_at_call 129; refine (hNameByte_any _ _).mono ?_; rintro e w2 ⟨rfl, rfl⟩)
        go_ret
        exact ⟨rfl, rfl⟩
      · have hw := HA.out k (by omega)
        have hkz : k < s.size := by omega
        go_wp2_with (go_at_call 129; refine (hNameByte_any _ _).mono ?_; rintro e w2 ⟨rfl, rfl⟩)
        go_round
        case rel => exact ⟨k + 1, by omega, by go_num⟩
        case measure => simp [intOf]; omega

/-- an int that may be -/
def I64 (x : Int) : Prop := -9223372036854775808 ≤ x ∧ x ≤ 9223372036854775807

set_option maxHeartbeats 1600000 in
theorem hRight_any (n : ByteArray) (d f t : Int) (w : World) (hn : n.size ≤ maxLen) :
    Calls Tryz.prog 41 #[.agg #[.string n, .int .i64 d, .int .i64 f, .int .i64 t]] w (BoolW (bwC n.data.toList && spanC d f t) w) := by
  have hN := fun W => hName_any n W hn
  generalize bwC n.data.toList = B at *
  unfold spanC
  cases B
  · go_enter Tryz.func41, Tryz.ntmps41
    go_wp2_with (go_at_call 94; refine (hN _).mono ?_; rintro e w2 ⟨rfl, rfl⟩)
    go_ret
    exact ⟨rfl, (Below.refl _ _).alloc (Nat.le_refl _) _⟩
  by_cases h1 : 1 ≤ d <;> by_cases h2 : d ≤ 127 <;> by_cases h3 : 0 ≤ f <;> by_cases h4 : f < t <;> by_cases h5 : t ≤ 1440 <;> (try omega)
  all_goals
    go_enter Tryz.func41, Tryz.ntmps41
    go_wp2_with (go_at_call 94; refine (hN _).mono ?_; rintro e w2 ⟨rfl, rfl⟩)
    go_ret
    exact ⟨by simp [h1, h2, h3, h4, h5], (Below.refl _ _).alloc (Nat.le_refl _) _⟩

end Go.Proofs.YtmhekhilgllciaaGreat
