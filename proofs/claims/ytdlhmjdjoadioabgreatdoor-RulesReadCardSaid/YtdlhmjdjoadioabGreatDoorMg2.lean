/- Rules: what they are, which may be, which values fire, the labels of an alert: mathematics alone. -/
import Derived.Test.YtdlhmjdjoadioabGreatDoorMg1
import Derived.WalkKit
import Derived.Lib.Hide
import Derived.Handy
import Derived.Deep.AppendSrc
namespace Go.Proofs.YtdlhmjdjoadioabGreatDoor

structure Rul where
  name : ByteArray
  metric : ByteArray
  how : Int
  limit : Int
  fr : Int
  keep : Int
  tries : Int
  labels : List Lab

/-- the label that tells an alert's rule -/
def aName : ByteArray := ⟨#[97, 108, 101, 114, 116]⟩
def inC (n a b : Int) : Bool := decide (a ≤ n) && decide (n ≤ b)
def rlabsC (ls : List Lab) : Bool := decide (ls.length ≤ 4) && rightC ls && !hasN ls aName
def rulC (r : Rul) : Bool :=
  bwC r.name.data.toList && bwC r.metric.data.toList && inC r.how 1 5 && inC r.limit (-1099511627776) 1099511627776 && inC r.fr 0 1099511627776 && inC r.keep 0 1099511627776 && inC r.tries 1 10 && rlabsC r.labels
def compC (how limit v : Int) : Bool :=
  if how = 1 then decide (limit < v) else if how = 2 then !decide (v < limit) else if how = 3 then decide (v < limit) else if how = 4 then !decide (limit < v) else decide (v = limit)
def firesC (r : Rul) (v : Int) : Bool := rulC r && compC r.how r.limit v
def alabsP (r : Rul) (ls : List Lab) : List Lab × Int :=
  if rulC r = true then if (withP ls r.labels).2 = 0 then withP (withP ls r.labels).1 [(aName, r.name)] else ([], (withP ls r.labels).2) else ([], 1)
theorem rulC_iff (r : Rul) : rulC r = true ↔ bwC r.name.data.toList = true ∧ bwC r.metric.data.toList = true ∧ (1 ≤ r.how ∧ r.how ≤ 5) ∧ (-1099511627776 ≤ r.limit ∧ r.limit ≤ 1099511627776) ∧ (0 ≤ r.fr ∧ r.fr ≤ 1099511627776) ∧ (0 ≤ r.keep ∧ r.keep ≤ 1099511627776) ∧ (1 ≤ r.tries ∧ r.tries ≤ 10) ∧ rlabsC r.labels = true := by
  simp only [rulC, inC, Bool.and_eq_true, decide_eq_true_eq, and_assoc]
theorem rlabsC_iff (ls : List Lab) : rlabsC ls = true ↔ ls.length ≤ 4 ∧ rightC ls = true ∧ hasN ls aName = false := by
  simp only [rlabsC, Bool.and_eq_true, decide_eq_true_eq, Bool.not_eq_true', and_assoc]
end Go.Proofs.YtdlhmjdjoadioabGreatDoor
/- Laws of the walk that speak of no one program: an append of one element to a slice of the call's own, and the string that such a slice of bytes is turned into. -/
namespace Go.Proofs.YtdlhmjdjoadioabGreatDoor
open Go.RowKit

/-- bytes, as cells -/
def bytesV (l : List UInt8) : List Value := l.map fun c => .int .u8 (c.toNat : Int)
theorem bytesV_len (l : List UInt8) : (bytesV l).length = l.length := by simp [bytesV]
theorem bytesV_app (a b : List UInt8) : bytesV (a ++ b) = bytesV a ++ bytesV b := by simp [bytesV]
theorem bytesV_get (l : List UInt8) (j : Nat) (h : j < l.length) : (bytesV l)[j]? = some (.int .u8 (l[j].toNat : Int)) := by simp [bytesV, h]

theorem bytesV_push (l : List UInt8) (k : Nat) (u : Int) (hu : u = k) (h : k < 256) : bytesV l ++ [.int .u8 u] = bytesV (l ++ [UInt8.ofNat k]) := by
  subst hu; rw [bytesV_app]; simp [bytesV]; omega

/-- an append of one element, which has just been laid in a block of its own -/
theorem wpList_push {P : Program} (W : World) {ops : Array Oper} {rest : List Oper} {o : Oper} {a : Act} {Q : Exit → Act → World → Prop} (hgd : o.guard = none) (s x : Operand) (t : TypeId)
    (ho : o.op = .call { callee := .builtin .append, args := #[s, x], argTypes := #[t, t] })
    (base : Nat) (e : TypeId) (i : TypeInfo) (z : Value) (bytes : Nat) (ht : P.underlying t = some (.slice e)) (hi : P.info? e = some i) (hz : i.zero = some z)
    (hsize : i.size = 1) (hby : i.bytes = bytes) (hzs : z.cells.size = 1)
    (v : Value) (n : Nat) (xs : List Value) (hs : a.eval s = v) (hown : W.ownsRow base e 1 v n xs) (u : Value)
    (hx : a.eval x = .slice (some ⟨W.heap.size, 0, none⟩) 1 1) (hu : u.oneCell' = true)
    (h63 : n + 1 ≤ maxLen) (hbytes : (n + 1) * bytes ≤ 140737488355328) (hbase : base ≤ W.heap.size)
    (h : ∀ (g c : Nat) (w' : World), w'.ownsRow base e 1 (.slice (some ⟨g, 0, none⟩) (n + 1) c) (n + 1) (xs ++ [u]) → W.grownBy w' v.ownBlock → wpList P ops Q rest (a.put o.dst (.slice (some ⟨g, 0, none⟩) (n + 1) c)) w') :
    wpList P ops Q (o :: rest) a (W.alloc (.cells #[u] e)) := by
  refine wpList_append_own (W.alloc (.cells #[u] e)) hgd s x t ho base e i z 1 bytes ht hi hz hsize hby hzs (by omega) v n xs hs (hown.alloc _) ⟨W.heap.size, 0, none⟩ 1 1 [u] hx rfl ?_ ?_ h63 hbytes (by simp; omega) ?_
  · intro j y hy
    match j, hy with
    | 0, hy => simp at hy; subst hy; exact World.cell?_alloc_mark W #[u] e (0, 0) 0
  · intro y hy; simp at hy; subst hy; exact hu
  · intro v' w' hown' hg _
    rcases hown'.2 with ⟨_, h0⟩ | ⟨g, c, cur, rfl, r⟩
    · omega
    · refine h g c w' hown' ⟨hg.os, hg.tape, hg.output, ?_, ?_⟩
      · have := hg.size; simp at this; omega
      · intro k hk hne
        rw [hg.block k (by simp; omega) hne]
        exact Below.heap_alloc W _ k hk

/-- what a slice of bytes of the call's own is as a string -/
theorem run_str_own {P : Program} {w : World} {base src dst e g cap : Nat} {l : List UInt8} (hs : P.underlying src = some (.slice e)) (he : P.underlying e = some (.int .u8)) (hd : P.underlying dst = some .string)
    (hown : w.ownsRow base e 1 (.slice (some ⟨g, 0, none⟩) l.length cap) l.length (bytesV l)) :
    (convert src dst (.slice (some ⟨g, 0, none⟩) l.length cap)).run P w = .ok (.string ⟨l.toArray⟩) w := by
  refine run_convert_bytes_back w src dst e ⟨g, 0, none⟩ cap l hs he hd ?_
  intro j hj
  have := hown.cellAt j (by omega)
  rw [bytesV_get l j hj] at this
  have e0 : (⟨g, 0, none⟩ : Addr).add j = ⟨g, j, none⟩ := by unfold Addr.add; split <;> simp_all
  rw [e0]; exact this

/-- two stores into one cell: the second stays -/
theorem setCell2 (w : World) (a : Addr) (v v' : Value) : (w.setCell a v).setCell a v' = w.setCell a v' := by
  unfold World.setCell
  congr 1
  apply Array.ext_getElem?
  intro i
  simp only [Array.getElem?_modify]
  split
  · cases w.heap[i]? with
    | none => rfl
    | some o =>
      cases o <;> simp
      split <;> simp
  · rfl

/-- the cells of a text that has just been turned into bytes -/
theorem cell_bytesRow (w : World) (s : ByteArray) (a c t : Nat) (fr : Nat × Nat) {b : Nat} (hb : b = s.size) (j : Nat) (hj : j < s.size - a) :
    (w.alloc (.cells (bytesRow (s.extract a b) c) t fr)).cell? ⟨w.heap.size, j, none⟩ = some (.int .u8 ((s[a + j]'(by omega)).toNat : Int)) := by
  subst hb
  have hs : j < (s.extract a s.size).data.size := by simp [ByteArray.size_data]; omega
  rw [World.cell?_alloc_mark, bytesRow_at _ _ j hs]
  simp [ByteArray.data_extract, Array.getElem_extract]
  rfl

end Go.Proofs.YtdlhmjdjoadioabGreatDoor
/- More laws of the walk that speak of no one program. -/
namespace Go.Proofs.YtdlhmjdjoadioabGreatDoor
open Go.RowKit

/-- one call behind another: what was there when the first one began has not turned -/
theorem bthen {w w1 w2 : World} (h : Below w.heap.size w w1) (k : Below w1.heap.size w1 w2) : Below w.heap.size w w2 := h.trans (k.mono h.size)

/-- the least of three lengths and 200 -/
theorem run_min4 {P : Program} (w : World) (ts : Array TypeId) (t : TypeId) (x y z : Nat) :
    (Builtin.min_ ts t #[.int .i64 (x : Int), .int .i64 (y : Int), .int .i64 (z : Int), .int .i64 200]).run P w = .ok (.int .i64 ((min (min (min x y) z) 200 : Nat) : Int)) w := by
  simp [Builtin.min_, Builtin.min2]
  repeat' split
  all_goals omega

end Go.Proofs.YtdlhmjdjoadioabGreatDoor
/- An append, to a slice of the call's own, of whatever source: a slice, a nil slice, a text. It speaks of no one program. -/
namespace Go.Proofs.YtdlhmjdjoadioabGreatDoor
open Go.RowKit

/-- a row of the call's own that is written behind its length: it owns what it owned, and what is new -/
theorem owns_room {w : World} {base g n m cap size e : Nat} {cur : Array Value} {xs news : List Value} (hg : w.heap[g]? = some (.cells cur e (0, 0))) (hb : base ≤ g) (hx : xs.length = n * size) (hn : news.length = m * size)
    (hroom : n + m ≤ cap) (hcm : cap ≤ maxLen) (hcs : cur.size = cap * size) (htake : cur.toList.take (n * size) = xs) :
    (w.setRow g (cur.toList.take (n * size) ++ news ++ cur.toList.drop (n * size + news.length)).toArray).ownsRow base e size (.slice (some ⟨g, 0, none⟩) (n + m) cap) (n + m) (xs ++ news) ∧
    w.grownBy (w.setRow g (cur.toList.take (n * size) ++ news ++ cur.toList.drop (n * size + news.length)).toArray) (some g) := by
  have hfit : n * size + news.length ≤ cur.size := by rw [hn, hcs, ← Nat.add_mul]; exact Nat.mul_le_mul_right _ hroom
  have hlen : (xs ++ news).length = (n + m) * size := by rw [List.length_append, hx, hn, Nat.add_mul]
  have hsize : (w.setRow g (cur.toList.take (n * size) ++ news ++ cur.toList.drop (n * size + news.length)).toArray).heap.size = w.heap.size := by simp [World.setRow]
  refine ⟨⟨hlen, .inr ⟨g, cap, _, rfl, hb, setRow_heap w g cur _ e _ hg, hroom, hcm, ?_, ?_⟩⟩, ⟨rfl, rfl, rfl, by rw [hsize]; exact Nat.le_refl _, fun k _ hk => setRow_other w g k _ (fun h => hk (by rw [h]))⟩⟩
  · rw [List.size_toArray, List.length_append, List.length_append, List.length_take, List.length_drop, Array.length_toList]; omega
  · rw [htake, ← hlen]; exact List.take_left
/-- a new row: it owns what was, and what is new -/
theorem owns_grow {w : World} {base n m c size e : Nat} {z : Value} {xs news : List Value} (hbase : base ≤ w.heap.size) (hx : xs.length = n * size) (hn : news.length = m * size) (hz : z.cells.size = size)
    (hc : n + m ≤ c) (hcm : c ≤ maxLen) (row : Option Nat) :
    (w.drew.alloc (.cells ((xs ++ news).toArray ++ Builtin.zeroCells z.cells (c - (n + m))) e)).ownsRow base e size (.slice (some ⟨w.heap.size, 0, none⟩) (n + m) c) (n + m) (xs ++ news) ∧
    w.grownBy (w.drew.alloc (.cells ((xs ++ news).toArray ++ Builtin.zeroCells z.cells (c - (n + m))) e)) row := by
  have hlen : (xs ++ news).length = (n + m) * size := by rw [List.length_append, hx, hn, Nat.add_mul]
  have hsz : w.drew.heap.size = w.heap.size := rfl
  refine ⟨⟨hlen, .inr ⟨w.heap.size, c, _, rfl, hbase, heap_alloc_new w.drew _, hc, hcm, ?_, ?_⟩⟩, ⟨rfl, rfl, rfl, ?_, fun k hk _ => Below.heap_alloc w.drew _ k hk⟩⟩
  · rw [Array.size_append, List.size_toArray, size_zeroCells, hz, hlen, ← Nat.add_mul]; congr 1; omega
  · rw [Array.toList_append, List.toList_toArray, ← hlen]; exact List.take_left
  · rw [World.size_alloc, hsz]; omega

theorem run_append_src {P : Program} (w : World) (base : Nat) (t tx ty e : TypeId) (i : TypeInfo) (z : Value) (bytes : Nat) (ht : P.underlying t = some (.slice e)) (hi : P.info? e = some i) (hz : i.zero = some z)
    (hby : i.bytes = bytes) (hzs : z.cells.size = i.size) (v : Value) (n : Nat) (xs : List Value) (hown : w.ownsRow base e i.size v n xs) (x : Value) (m : Nat) (news : List Value) (hs : Src P i.size tx x m news w)
    (h63 : n + m ≤ maxLen) (hbytes : (n + m) * bytes ≤ 140737488355328) (hbase : base ≤ w.heap.size) :
    ∃ v' w', (Builtin.append_ #[t, tx] ty #[v, x]).run P w = .ok v' w' ∧ w'.ownsRow base e i.size v' (n + m) (xs ++ news) ∧ w.grownBy w' v.ownBlock := by
  subst hby
  have h63' : ((n + m : Nat) : Int) ≤ 9223372036854775807 := by simp only [maxLen] at h63; omega
  rcases hown.2 with ⟨rfl, rfl⟩ | ⟨g, cap, cur, rfl, hbg, hg, hnc, hcm, hcs, htake⟩
  · obtain rfl : xs = [] := List.eq_nil_of_length_eq_zero (by simpa using hown.1)
    by_cases hm : m = 0
    · subst hm
      obtain rfl : news = [] := List.eq_nil_of_length_eq_zero (by simpa using hs.newsLen)
      refine ⟨.slice none 0 0, w, ?_, World.ownsRow_nil w base e i.size, ⟨rfl, rfl, rfl, Nat.le_refl _, fun _ _ _ => rfl⟩⟩
      have hc := hs.cells
      rcases hs.kind with ⟨e', hk⟩ | hk <;> simp [Builtin.append_, run_underlying ht, run_underlying hk, sizeOf, typeInfo, hi, hs.len, hc]
    · have hr := run_append_grow_src (P := P) w t tx ty e i z ht hi hz none 0 0 [] (by simp [Builtin.firstCells]) x m news hs (by omega) (by omega) (growslice_fits (by omega) (by omega))
      have ho := owns_grow (w := w) (base := base) (n := 0) (m := m) (c := grownCap w (0 + m) 0 e) (e := e) (xs := []) hbase (by simp) hs.newsLen hzs (grownCap_ge w (0 + m) 0 e) (grownCap_le_maxLen w (0 + m) 0 e h63) (Value.ownBlock (.slice none 0 0))
      exact ⟨_, _, hr, ho.1, ho.2⟩
  · by_cases hroom : n + m ≤ cap
    · have ho := owns_room (w := w) hg hbg hown.1 hs.newsLen hroom hcm hcs htake
      have hfit : n * i.size + news.length ≤ cur.size := by rw [hs.newsLen, hcs, ← Nat.add_mul]; exact Nat.mul_le_mul_right _ hroom
      have hst := run_storeCells_at P g (n * i.size) e news 0 cur w hg (by simpa using hfit) hs.one
      simp only [Nat.add_zero] at hst
      refine ⟨_, _, ?_, ho.1, ho.2⟩
      rcases hs.kind with ⟨e', hk⟩ | hk <;> simp [Builtin.append_, run_underlying ht, run_underlying hk, sizeOf, typeInfo, hi, hs.len, hroom, hs.cells, Addr.add_lit, hst]
    · have holds : (Builtin.firstCells i.size n (.slice (some ⟨g, 0, none⟩) n cap)).run P w.drew = .ok xs.toArray w.drew :=
        run_firstCells_some w.drew i.size n ⟨g, 0, none⟩ n cap xs hown.1 (by simpa using hown.cells (g := g) rfl)
      have hr := run_append_grow_src (P := P) w t tx ty e i z ht hi hz (some ⟨g, 0, none⟩) n cap xs holds x m news hs (by omega) h63' (growslice_fits (by omega) hbytes)
      have ho := owns_grow (w := w) (base := base) (n := n) (m := m) (c := grownCap w (n + m) cap e) (e := e) hbase hown.1 hs.newsLen hzs (grownCap_ge w (n + m) cap e) (grownCap_le_maxLen w (n + m) cap e h63) (Value.ownBlock (.slice (some ⟨g, 0, none⟩) n cap))
      exact ⟨_, _, hr, ho.1, ho.2⟩

theorem wpList_append_src {P : Program} (w : World) {ops : Array Oper} {rest : List Oper} {o : Oper} {a : Act} {Q : Exit → Act → World → Prop} (hgd : o.guard = none) (s x : Operand) (t tx : TypeId)
    (ho : o.op = .call { callee := .builtin .append, args := #[s, x], argTypes := #[t, tx] })
    (base : Nat) (e : TypeId) (i : TypeInfo) (z : Value) (size bytes : Nat) (ht : P.underlying t = some (.slice e)) (hi : P.info? e = some i) (hz : i.zero = some z) (hsize : i.size = size)
    (hby : i.bytes = bytes) (hzs : z.cells.size = size) (v : Value) (n : Nat) (xs : List Value) (hs : a.eval s = v) (hown : w.ownsRow base e size v n xs) (xv : Value) (m : Nat) (news : List Value) (hx : a.eval x = xv) (hsrc : Src P size tx xv m news w)
    (h63 : n + m ≤ maxLen) (hbytes : (n + m) * bytes ≤ 140737488355328) (hbase : base ≤ w.heap.size)
    (h : ∀ v' w', w'.ownsRow base e size v' (n + m) (xs ++ news) → w.grownBy w' v.ownBlock → wpList P ops Q rest (a.put o.dst v') w') : wpList P ops Q (o :: rest) a w := by
  subst hsize
  refine wpList_plain hgd fun K hK => ?_
  obtain ⟨v', w', hr, h2, h3⟩ := run_append_src (P := P) w base t tx o.type e i z bytes ht hi hz hby hzs v n xs hown xv m news hsrc h63 hbytes hbase
  unfold Oper.wp execOp
  simp only [ho, resolve, invoke, builtin, Sem.run_bind, Sem.run_pure, Result.andThen_ok, List.map_toArray, List.map_cons, List.map_nil, hs, hx, hr]
  exact hK _ _ (h v' w' h2 h3)

end Go.Proofs.YtdlhmjdjoadioabGreatDoor
