/- Targets: rows of them that a call makes, and what such a call leaves as it was. -/
import Derived.Test.YtolbhhokpelchabDoorRteM
import Derived.Test.YtolbhhokpelchabDoorLib
namespace Go.Proofs.YtolbhhokpelchabDoor
open Go.RowKit

/-- a target: its path, and its route with the places of its lists -/
abbrev TgtAt := ByteArray × RtAt
def tgV (t : TgtAt) : List Value :=
  [.string t.1, .string t.2.n.recv, .slice t.2.ma t.2.n.ms.length t.2.mc, .slice t.2.ba t.2.n.bys.length t.2.bc, .int .i64 t.2.n.wait, .int .i64 t.2.n.every, .int .i64 t.2.n.rep, .slice t.2.ua t.2.n.mute.length t.2.uc, .bool t.2.n.on, .slice t.2.ka t.2.n.kids.length t.2.kc]
def tgsV (ts : List TgtAt) : List Value := ts.flatMap tgV
theorem tgsV_len : ∀ (ts : List TgtAt), (tgsV ts).length = ts.length * 10
  | [] => rfl
  | t :: ts => by
    have ih := tgsV_len ts
    have e : tgsV (t :: ts) = tgV t ++ tgsV ts := rfl
    rw [e, List.length_append, ih, List.length_cons]
    show 10 + _ = _
    omega
theorem tgsV_app (a b : List TgtAt) : tgsV (a ++ b) = tgsV a ++ tgsV b := by simp [tgsV]
theorem tgV_one (t : TgtAt) : ∀ u ∈ tgV t, u.oneCell' = true := by
  intro u hu
  simp only [tgV, List.mem_cons, List.not_mem_nil, or_false] at hu
  rcases hu with rfl | rfl | rfl | rfl | rfl | rfl | rfl | rfl | rfl | rfl <;> rfl
theorem tgsV_get : ∀ (ts : List TgtAt) (i : Nat) (h : i < ts.length) (j : Nat), j < 10 → (tgsV ts)[i * 10 + j]? = (tgV ts[i])[j]?
  | t :: ts, 0, _, j, hj => by
    have e : tgsV (t :: ts) = tgV t ++ tgsV ts := rfl
    rw [e, Nat.zero_mul, Nat.zero_add, List.getElem?_append_left (show j < (tgV t).length from hj)]
    rfl
  | t :: ts, i + 1, h, j, hj => by
    have e : tgsV (t :: ts) = tgV t ++ tgsV ts := rfl
    have ih := tgsV_get ts i (by simpa using h) j hj
    rw [e, List.getElem?_append_right (show (tgV t).length ≤ _ by show 10 ≤ _; omega), show (i + 1) * 10 + j - (tgV t).length = i * 10 + j by show _ - 10 = _; omega, ih]
    rfl

/-- v is the call's own slice of the targets ts -/
def OwnT (w : World) (base : Nat) (v : Value) (ts : List TgtAt) : Prop := w.ownsRow base 42 10 v ts.length (tgsV ts)
theorem OwnT.call {w w1 : World} {base : Nat} {v : Value} {l : List TgtAt} (h : OwnT w base v l) (hb : Below w.heap.size w w1) : OwnT w1 base v l :=
  World.ownsRow.kept h (row := none) ⟨hb.os, hb.tape, hb.output, hb.size, fun k hk _ => hb.block k hk⟩ (by cases v.ownBlock <;> simp)
theorem OwnT.alloc {w : World} {base : Nat} {v : Value} {l : List TgtAt} (h : OwnT w base v l) (o : Obj) : OwnT (w.alloc o) base v l := World.ownsRow.alloc h o
theorem OwnT.nil (w : World) (base : Nat) : OwnT w base (.slice none 0 0) [] := World.ownsRow_nil _ _ _ _
theorem OwnT.slice {w : World} {base : Nat} {v : Value} {l : List TgtAt} (h : OwnT w base v l) : ∃ a c, v = .slice a l.length c ∧ l.length ≤ c ∧ c ≤ maxLen := by
  rcases h.2 with ⟨rfl, h0⟩ | ⟨g, cap, cur, rfl, hb, hg, hn, hm, hcs, ht⟩
  · exact ⟨none, 0, by rw [h0], by omega, by unfold maxLen; omega⟩
  · exact ⟨_, cap, rfl, hn, hm⟩
/-- the row's own block is of that type -/
theorem OwnT.type {w : World} {base : Nat} {v : Value} {l : List TgtAt} (h : OwnT w base v l) {k : Nat} (hk : v.ownBlock = some k) : ∃ cs fr, w.heap[k]? = some (.cells cs 42 fr) := by
  rcases h.2 with ⟨rfl, h0⟩ | ⟨g, cap, cur, rfl, hb, hg, hn, hm, hcs, ht⟩
  · cases hk
  · obtain rfl : g = k := by simpa [Value.ownBlock] using hk
    exact ⟨_, _, hg⟩

/-- what calls that push targets leave as it was: all but the captured row's cell (block f), and, of what is younger than base, rows of targets -/
structure FrT (f base : Nat) (w w' : World) : Prop where
  os : w'.os = w.os
  tape : w'.tape = w.tape
  output : w'.output = w.output
  size : w.heap.size ≤ w'.heap.size
  old : ∀ k, k < base → k ≠ f → w'.heap[k]? = w.heap[k]?
  oth : ∀ k, k < w.heap.size → k ≠ f → (∀ cs fr, w.heap[k]? ≠ some (.cells cs 42 fr)) → w'.heap[k]? = w.heap[k]?
theorem FrT.refl (f base : Nat) (w : World) : FrT f base w w := ⟨rfl, rfl, rfl, Nat.le_refl _, fun _ _ _ => rfl, fun _ _ _ _ => rfl⟩
theorem FrT.trans {f base : Nat} {w w1 w2 : World} (h : FrT f base w w1) (k : FrT f base w1 w2) : FrT f base w w2 :=
  ⟨k.os.trans h.os, k.tape.trans h.tape, k.output.trans h.output, Nat.le_trans h.size k.size, fun i hi hn => (k.old i hi hn).trans (h.old i hi hn), fun i hi hn ht => by
    have e := h.oth i hi hn ht
    exact (k.oth i (Nat.lt_of_lt_of_le hi h.size) hn (fun cs fr => by rw [e]; exact ht cs fr)).trans e⟩
theorem FrT.of {f base : Nat} {w w' : World} (hb : Below w.heap.size w w') (hB : base ≤ w.heap.size) : FrT f base w w' :=
  ⟨hb.os, hb.tape, hb.output, hb.size, fun k hk _ => hb.block k (by omega), fun k hk _ _ => hb.block k hk⟩
theorem FrT.grown {f base : Nat} {w w' : World} {v : Value} {l : List TgtAt} (h : OwnT w base v l) (hg : w.grownBy w' v.ownBlock) (hB : base ≤ w.heap.size) : FrT f base w w' :=
  ⟨hg.os, hg.tape, hg.output, hg.size, fun k hk _ => hg.block k (by omega) (fun e => by have := (World.ownsRow.lt h k e.symm).1; omega), fun k hk _ ht => hg.block k hk (fun e => by
    obtain ⟨cs, fr, e2⟩ := h.type e.symm
    exact ht cs fr e2)⟩
theorem FrT.set {f base : Nat} {w w' : World} (h : FrT f base w w') (i : Nat) (u : Value) : FrT f base w (w'.setCell ⟨f, i, none⟩ u) :=
  ⟨h.os, h.tape, h.output, by simpa [World.setCell] using h.size, fun k hk hne => (Below.heap_setCell w' ⟨f, i, none⟩ u k hne).trans (h.old k hk hne), fun k hk hne ht => (Below.heap_setCell w' ⟨f, i, none⟩ u k hne).trans (h.oth k hk hne ht)⟩
theorem FrT.below {f base : Nat} {w w' : World} (h : FrT f base w w') (hf : base ≤ f) : Below base w w' := ⟨h.os, h.tape, h.output, h.size, fun k hk => h.old k hk (by omega)⟩
theorem FrT.blk {f base : Nat} {w w' : World} (h : FrT f base w w') {k : Nat} {t : TypeId} {cs : Array Value} (hk : Blk w k t cs) (hne : k ≠ f) (ht : t ≠ 42) : Blk w' k t cs :=
  (h.oth k hk.lt hne (fun cs' fr e => by rw [show w.heap[k]? = some (.cells cs t (0, 0)) from hk] at e; simp at e; exact ht e.2.1)).trans hk
/-- a store into the captured cell leaves the row -/
theorem OwnT.setF {w : World} {base f : Nat} {v : Value} {l : List TgtAt} {t : TypeId} {cs : Array Value} (h : OwnT w base v l) (hF : Blk w f t cs) (ht : t ≠ 42) (i : Nat) (u : Value) : OwnT (w.setCell ⟨f, i, none⟩ u) base v l := by
  refine World.ownsRow.kept h (row := some f) ⟨rfl, rfl, rfl, by simp [World.setCell], fun k _ hne => Below.heap_setCell w ⟨f, i, none⟩ u k (fun e => hne (by rw [e]))⟩ ?_
  refine .inr fun e => ?_
  obtain ⟨cs', fr, e2⟩ := h.type e
  rw [show w.heap[f]? = some (.cells cs t (0, 0)) from hF] at e2
  simp at e2
  exact ht e2.2.1
/-- a row's block is not one of another type -/
theorem OwnT.ne {w : World} {base f : Nat} {v : Value} {l : List TgtAt} {t : TypeId} {cs : Array Value} (h : OwnT w base v l) (hF : Blk w f t cs) (ht : t ≠ 42) : some f ≠ v.ownBlock := fun e => by
  obtain ⟨cs', fr, e2⟩ := h.type e.symm
  rw [show w.heap[f]? = some (.cells cs t (0, 0)) from hF] at e2
  simp at e2
  exact ht e2.2.1

abbrev tgZ : Value := .agg #[.string ⟨#[]⟩, .string ⟨#[]⟩, .slice none 0 0, .slice none 0 0, .int .i64 0, .int .i64 0, .int .i64 0, .slice none 0 0, .bool false, .slice none 0 0]
theorem Tryd.infoT : (Tryd.prog.info? 42).map (fun i => (i.zero, i.size, i.bytes)) = some (some tgZ, 10, 160) := by kernel_rfl
theorem info_partsT {x : Option TypeInfo} (h : x.map (fun i => (i.zero, i.size, i.bytes)) = some (some tgZ, 10, 160)) : ∃ i, x = some i ∧ i.zero = some tgZ ∧ i.size = 10 ∧ i.bytes = 160 := by
  cases x with
  | none => cases h
  | some i => simp at h; exact ⟨i, rfl, h.1, h.2.1, h.2.2⟩
theorem wpList_pushT {P : Program} (W : World) {ops : Array Oper} {rest : List Oper} {o : Oper} {a : Act} {Q : Exit → Act → World → Prop} (hgd : o.guard = none) (s x : Operand) (t : TypeId)
    (ho : o.op = .call { callee := .builtin .append, args := #[s, x], argTypes := #[t, t] })
    (base : Nat) (i : TypeInfo) (z : Value) (ht : P.underlying t = some (.slice 42)) (hi : P.info? 42 = some i) (hz : i.zero = some z) (hsize : i.size = 10) (hby : i.bytes = 160) (hzs : z.cells.size = 10)
    (v : Value) (ls : List TgtAt) (l : TgtAt) (hs : a.eval s = v) (hown : OwnT W base v ls) (us : List Value) (hus : us = tgV l)
    (hx : a.eval x = .slice (some ⟨W.heap.size, 0, none⟩) 1 1) (h63 : ls.length ≤ 1000000) (hbase : base ≤ W.heap.size)
    (h : ∀ (v' : Value) (w' : World), OwnT w' base v' (ls ++ [l]) → W.grownBy w' v.ownBlock → wpList P ops Q rest (a.put o.dst v') w') :
    wpList P ops Q (o :: rest) a (W.alloc (.cells us.toArray 42)) := by
  subst hus
  refine wpList_append_own (W.alloc (.cells (tgV l).toArray 42)) hgd s x t ho base 42 i z 10 160 ht hi hz hsize hby hzs (by omega) v ls.length (tgsV ls) hs (World.ownsRow.alloc hown _) ⟨W.heap.size, 0, none⟩ 1 1 (tgV l) hx (by rfl) ?_ ?_ (by unfold maxLen; omega) (by omega) (by simp; omega) ?_
  · intro j y hy
    have e0 : (⟨W.heap.size, 0, none⟩ : Addr).add j = ⟨W.heap.size, j, none⟩ := by unfold Addr.add; split <;> simp_all
    rw [e0]
    rw [show (W.alloc (.cells (tgV l).toArray 42)).cell? ⟨W.heap.size, j, none⟩ = _ from World.cell?_alloc_mark W (tgV l).toArray 42 (0, 0) j]
    simpa using hy
  · exact tgV_one l
  · intro v' w' hown' hg _
    refine h v' w' ?_ ⟨hg.os, hg.tape, hg.output, ?_, ?_⟩
    · unfold OwnT
      rw [tgsV_app, List.length_append, show tgsV [l] = tgV l by simp [tgsV]]
      exact hown'
    · have := hg.size; simp at this; omega
    · intro k hk hne
      rw [hg.block k (by simp; omega) hne]
      exact Below.heap_alloc W _ k hk
end Go.Proofs.YtolbhhokpelchabDoor
