/- A node that a call builds: its names and items in rows of the call's own. -/
import Derived.Test.YtolbhhokpelchaaDoorOtlF
import Derived.Test.YtolbhhokpelchaaDoorOtlB
import Derived.Maps.AppendAt
namespace Go.Proofs.YtolbhhokpelchaaDoor
open Go.RowKit

/-- where a row that was appended to lies: where it lay, or in a new block -/
def RowLies (v v' : Value) (B : Nat) : Prop := v'.ownBlock = v.ownBlock ∨ ∃ g, v'.ownBlock = some g ∧ B ≤ g
theorem wpList_pushNA {P : Program} (W : World) {ops : Array Oper} {rest : List Oper} {o : Oper} {a : Act} {Q : Exit → Act → World → Prop} (hgd : o.guard = none) (s x : Operand) (t : TypeId)
    (ho : o.op = .call { callee := .builtin .append, args := #[s, x], argTypes := #[t, t] })
    (base : Nat) (i : TypeInfo) (z : Value) (ht : P.underlying t = some (.slice 25)) (hi : P.info? 25 = some i) (hz : i.zero = some z) (hsize : i.size = 4) (hby : i.bytes = 72) (hzs : z.cells.size = 4)
    (v : Value) (ls : List NdAt) (l : NdAt) (hs : a.eval s = v) (hown : OwnN W base v ls) (us : List Value) (hus : us = ndV l)
    (hx : a.eval x = .slice (some ⟨W.heap.size, 0, none⟩) 1 1) (h63 : ls.length ≤ 1000000) (hbase : base ≤ W.heap.size)
    (h : ∀ (ia : Option Addr) (ic : Nat) (w' : World), OwnN w' base (.slice ia (ls.length + 1) ic) (ls ++ [l]) → W.grownBy w' v.ownBlock → RowLies v (.slice ia (ls.length + 1) ic) W.heap.size → wpList P ops Q rest (a.put o.dst (.slice ia (ls.length + 1) ic)) w') :
    wpList P ops Q (o :: rest) a (W.alloc (.cells us.toArray 25)) := by
  subst hus
  refine wpList_append_own_at (W.alloc (.cells (ndV l).toArray 25)) hgd s x t ho base 25 i z 4 72 ht hi hz hsize hby hzs (by omega) v ls.length (ndsV ls) hs (World.ownsRow.alloc hown _) ⟨W.heap.size, 0, none⟩ 1 1 (ndV l) hx (by rfl) ?_ ?_ (by unfold maxLen; omega) (by omega) (by simp; omega) ?_
  · intro j y hy
    have e0 : (⟨W.heap.size, 0, none⟩ : Addr).add j = ⟨W.heap.size, j, none⟩ := by unfold Addr.add; split <;> simp_all
    rw [e0]
    rw [show (W.alloc (.cells (ndV l).toArray 25)).cell? ⟨W.heap.size, j, none⟩ = _ from World.cell?_alloc_mark W (ndV l).toArray 25 (0, 0) j]
    simpa using hy
  · exact ndV_one l
  · intro v' w' hown' hg _ hat
    have ho : OwnN w' base v' (ls ++ [l]) := by
      unfold OwnN
      rw [ndsV_app, List.length_append, show ndsV [l] = ndV l by simp [ndsV]]
      exact hown'
    obtain ⟨ia, ic, rfl, _, _⟩ := ho.slice
    rw [List.length_append, List.length_singleton] at ho hat ⊢
    refine h ia ic w' ho ⟨hg.os, hg.tape, hg.output, ?_, ?_⟩ (hat.imp id fun e => ⟨_, e, by simp⟩)
    · have := hg.size; simp at this; omega
    · intro k hk hne
      rw [hg.block k (by simp; omega) hne]
      exact Below.heap_alloc W _ k hk
theorem wpList_pushSA {P : Program} (W : World) {ops : Array Oper} {rest : List Oper} {o : Oper} {a : Act} {Q : Exit → Act → World → Prop} (hgd : o.guard = none) (s x : Operand) (t : TypeId)
    (ho : o.op = .call { callee := .builtin .append, args := #[s, x], argTypes := #[t, t] })
    (base : Nat) (i : TypeInfo) (z : Value) (ht : P.underlying t = some (.slice 9)) (hi : P.info? 9 = some i) (hz : i.zero = some z) (hsize : i.size = 1) (hby : i.bytes = 16) (hzs : z.cells.size = 1)
    (v : Value) (ls : List ByteArray) (l : ByteArray) (hs : a.eval s = v) (hown : OwnS 9 W base v ls) (hx : a.eval x = .slice (some ⟨W.heap.size, 0, none⟩) 1 1) (h63 : ls.length ≤ 1000000) (hbase : base ≤ W.heap.size)
    (h : ∀ (na : Option Addr) (nc : Nat) (w' : World), OwnS 9 w' base (.slice na (ls.length + 1) nc) (ls ++ [l]) → W.grownBy w' v.ownBlock → RowLies v (.slice na (ls.length + 1) nc) W.heap.size → wpList P ops Q rest (a.put o.dst (.slice na (ls.length + 1) nc)) w') :
    wpList P ops Q (o :: rest) a (W.alloc (.cells #[.string l] 9)) := by
  refine wpList_append_own_at (W.alloc (.cells (strsV [l]).toArray 9)) hgd s x t ho base 9 i z 1 16 ht hi hz hsize hby hzs (by omega) v ls.length (strsV ls) hs (World.ownsRow.alloc hown _) ⟨W.heap.size, 0, none⟩ 1 1 (strsV [l]) hx (by rfl) ?_ (strsV_one _) (by unfold maxLen; omega) (by omega) (by simp; omega) ?_
  · intro j y hy
    have e0 : (⟨W.heap.size, 0, none⟩ : Addr).add j = ⟨W.heap.size, j, none⟩ := by unfold Addr.add; split <;> simp_all
    rw [e0]
    rw [show (W.alloc (.cells (strsV [l]).toArray 9)).cell? ⟨W.heap.size, j, none⟩ = _ from World.cell?_alloc_mark W (strsV [l]).toArray 9 (0, 0) j]
    simpa using hy
  · intro v' w' hown' hg _ hat
    have ho : OwnS 9 w' base v' (ls ++ [l]) := by
      unfold OwnS
      rw [← strsV_push, List.length_append]
      exact hown'
    obtain ⟨na, nc, e⟩ : ∃ a c, v' = .slice a (ls.length + 1) c := by
      rcases ho.2 with ⟨_, h0⟩ | ⟨g, cap, cur, e, _⟩
      · simp at h0
      · exact ⟨_, _, by rw [e, List.length_append]; rfl⟩
    subst e
    refine h na nc w' ho ⟨hg.os, hg.tape, hg.output, ?_, ?_⟩ (hat.imp id fun e => ⟨_, e, by simp⟩)
    · have := hg.size; simp at this; omega
    · intro k hk hne
      rw [hg.block k (by simp; omega) hne]
      exact Below.heap_alloc W _ k hk

/-- a node that is built in block g: its names and items lie in rows of the call's own, from block B on, and its items in other blocks -/
structure NodeAt (w : World) (B g : Nat) (kind : Int) (names : List ByteArray) (qs : List NdAt) (na : Option Addr) (nc : Nat) (ia : Option Addr) (ic : Nat) : Prop where
  blk : Blk w g 25 #[.int .i64 kind, .string ⟨#[]⟩, .slice na names.length nc, .slice ia qs.length ic]
  names_ : OwnS 9 w B (.slice na names.length nc) names
  items : OwnN w B (.slice ia qs.length ic) qs
  sizes : ∀ s ∈ names, s.size ≤ maxLen
  inn : ∀ q ∈ qs, q.inn (fun b => B ≤ b ∧ b < w.heap.size ∧ some b ≠ (Value.slice na names.length nc).ownBlock ∧ some b ≠ (Value.slice ia qs.length ic).ownBlock) w
theorem ownS_ge {T : TypeId} {w : World} {B : Nat} {v : Value} {ss : List ByteArray} (h : OwnS T w B v ss) {g : Nat} (e : v.ownBlock = some g) : B ≤ g ∧ g < w.heap.size := World.ownsRow.lt h g e
theorem ownN_ge {w : World} {B : Nat} {v : Value} {qs : List NdAt} (h : OwnN w B v qs) {g : Nat} (e : v.ownBlock = some g) : B ≤ g ∧ g < w.heap.size := World.ownsRow.lt h g e
theorem OwnS.far {T : TypeId} {w w1 : World} {B : Nat} {v : Value} {ss : List ByteArray} (h : OwnS T w B v ss) (_ho : w1.os = w.os) (_ht : w1.tape = w.tape) (_hu : w1.output = w.output) (_hz : w.heap.size ≤ w1.heap.size) (hb : ∀ k, B ≤ k → k < w.heap.size → w1.heap[k]? = w.heap[k]?) : OwnS T w1 B v ss := by
  obtain ⟨h1, h2⟩ := h
  refine ⟨h1, ?_⟩
  rcases h2 with h2 | ⟨g, cap, cur, hv, hg, hh, r⟩
  · exact .inl h2
  · exact .inr ⟨g, cap, cur, hv, hg, (hb g hg (lt_of_block hh)).trans hh, r⟩
theorem OwnN.far {w w1 : World} {B : Nat} {v : Value} {qs : List NdAt} (h : OwnN w B v qs) (hb : ∀ k, B ≤ k → k < w.heap.size → w1.heap[k]? = w.heap[k]?) : OwnN w1 B v qs := by
  obtain ⟨h1, h2⟩ := h
  refine ⟨h1, ?_⟩
  rcases h2 with h2 | ⟨g, cap, cur, hv, hg, hh, r⟩
  · exact .inl h2
  · exact .inr ⟨g, cap, cur, hv, hg, (hb g hg (lt_of_block hh)).trans hh, r⟩
/-- nothing from block B on, and not its own block, has turned -/
theorem NodeAt.far {w w1 : World} {B g : Nat} {kind : Int} {names : List ByteArray} {qs : List NdAt} {na ia : Option Addr} {nc ic : Nat} (h : NodeAt w B g kind names qs na nc ia ic) (ho : w1.os = w.os) (ht : w1.tape = w.tape) (hu : w1.output = w.output) (hz : w.heap.size ≤ w1.heap.size)
    (hg : w1.heap[g]? = w.heap[g]?) (hb : ∀ k, B ≤ k → k < w.heap.size → w1.heap[k]? = w.heap[k]?) : NodeAt w1 B g kind names qs na nc ia ic :=
  ⟨hg.trans h.blk, h.names_.far ho ht hu hz hb, h.items.far hb, h.sizes, fun q hq => ((h.inn q hq).keep hz fun b hb' => hb b hb'.1 hb'.2.1).mono fun _b hb' => ⟨hb'.1, Nat.lt_of_lt_of_le hb'.2.1 hz, hb'.2.2⟩⟩
theorem NodeAt.fr {w w1 : World} {pb B g : Nat} {kind : Int} {names : List ByteArray} {qs : List NdAt} {na ia : Option Addr} {nc ic : Nat} (h : NodeAt w B g kind names qs na nc ia ic) (hf : FrP pb w w1) (hgp : g ≠ pb) (hpB : pb < B) : NodeAt w1 B g kind names qs na nc ia ic :=
  h.far hf.os hf.tape hf.output hf.size (hf.blk g h.blk.lt hgp) fun k hk hl => hf.blk k hl (by omega)
/-- what it is as a node -/
theorem NodeAt.node {w : World} {B g : Nat} {kind : Int} {names : List ByteArray} {qs : List NdAt} {na ia : Option Addr} {nc ic : Nat} (h : NodeAt w B g kind names qs na nc ia ic) (hk : (Lit.int .i64 kind).wf = true) :
    NdAt.inn (fun b => B ≤ b ∧ b < w.heap.size) w ⟨.mk kind ⟨#[]⟩ names (qs.map (·.n)), na, nc, ia, ic⟩ := by
  obtain ⟨a, c, e, hs⟩ := h.names_.strs h.sizes
  simp only [Value.slice.injEq] at e
  obtain ⟨rfl, _, rfl⟩ := e
  refine OwnN.inn h.items hs (fun hne b o s e => ?_) (fun b e => ownN_ge h.items e) (by show (0 : Nat) ≤ maxLen; omega) hk fun q hq => (h.inn q hq).mono fun b hb => ⟨hb.1, hb.2.1⟩
  have : (Value.slice na names.length nc).ownBlock = some b := by rw [e]; rfl
  exact ownS_ge h.names_ this
/-- with one name more -/
theorem NodeAt.pushName {w W w2 : World} {B g : Nat} {kind : Int} {names : List ByteArray} {qs : List NdAt} {na na' ia : Option Addr} {nc nc' ic : Nat} {s : ByteArray} (h : NodeAt w B g kind names qs na nc ia ic) (hW : Below w.heap.size w W) (hgB : g < B)
    (ho : OwnS 9 w2 B (.slice na' (names.length + 1) nc') (names ++ [s])) (hg : W.grownBy w2 (Value.slice na names.length nc).ownBlock) (hl : RowLies (.slice na names.length nc) (.slice na' (names.length + 1) nc') W.heap.size) (hs : s.size ≤ maxLen) :
    NodeAt (w2.setCell ⟨g, 2, none⟩ (.slice na' (names.length + 1) nc')) B g kind (names ++ [s]) qs na' nc' ia ic := by
  have hfr : FrP g w W := FrP.of hW
  have hk : ∀ k, k < w.heap.size → some k ≠ (Value.slice na names.length nc).ownBlock → w2.heap[k]? = w.heap[k]? := fun k hk hn => (hg.block k (Nat.lt_of_lt_of_le hk hW.size) hn).trans (hW.block k hk)
  have hne : some g ≠ (Value.slice na names.length nc).ownBlock := fun e => by have := (ownS_ge h.names_ e.symm).1; omega
  have hz : w.heap.size ≤ w2.heap.size := Nat.le_trans hW.size hg.size
  have hb2 : Blk w2 g 25 #[.int .i64 kind, .string ⟨#[]⟩, .slice na names.length nc, .slice ia qs.length ic] := (hk g h.blk.lt hne).trans h.blk
  have hset := hb2.set 2 (.slice na' (names.length + 1) nc')
  have hsz : (w2.setCell ⟨g, 2, none⟩ (.slice na' (names.length + 1) nc')).heap.size = w2.heap.size := by simp [World.setCell]
  have hfar : ∀ k, B ≤ k → (w2.setCell ⟨g, 2, none⟩ (.slice na' (names.length + 1) nc')).heap[k]? = w2.heap[k]? := fun k hk => Below.heap_setCell w2 ⟨g, 2, none⟩ _ k (by show k ≠ g; omega)
  have hni : ∀ k, (Value.slice ia qs.length ic).ownBlock = some k → some k ≠ (Value.slice na names.length nc).ownBlock := fun k e e2 => by
    rcases OwnN.neS h.items h.names_ with h1 | h1
    · rw [h1] at e; cases e
    · exact h1 (e.trans e2)
  refine ⟨?_, ?_, ?_, ?_, fun q hq => ?_⟩
  · rw [List.length_append, List.length_singleton]
    exact hset
  · rw [List.length_append, List.length_singleton]
    exact OwnS.far ho rfl rfl rfl (by rw [hsz]; exact Nat.le_refl _) fun k hk _ => hfar k hk
  · obtain ⟨h1, h2⟩ := h.items
    refine ⟨h1, ?_⟩
    rcases h2 with h2 | ⟨k, cap, cur, hv, hkB, hh, r⟩
    · exact .inl h2
    · refine .inr ⟨k, cap, cur, hv, hkB, ?_, r⟩
      rw [hfar k hkB, hk k (lt_of_block hh) (hni k (by rw [hv]; rfl))]
      exact hh
  · intro x hx
    rcases List.mem_append.1 hx with hx | hx
    · exact h.sizes x hx
    · rw [List.mem_singleton] at hx; rw [hx]; exact hs
  · rw [List.length_append, List.length_singleton]
    refine ((h.inn q hq).keep (by rw [hsz]; exact hz) fun b hb => ?_).mono fun b hb => ⟨hb.1, by rw [hsz]; omega, fun e => ?_, hb.2.2.2⟩
    · rw [hfar b hb.1]
      exact hk b hb.2.1 hb.2.2.1
    · rcases hl with hl | ⟨k, hl, hlk⟩
      · exact hb.2.2.1 (e.trans hl)
      · rw [hl] at e
        cases e
        have := hW.size; omega
/-- with one item more, that lies in blocks of its own -/
theorem NodeAt.pushItem {w W w2 : World} {B g : Nat} {kind : Int} {names : List ByteArray} {qs : List NdAt} {na ia ia' : Option Addr} {nc ic ic' : Nat} {q0 : NdAt} (h : NodeAt w B g kind names qs na nc ia ic) (hW : Below w.heap.size w W) (hgB : g < B)
    (ho : OwnN w2 B (.slice ia' (qs.length + 1) ic') (qs ++ [q0])) (hg : W.grownBy w2 (Value.slice ia qs.length ic).ownBlock) (hl : RowLies (.slice ia qs.length ic) (.slice ia' (qs.length + 1) ic') W.heap.size)
    (hq0 : q0.inn (fun b => B ≤ b ∧ b < w.heap.size ∧ some b ≠ (Value.slice na names.length nc).ownBlock ∧ some b ≠ (Value.slice ia qs.length ic).ownBlock) w) :
    NodeAt (w2.setCell ⟨g, 3, none⟩ (.slice ia' (qs.length + 1) ic')) B g kind names (qs ++ [q0]) na nc ia' ic' := by
  have hk : ∀ k, k < w.heap.size → some k ≠ (Value.slice ia qs.length ic).ownBlock → w2.heap[k]? = w.heap[k]? := fun k hk hn => (hg.block k (Nat.lt_of_lt_of_le hk hW.size) hn).trans (hW.block k hk)
  have hne : some g ≠ (Value.slice ia qs.length ic).ownBlock := fun e => by have := (ownN_ge h.items e.symm).1; omega
  have hz : w.heap.size ≤ w2.heap.size := Nat.le_trans hW.size hg.size
  have hb2 : Blk w2 g 25 #[.int .i64 kind, .string ⟨#[]⟩, .slice na names.length nc, .slice ia qs.length ic] := (hk g h.blk.lt hne).trans h.blk
  have hset := hb2.set 3 (.slice ia' (qs.length + 1) ic')
  have hsz : (w2.setCell ⟨g, 3, none⟩ (.slice ia' (qs.length + 1) ic')).heap.size = w2.heap.size := by simp [World.setCell]
  have hfar : ∀ k, B ≤ k → (w2.setCell ⟨g, 3, none⟩ (.slice ia' (qs.length + 1) ic')).heap[k]? = w2.heap[k]? := fun k hk => Below.heap_setCell w2 ⟨g, 3, none⟩ _ k (by show k ≠ g; omega)
  have hni : ∀ k, (Value.slice na names.length nc).ownBlock = some k → some k ≠ (Value.slice ia qs.length ic).ownBlock := fun k e e2 => by
    rcases OwnN.neS h.items h.names_ with h1 | h1
    · rw [h1] at e2; cases e2
    · exact h1 (e2.symm.trans e.symm)
  refine ⟨?_, ?_, ?_, h.sizes, fun q hq => ?_⟩
  · rw [List.length_append, List.length_singleton]
    exact hset
  · obtain ⟨h1, h2⟩ := h.names_
    refine ⟨h1, ?_⟩
    rcases h2 with h2 | ⟨k, cap, cur, hv, hkB, hh, r⟩
    · exact .inl h2
    · refine .inr ⟨k, cap, cur, hv, hkB, ?_, r⟩
      rw [hfar k hkB, hk k (lt_of_block hh) (hni k (by rw [hv]; rfl))]
      exact hh
  · rw [List.length_append, List.length_singleton]
    exact OwnN.far ho fun k hk _ => hfar k hk
  · rw [List.length_append, List.length_singleton]
    have hq' : q.inn (fun b => B ≤ b ∧ b < w.heap.size ∧ some b ≠ (Value.slice na names.length nc).ownBlock ∧ some b ≠ (Value.slice ia qs.length ic).ownBlock) w := by
      rcases List.mem_append.1 hq with hq | hq
      · exact h.inn q hq
      · rw [List.mem_singleton] at hq; rw [hq]; exact hq0
    refine (hq'.keep (by rw [hsz]; exact hz) fun b hb => ?_).mono fun b hb => ⟨hb.1, by rw [hsz]; omega, hb.2.2.1, fun e => ?_⟩
    · rw [hfar b hb.1]
      exact hk b hb.2.1 hb.2.2.2
    · rcases hl with hl | ⟨k, hl, hlk⟩
      · exact hb.2.2.2 (e.trans hl)
      · rw [hl] at e
        cases e
        have := hW.size; omega
theorem NodeAt.blkN {w W w2 : World} {B g : Nat} {kind : Int} {names : List ByteArray} {qs : List NdAt} {na ia : Option Addr} {nc ic : Nat} (h : NodeAt w B g kind names qs na nc ia ic) (hW : Below w.heap.size w W) (hgB : g < B) (hg : W.grownBy w2 (Value.slice na names.length nc).ownBlock) :
    Blk w2 g 25 #[.int .i64 kind, .string ⟨#[]⟩, .slice na names.length nc, .slice ia qs.length ic] :=
  (hg.block g (Nat.lt_of_lt_of_le h.blk.lt hW.size) (fun e => by have := (ownS_ge h.names_ e.symm).1; omega)).trans (h.blk.call hW)
theorem NodeAt.blkI {w W w2 : World} {B g : Nat} {kind : Int} {names : List ByteArray} {qs : List NdAt} {na ia : Option Addr} {nc ic : Nat} (h : NodeAt w B g kind names qs na nc ia ic) (hW : Below w.heap.size w W) (hgB : g < B) (hg : W.grownBy w2 (Value.slice ia qs.length ic).ownBlock) :
    Blk w2 g 25 #[.int .i64 kind, .string ⟨#[]⟩, .slice na names.length nc, .slice ia qs.length ic] :=
  (hg.block g (Nat.lt_of_lt_of_le h.blk.lt hW.size) (fun e => by have := (ownN_ge h.items e.symm).1; omega)).trans (h.blk.call hW)
/-- an elder block behind an append and a store -/
theorem blk_push {w W w2 : World} {B g k i : Nat} {t : TypeId} {cs : Array Value} {v u : Value} (hk : Blk w k t cs) (hW : Below w.heap.size w W) (hg : W.grownBy w2 v.ownBlock) (hv : ∀ b, v.ownBlock = some b → B ≤ b) (hkB : k < B) (hne : k ≠ g) : Blk (w2.setCell ⟨g, i, none⟩ u) k t cs :=
  Blk.setO ((hg.block k (Nat.lt_of_lt_of_le hk.lt hW.size) (fun e => by have := hv k e.symm; omega)).trans (hk.call hW)) ⟨g, i, none⟩ u hne
theorem fr_push {w w0 W w2 : World} {pb B g i : Nat} {v u : Value} (hf : FrP pb w0 w) (hW : Below w.heap.size w W) (hg : W.grownBy w2 v.ownBlock) (hv : ∀ b, v.ownBlock = some b → B ≤ b) (hB : w0.heap.size ≤ B) (hgw : w0.heap.size ≤ g) : FrP pb w0 (w2.setCell ⟨g, i, none⟩ u) := by
  have h1 : FrP pb w0 w2 := by
    have h2 := hf.trans (FrP.of hW)
    exact ⟨hg.os.trans h2.os, hg.tape.trans h2.tape, hg.output.trans h2.output, Nat.le_trans h2.size hg.size, fun k hk hn => (hg.block k (Nat.lt_of_lt_of_le hk h2.size) (fun e => by have := hv k e.symm; omega)).trans (h2.blk k hk hn)⟩
  exact h1.setNew hgw i u
end Go.Proofs.YtolbhhokpelchaaDoor
