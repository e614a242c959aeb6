/- Rows of the call's own, whose block may bear the mark of a text that was turned into bytes (a frozen range behind its last cell): appends of whatever source, and the text that such a row is turned into. It speaks of no one program. -/
import Derived.Test.YtmmpnkcfekhkhaaDoorAppend
import Derived.Test.YtmmpnkcfekhkhaaDoorBytes
import Derived.Test.YtmmpnkcfekhkhaaDoorWords
import Derived.Lib.FrozenHead
namespace Go.Proofs.YtmmpnkcfekhkhaaDoor
open Go.RowKit

/-- 'ownsRow', where the block may bear a mark behind its cells -/
def OwnsM (w : World) (base e size : Nat) (v : Value) (n : Nat) (xs : List Value) : Prop :=
  xs.length = n * size ∧
  ((v = .slice none 0 0 ∧ n = 0) ∨
   ∃ g cap cur fz, v = .slice (some ⟨g, 0, none⟩) n cap ∧ base ≤ g ∧ w.heap[g]? = some (.cells cur e fz) ∧ (fz = (0, 0) ∨ cur.size ≤ fz.1) ∧ n ≤ cap ∧ cap ≤ maxLen ∧ cur.size = cap * size ∧ cur.toList.take (n * size) = xs)
section
variable {w : World} {base e size n : Nat} {v : Value} {xs : List Value}
theorem OwnsM.of (h : w.ownsRow base e size v n xs) : OwnsM w base e size v n xs := by
  refine ⟨h.1, ?_⟩
  rcases h.2 with hn | ⟨g, cap, cur, hv, hb, hg, r⟩
  · exact .inl hn
  · exact .inr ⟨g, cap, cur, (0, 0), hv, hb, hg, .inl rfl, r⟩
theorem OwnsM.nil (w : World) (base e size : Nat) : OwnsM w base e size (.slice none 0 0) 0 [] := ⟨by simp, .inl ⟨rfl, rfl⟩⟩
theorem OwnsM.lt (h : OwnsM w base e size v n xs) : ∀ k, v.ownBlock = some k → base ≤ k ∧ k < w.heap.size := by
  intro k hk
  rcases h.2 with ⟨rfl, _⟩ | ⟨g, cap, cur, fz, rfl, hb, hg, _⟩
  · simp [Value.ownBlock] at hk
  · simp [Value.ownBlock] at hk
    subst hk
    exact ⟨hb, (Array.getElem?_eq_some_iff.1 hg).1⟩
theorem OwnsM.kept {w' : World} {row : Option Nat} (h : OwnsM w base e size v n xs) (hg : w.grownBy w' row) (hne : v.ownBlock = none ∨ v.ownBlock ≠ row) : OwnsM w' base e size v n xs := by
  refine ⟨h.1, ?_⟩
  rcases h.2 with hn | ⟨g, cap, cur, fz, rfl, hb, hgg, r⟩
  · exact .inl hn
  · refine .inr ⟨g, cap, cur, fz, rfl, hb, ?_, r⟩
    rw [hg.block g (Array.getElem?_eq_some_iff.1 hgg).1 (by simpa [Value.ownBlock] using hne)]
    exact hgg
theorem OwnsM.call {w1 : World} (h : OwnsM w base e size v n xs) (hb : Below w.heap.size w w1) : OwnsM w1 base e size v n xs :=
  h.kept (row := none) ⟨hb.os, hb.tape, hb.output, hb.size, fun k hk _ => hb.block k hk⟩ (by cases v.ownBlock <;> simp)
theorem OwnsM.alloc (h : OwnsM w base e size v n xs) (o : Obj) : OwnsM (w.alloc o) base e size v n xs :=
  h.kept (row := none) ⟨rfl, rfl, rfl, by simp, fun k hk _ => Below.heap_alloc w o k hk⟩ (by cases v.ownBlock <;> simp)
theorem OwnsM.drew (h : OwnsM w base e size v n xs) : OwnsM w.drew base e size v n xs := h
theorem OwnsM.low (h : OwnsM w base e size v n xs) {base' : Nat} (hb : base' ≤ base) : OwnsM w base' e size v n xs := by
  refine ⟨h.1, ?_⟩
  rcases h.2 with hn | ⟨g, cap, cur, fz, hv, hbg, r⟩
  · exact .inl hn
  · exact .inr ⟨g, cap, cur, fz, hv, Nat.le_trans hb hbg, r⟩
theorem OwnsM.cells (h : OwnsM w base e size v n xs) {g : Nat} (hg : v.ownBlock = some g) : ∀ j u, xs[j]? = some u → w.cell? ((⟨g, 0, none⟩ : Addr).add j) = some u := by
  intro j u hu
  rcases h.2 with ⟨rfl, _⟩ | ⟨g', cap, cur, fz, rfl, _, hgg, _, _, _, _, htake⟩
  · simp [Value.ownBlock] at hg
  · simp [Value.ownBlock] at hg
    subst hg
    have hadd : (⟨g', 0, none⟩ : Addr).add j = ⟨g', j, none⟩ := by unfold Addr.add; split <;> simp_all
    rw [hadd, cell_of_row w g' j cur e fz hgg]
    rw [← htake, List.getElem?_take] at hu
    split at hu
    · simpa using hu
    · cases hu
end

theorem run_storeCells_atM (P : Program) (g o : Nat) (t : TypeId) (fz : Nat × Nat) : ∀ (vs : List Value) (i : Nat) (cur : Array Value) (w : World), w.heap[g]? = some (.cells cur t fz) → (fz = (0, 0) ∨ cur.size ≤ fz.1) → o + i + vs.length ≤ cur.size → (∀ v ∈ vs, v.oneCell' = true) →
    (storeCells ⟨g, o, none⟩ vs i).run P w = .ok () (w.setRow g (cur.toList.take (o + i) ++ vs ++ cur.toList.drop (o + i + vs.length)).toArray)
  | [], i, cur, w, hg, _, _, _ => by
    simp only [storeCells, List.append_nil, List.length_nil, Nat.add_zero, List.take_append_drop, Array.toArray_toList]
    rw [setRow_self w g cur t fz hg]
    rfl
  | v :: rest, i, cur, w, hg, hfz, hl, h1 => by
    have hi : o + i < cur.size := by simp at hl; omega
    have hadd : (⟨g, o, none⟩ : Addr).add i = ⟨g, o + i, none⟩ := by unfold Addr.add; split <;> simp_all
    have hcell : w.cell? ⟨g, o + i, none⟩ = some cur[o + i] := by simp [World.cell?, hg, hi]
    have hfro : w.frozen? ⟨g, o + i, none⟩ = false := by
      obtain ⟨lo, hi'⟩ := fz
      simp only [World.frozen?, hg, Bool.and_eq_false_iff, decide_eq_false_iff_not]
      rcases hfz with hfz | hfz
      · simp only [Prod.mk.injEq] at hfz
        right; omega
      · simp only at hfz
        left; omega
    have hst : (store ((⟨g, o, none⟩ : Addr).add i) v).run P w = .ok () (w.setRow g (cur.setIfInBounds (o + i) v)) := by
      rw [hadd, run_store P w _ v _ (h1 v (by simp)), hcell]
      simp [hfro, setCell_eq_setRow w g (o + i) cur t fz v hg]
    have ih := run_storeCells_atM P g o t fz rest (i + 1) (cur.setIfInBounds (o + i) v) (w.setRow g (cur.setIfInBounds (o + i) v)) (setRow_heap w g cur _ t _ hg) (by simpa using hfz) (by simp at hl ⊢; omega) (fun x hx => h1 x (by simp [hx]))
    simp only [storeCells, Sem.run_bind, hst, Result.andThen_ok, ih, setRow_setRow]
    congr 3
    have e := list_seg_step cur.toList (o + i) v rest (by simp at hl ⊢; omega)
    simpa [Array.toList_setIfInBounds, Nat.add_assoc] using e

theorem ownsM_room {w : World} {base g n m cap size e : Nat} {cur : Array Value} {fz : Nat × Nat} {xs news : List Value} (hg : w.heap[g]? = some (.cells cur e fz)) (hfz : fz = (0, 0) ∨ cur.size ≤ fz.1) (hb : base ≤ g) (hx : xs.length = n * size) (hn : news.length = m * size)
    (hroom : n + m ≤ cap) (hcm : cap ≤ maxLen) (hcs : cur.size = cap * size) (htake : cur.toList.take (n * size) = xs) :
    OwnsM (w.setRow g (cur.toList.take (n * size) ++ news ++ cur.toList.drop (n * size + news.length)).toArray) base e size (.slice (some ⟨g, 0, none⟩) (n + m) cap) (n + m) (xs ++ news) ∧
    w.grownBy (w.setRow g (cur.toList.take (n * size) ++ news ++ cur.toList.drop (n * size + news.length)).toArray) (some g) := by
  have hfit : n * size + news.length ≤ cur.size := by rw [hn, hcs, ← Nat.add_mul]; exact Nat.mul_le_mul_right _ hroom
  have hlen : (xs ++ news).length = (n + m) * size := by rw [List.length_append, hx, hn, Nat.add_mul]
  have hsize : (w.setRow g (cur.toList.take (n * size) ++ news ++ cur.toList.drop (n * size + news.length)).toArray).heap.size = w.heap.size := by simp [World.setRow]
  have hsame : (cur.toList.take (n * size) ++ news ++ cur.toList.drop (n * size + news.length)).toArray.size = cur.size := by
    rw [List.size_toArray, List.length_append, List.length_append, List.length_take, List.length_drop, Array.length_toList]; omega
  refine ⟨⟨hlen, .inr ⟨g, cap, _, fz, rfl, hb, setRow_heap w g cur _ e _ hg, by rw [hsame]; exact hfz, hroom, hcm, by rw [hsame]; exact hcs, ?_⟩⟩, ⟨rfl, rfl, rfl, by rw [hsize]; exact Nat.le_refl _, fun k _ hk => setRow_other w g k _ (fun h => hk (by rw [h]))⟩⟩
  rw [htake, ← hlen]; exact List.take_left

theorem run_append_srcM {P : Program} (w : World) (base : Nat) (t tx ty e : TypeId) (i : TypeInfo) (z : Value) (bytes : Nat) (ht : P.underlying t = some (.slice e)) (hi : P.info? e = some i) (hz : i.zero = some z)
    (hby : i.bytes = bytes) (hzs : z.cells.size = i.size) (v : Value) (n : Nat) (xs : List Value) (hown : OwnsM w base e i.size v n xs) (x : Value) (m : Nat) (news : List Value) (hs : Src P i.size tx x m news w)
    (h63 : n + m ≤ maxLen) (hbytes : (n + m) * bytes ≤ 140737488355328) (hbase : base ≤ w.heap.size) :
    ∃ v' w', (Builtin.append_ #[t, tx] ty #[v, x]).run P w = .ok v' w' ∧ OwnsM w' base e i.size v' (n + m) (xs ++ news) ∧ w.grownBy w' v.ownBlock := by
  rcases hown.2 with ⟨rfl, rfl⟩ | ⟨g, cap, cur, fz, rfl, hbg, hg, hfz, hnc, hcm, hcs, htake⟩
  · obtain ⟨v', w', h1, h2, h3⟩ := run_append_src w base t tx ty e i z bytes ht hi hz hby hzs (.slice none 0 0) 0 xs ⟨hown.1, .inl ⟨rfl, rfl⟩⟩ x m news hs h63 hbytes hbase
    exact ⟨v', w', h1, OwnsM.of h2, h3⟩
  · subst hby
    have h63' : ((n + m : Nat) : Int) ≤ 9223372036854775807 := by simp only [maxLen] at h63; omega
    by_cases hroom : n + m ≤ cap
    · have ho := ownsM_room (w := w) hg hfz hbg hown.1 hs.newsLen hroom hcm hcs htake
      have hfit : n * i.size + news.length ≤ cur.size := by rw [hs.newsLen, hcs, ← Nat.add_mul]; exact Nat.mul_le_mul_right _ hroom
      have hst := run_storeCells_atM P g (n * i.size) e fz news 0 cur w hg hfz (by simpa using hfit) hs.one
      simp only [Nat.add_zero] at hst
      refine ⟨_, _, ?_, ho.1, ho.2⟩
      rcases hs.kind with ⟨e', hk⟩ | hk <;> simp [Builtin.append_, run_underlying ht, run_underlying hk, sizeOf, typeInfo, hi, hs.len, hroom, hs.cells, Addr.add_lit, hst]
    · have holds : (Builtin.firstCells i.size n (.slice (some ⟨g, 0, none⟩) n cap)).run P w.drew = .ok xs.toArray w.drew :=
        run_firstCells_some w.drew i.size n ⟨g, 0, none⟩ n cap xs hown.1 (by simpa using hown.cells (g := g) rfl)
      have hr := run_append_grow_src (P := P) w t tx ty e i z ht hi hz (some ⟨g, 0, none⟩) n cap xs holds x m news hs (by omega) h63' (growslice_fits (by omega) hbytes)
      have ho := owns_grow (w := w) (base := base) (n := n) (m := m) (c := grownCap w (n + m) cap e) (e := e) hbase hown.1 hs.newsLen hzs (grownCap_ge w (n + m) cap e) (grownCap_le_maxLen w (n + m) cap e h63) (Value.ownBlock (.slice (some ⟨g, 0, none⟩) n cap))
      exact ⟨_, _, hr, OwnsM.of ho.1, ho.2⟩

theorem wpList_append_srcM {P : Program} (w : World) {ops : Array Oper} {rest : List Oper} {o : Oper} {a : Act} {Q : Exit → Act → World → Prop} (hgd : o.guard = none) (s x : Operand) (t tx : TypeId)
    (ho : o.op = .call { callee := .builtin .append, args := #[s, x], argTypes := #[t, tx] })
    (base : Nat) (e : TypeId) (i : TypeInfo) (z : Value) (size bytes : Nat) (ht : P.underlying t = some (.slice e)) (hi : P.info? e = some i) (hz : i.zero = some z) (hsize : i.size = size)
    (hby : i.bytes = bytes) (hzs : z.cells.size = size) (v : Value) (n : Nat) (xs : List Value) (hs : a.eval s = v) (hown : OwnsM w base e size v n xs) (xv : Value) (m : Nat) (news : List Value) (hx : a.eval x = xv) (hsrc : Src P size tx xv m news w)
    (h63 : n + m ≤ maxLen) (hbytes : (n + m) * bytes ≤ 140737488355328) (hbase : base ≤ w.heap.size)
    (h : ∀ v' w', OwnsM w' base e size v' (n + m) (xs ++ news) → w.grownBy w' v.ownBlock → wpList P ops Q rest (a.put o.dst v') w') : wpList P ops Q (o :: rest) a w := by
  subst hsize
  refine wpList_plain hgd fun K hK => ?_
  obtain ⟨v', w', hr, h2, h3⟩ := run_append_srcM (P := P) w base t tx o.type e i z bytes ht hi hz hby hzs v n xs hown xv m news hsrc h63 hbytes hbase
  unfold Oper.wp execOp
  simp only [ho, resolve, invoke, builtin, Sem.run_bind, Sem.run_pure, Result.andThen_ok, List.map_toArray, List.map_cons, List.map_nil, hs, hx, hr]
  exact hK _ _ (h v' w' h2 h3)

/-- a row that has just been laid in a block of its own, as what an append is handed -/
theorem src_new {P : Program} {tx e : TypeId} (W : World) (hk : P.underlying tx = some (.slice e)) (us : List Value) (h1 : ∀ u ∈ us, u.oneCell' = true) :
    Src P 1 tx (.slice (some ⟨W.heap.size, 0, none⟩) us.length us.length) us.length us (W.alloc (.cells us.toArray e)) := by
  refine Src.ofSlice _ hk ⟨W.heap.size, 0, none⟩ us.length us.length us (by simp) (fun j u hu => ?_) h1
  have e0 : (⟨W.heap.size, 0, none⟩ : Addr).add j = ⟨W.heap.size, j, none⟩ := by unfold Addr.add; split <;> simp_all
  rw [e0, World.cell?_alloc_mark W us.toArray e (0, 0) j]
  simpa using hu
/-- what was grown behind a new block, seen from ahead of it -/
theorem grown_new {w w' : World} {row : Option Nat} {o : Obj} (h : (w.alloc o).grownBy w' row) : w.grownBy w' row := by
  refine ⟨h.os, h.tape, h.output, ?_, fun k hk hne => ?_⟩
  · have := h.size; simp at this; omega
  · rw [h.block k (by simp; omega) hne]
    exact Below.heap_alloc w _ k hk
/-- an append of elements that have just been laid in a block of their own -/
theorem wpList_pushM {P : Program} (W : World) {ops : Array Oper} {rest : List Oper} {o : Oper} {a : Act} {Q : Exit → Act → World → Prop} (hgd : o.guard = none) (s x : Operand) (t : TypeId)
    (ho : o.op = .call { callee := .builtin .append, args := #[s, x], argTypes := #[t, t] })
    (base : Nat) (e : TypeId) (i : TypeInfo) (z : Value) (bytes : Nat) (ht : P.underlying t = some (.slice e)) (hi : P.info? e = some i) (hz : i.zero = some z)
    (hsize : i.size = 1) (hby : i.bytes = bytes) (hzs : z.cells.size = 1)
    (v : Value) (n : Nat) (xs : List Value) (hs : a.eval s = v) (hown : OwnsM W base e 1 v n xs) (us : List Value) (B : Nat)
    (hx : a.eval x = .slice (some ⟨B, 0, none⟩) us.length us.length) (hB : B = W.heap.size) (hu : ∀ u ∈ us, u.oneCell' = true)
    (h63 : n + us.length ≤ maxLen) (hbytes : (n + us.length) * bytes ≤ 140737488355328) (hbase : base ≤ W.heap.size)
    (h : ∀ (v' : Value) (w' : World), OwnsM w' base e 1 v' (n + us.length) (xs ++ us) → W.grownBy w' v.ownBlock → wpList P ops Q rest (a.put o.dst v') w') :
    wpList P ops Q (o :: rest) a (W.alloc (.cells us.toArray e)) := by
  subst hB
  refine wpList_append_srcM (W.alloc (.cells us.toArray e)) hgd s x t t ho base e i z 1 bytes ht hi hz hsize hby hzs v n xs hs (hown.alloc _) _ us.length us hx (src_new W ht us hu) h63 hbytes (by simp; omega) ?_
  intro v' w' h1 h2
  exact h v' w' h1 (grown_new h2)

/-- the same as one step of a region that draws its order -/
theorem step_pushM {P : Program} (W : World) {ops : Array Oper} {o : Oper} {a : Act} {K : Act → World → Prop} {Q : Exit → Act → World → Prop} {E : Prop} (hgd : o.guard = none) (s x : Operand) (t : TypeId)
    (ho : o.op = .call { callee := .builtin .append, args := #[s, x], argTypes := #[t, t] })
    (base : Nat) (e : TypeId) (i : TypeInfo) (z : Value) (bytes : Nat) (ht : P.underlying t = some (.slice e)) (hi : P.info? e = some i) (hz : i.zero = some z)
    (hsize : i.size = 1) (hby : i.bytes = bytes) (hzs : z.cells.size = 1)
    (v : Value) (n : Nat) (xs : List Value) (hs : a.eval s = v) (hown : OwnsM W base e 1 v n xs) (us : List Value) (B : Nat)
    (hx : a.eval x = .slice (some ⟨B, 0, none⟩) us.length us.length) (hB : B = W.heap.size) (hu : ∀ u ∈ us, u.oneCell' = true)
    (h63 : n + us.length ≤ maxLen) (hbytes : (n + us.length) * bytes ≤ 140737488355328) (hbase : base ≤ W.heap.size)
    (h : ∀ (v' : Value) (w' : World), OwnsM w' base e 1 v' (n + us.length) (xs ++ us) → W.grownBy w' v.ownBlock → K (a.put o.dst v') w') :
    if Region.wanted o (yielded ops a.tmps) = true then Oper.wp P o a (W.alloc (.cells us.toArray e)) K Q else E := by
  have hw : Region.wanted o (yielded ops a.tmps) = true := by simp [Region.wanted, hgd]
  rw [if_pos hw]
  subst hB
  have hsrc := src_new (P := P) W ht us hu
  rw [← hsize] at hown hsrc
  obtain ⟨v', w', hr, h2, h3⟩ := run_append_srcM (P := P) (W.alloc (.cells us.toArray e)) base t t o.type e i z bytes ht hi hz hby (by rw [hsize]; exact hzs) v n xs (hown.alloc _) _ us.length us hsrc h63 hbytes (by simp; omega)
  rw [hsize] at h2
  unfold Oper.wp execOp
  simp only [ho, resolve, invoke, builtin, Sem.run_bind, Sem.run_pure, Result.andThen_ok, List.map_toArray, List.map_cons, List.map_nil, hs, hx, hr]
  exact h v' w' h2 (grown_new h3)
theorem setRow_keep {w : World} {g N e : Nat} {cur : Array Value} {fz : Nat × Nat} {news : List Value} (hg : w.heap[g]? = some (.cells cur e fz)) (hN : N ≤ cur.size) (i : Nat) (hi : i < N) (rest : List Value) :
    (w.setRow g (cur.toList.take N ++ news ++ rest).toArray).cell? ⟨g, i, none⟩ = w.cell? ⟨g, i, none⟩ := by
  rw [cell_of_row _ g i _ e fz (setRow_heap w g cur _ e fz hg), cell_of_row w g i cur e fz hg]
  have hi2 : i < cur.toList.length := by simp; omega
  simp only [List.getElem?_toArray, List.append_assoc]
  rw [List.getElem?_append_left (by simp; omega), List.getElem?_take, if_pos hi]
  simp
/-- 'run_append_srcM', which tells besides that the cells that were there are as they were -/
theorem run_append_srcK {P : Program} (w : World) (base : Nat) (t tx ty e : TypeId) (i : TypeInfo) (z : Value) (bytes : Nat) (ht : P.underlying t = some (.slice e)) (hi : P.info? e = some i) (hz : i.zero = some z)
    (hby : i.bytes = bytes) (hzs : z.cells.size = i.size) (g cap : Nat) (n : Nat) (xs : List Value) (hown : OwnsM w base e i.size (.slice (some ⟨g, 0, none⟩) n cap) n xs) (x : Value) (m : Nat) (news : List Value) (hs : Src P i.size tx x m news w)
    (h63 : n + m ≤ maxLen) (hbytes : (n + m) * bytes ≤ 140737488355328) (hbase : base ≤ w.heap.size) :
    ∃ v' w', (Builtin.append_ #[t, tx] ty #[.slice (some ⟨g, 0, none⟩) n cap, x]).run P w = .ok v' w' ∧ OwnsM w' base e i.size v' (n + m) (xs ++ news) ∧ w.grownBy w' (some g) ∧ ∀ j, j < n * i.size → w'.cell? ⟨g, j, none⟩ = w.cell? ⟨g, j, none⟩ := by
  rcases hown.2 with ⟨h, _⟩ | ⟨g', cap', cur, fz, hv, hbg, hg, hfz, hnc, hcm, hcs, htake⟩
  · cases h
  · obtain ⟨rfl, rfl⟩ : g = g' ∧ cap = cap' := by simpa using hv
    subst hby
    have h63' : ((n + m : Nat) : Int) ≤ 9223372036854775807 := by simp only [maxLen] at h63; omega
    by_cases hroom : n + m ≤ cap
    · have ho := ownsM_room (w := w) hg hfz hbg hown.1 hs.newsLen hroom hcm hcs htake
      have hfit : n * i.size + news.length ≤ cur.size := by rw [hs.newsLen, hcs, ← Nat.add_mul]; exact Nat.mul_le_mul_right _ hroom
      have hst := run_storeCells_atM P g (n * i.size) e fz news 0 cur w hg hfz (by simpa using hfit) hs.one
      simp only [Nat.add_zero] at hst
      refine ⟨_, _, ?_, ho.1, ho.2, fun j hj => setRow_keep hg (by omega) j hj _⟩
      rcases hs.kind with ⟨e', hk⟩ | hk <;> simp [Builtin.append_, run_underlying ht, run_underlying hk, sizeOf, typeInfo, hi, hs.len, hroom, hs.cells, Addr.add_lit, hst]
    · have holds : (Builtin.firstCells i.size n (.slice (some ⟨g, 0, none⟩) n cap)).run P w.drew = .ok xs.toArray w.drew :=
        run_firstCells_some w.drew i.size n ⟨g, 0, none⟩ n cap xs hown.1 (by simpa using hown.cells (g := g) rfl)
      have hr := run_append_grow_src (P := P) w t tx ty e i z ht hi hz (some ⟨g, 0, none⟩) n cap xs holds x m news hs (by omega) h63' (growslice_fits (by omega) hbytes)
      have ho := owns_grow (w := w) (base := base) (n := n) (m := m) (c := grownCap w (n + m) cap e) (e := e) hbase hown.1 hs.newsLen hzs (grownCap_ge w (n + m) cap e) (grownCap_le_maxLen w (n + m) cap e h63) (Value.ownBlock (.slice (some ⟨g, 0, none⟩) n cap))
      exact ⟨_, _, hr, OwnsM.of ho.1, ho.2, fun j _ => World.cell?_of_block (Below.heap_alloc w.drew _ g (lt_of_block hg))⟩
/-- one step of a region that draws its order; the cells that were there are as they were -/
theorem step_pushK {P : Program} (W : World) {ops : Array Oper} {o : Oper} {a : Act} {K : Act → World → Prop} {Q : Exit → Act → World → Prop} {E : Prop} (hgd : o.guard = none) (s x : Operand) (t : TypeId)
    (ho : o.op = .call { callee := .builtin .append, args := #[s, x], argTypes := #[t, t] })
    (base : Nat) (e : TypeId) (i : TypeInfo) (z : Value) (bytes : Nat) (ht : P.underlying t = some (.slice e)) (hi : P.info? e = some i) (hz : i.zero = some z)
    (hsize : i.size = 1) (hby : i.bytes = bytes) (hzs : z.cells.size = 1)
    (g cap : Nat) (n : Nat) (xs : List Value) (hs : a.eval s = .slice (some ⟨g, 0, none⟩) n cap) (hown : OwnsM W base e 1 (.slice (some ⟨g, 0, none⟩) n cap) n xs) (us : List Value) (B : Nat)
    (hx : a.eval x = .slice (some ⟨B, 0, none⟩) us.length us.length) (hB : B = W.heap.size) (hu : ∀ u ∈ us, u.oneCell' = true)
    (h63 : n + us.length ≤ maxLen) (hbytes : (n + us.length) * bytes ≤ 140737488355328) (hbase : base ≤ W.heap.size)
    (h : ∀ (v' : Value) (w' : World), OwnsM w' base e 1 v' (n + us.length) (xs ++ us) → W.grownBy w' (some g) → (∀ j, j < n → w'.cell? ⟨g, j, none⟩ = W.cell? ⟨g, j, none⟩) → K (a.put o.dst v') w') :
    if Region.wanted o (yielded ops a.tmps) = true then Oper.wp P o a (W.alloc (.cells us.toArray e)) K Q else E := by
  have hw : Region.wanted o (yielded ops a.tmps) = true := by simp [Region.wanted, hgd]
  rw [if_pos hw]
  subst hB
  have hsrc := src_new (P := P) W ht us hu
  have hgl := (hown.lt g rfl).2
  rw [← hsize] at hown hsrc
  obtain ⟨v', w', hr, h2, h3, h4⟩ := run_append_srcK (P := P) (W.alloc (.cells us.toArray e)) base t t o.type e i z bytes ht hi hz hby (by rw [hsize]; exact hzs) g cap n xs (hown.alloc _) _ us.length us hsrc h63 hbytes (by simp; omega)
  rw [hsize] at h2 h4
  unfold Oper.wp execOp
  simp only [ho, resolve, invoke, builtin, Sem.run_bind, Sem.run_pure, Result.andThen_ok, List.map_toArray, List.map_cons, List.map_nil, hs, hx, hr]
  exact h v' w' h2 (grown_new h3) (fun j hj => (h4 j (by omega)).trans (World.cell?_of_block (Below.heap_alloc W _ g hgl)))
theorem OwnsM.new (W : World) (us : List Value) (e : Nat) (h : us.length ≤ maxLen) : OwnsM (W.alloc (.cells us.toArray e)) W.heap.size e 1 (.slice (some ⟨W.heap.size, 0, none⟩) us.length us.length) us.length us :=
  ⟨by simp, .inr ⟨W.heap.size, us.length, us.toArray, (0, 0), rfl, Nat.le_refl _, heap_alloc_new W _, .inl rfl, Nat.le_refl _, h, by simp, by simp⟩⟩
theorem OwnsM.form {w : World} {base e size n : Nat} {v : Value} {xs : List Value} (h : OwnsM w base e size v n xs) : ∃ a c, v = .slice a n c := by
  rcases h.2 with ⟨rfl, rfl⟩ | ⟨g, cap, cur, fz, rfl, _⟩
  · exact ⟨none, 0, rfl⟩
  · exact ⟨_, _, rfl⟩
/-- the row that a text is turned into -/
theorem OwnsM.of_text (w : World) (s : ByteArray) (c T x : Nat) (hc : s.size ≤ c) (hm : c ≤ maxLen) : OwnsM (w.alloc (.cells (bytesRow s c) T ((bytesRow s c).size, x))) w.heap.size T 1 (.slice (some ⟨w.heap.size, 0, none⟩) s.size c) s.size (bytesV s.data.toList) := by
  have hsz : (bytesRow s c).size = c := by simp [bytesRow, ByteArray.size_data]; omega
  refine ⟨by simp [bytesV], .inr ⟨w.heap.size, c, bytesRow s c, ((bytesRow s c).size, x), rfl, Nat.le_refl _, (by show (w.heap.push _)[w.heap.size]? = _; simp), .inr (Nat.le_refl _), hc, hm, by rw [hsz, Nat.mul_one], ?_⟩⟩
  apply List.ext_getElem?
  intro j
  rw [List.getElem?_take, Nat.mul_one]
  by_cases hj : j < s.size
  · rw [if_pos hj]
    have := bytesRow_at s c j (by simpa [ByteArray.size_data] using hj)
    simpa [bytesV, hj] using this
  · rw [if_neg hj, List.getElem?_eq_none]
    simp [bytesV]; omega
theorem OwnsM.str {P : Program} {w : World} {base src dst e : Nat} {v : Value} {l : List UInt8} (h : OwnsM w base e 1 v l.length (bytesV l)) (hs : P.underlying src = some (.slice e)) (he : P.underlying e = some (.int .u8)) (hd : P.underlying dst = some .string) :
    (convert src dst v).run P w = .ok (.string ⟨l.toArray⟩) w := by
  rcases h.2 with ⟨rfl, h0⟩ | ⟨g, cap, cur, fz, rfl, _⟩
  · obtain rfl : l = [] := List.eq_nil_of_length_eq_zero h0
    exact run_convert_bytes_nil w src e hs he 0 0 dst hd
  · refine run_convert_bytes_back w src dst e ⟨g, 0, none⟩ cap l hs he hd ?_
    intro j hj
    exact h.cells (g := g) rfl j _ (bytesV_get l j hj)
end Go.Proofs.YtmmpnkcfekhkhaaDoor
