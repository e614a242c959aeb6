/- Appends to a row of routes of the call's own, and stores of a whole route. -/
import Derived.Test.YtpcenhaieicejabDoorRteR
import Derived.Deep.SlicePairs
namespace Go.Proofs.YtpcenhaieicejabDoor
open Go.RowKit

/-- the places of a row's routes -/
theorem HasRts.list {w : World} {a : Option Addr} {c : Nat} {xs : List Rt} (h : HasRts w a c xs) : ∃ rs : List RtAt, rs.map (fun r : RtAt => r.n) = xs ∧ (∀ r ∈ rs, r.ok w) ∧ (rs = [] ∨ ∃ b off, a = some ⟨b, off, none⟩ ∧ b < w.heap.size ∧ ∀ i (h : i < rs.length), rs[i].lies w b (off + i * 9)) := by
  obtain ⟨h1, h2, h3⟩ := h
  rcases h3 with rfl | ⟨b, off, rfl, hb, h3⟩
  · exact ⟨[], rfl, (fun q hq => by cases hq), .inl rfl⟩
  · have each : ∀ i, i < xs.length → ∃ q : RtAt, (∃ hi : i < xs.length, q.n = xs[i]) ∧ q.lies w b (off + i * 9) ∧ q.ok w := fun i hi => by
      obtain ⟨q, h1, h2, h3⟩ := h3 i hi
      exact ⟨q, ⟨hi, h1⟩, h2, h3⟩
    obtain ⟨f, hf⟩ := Go.Deep.choose_lt each
    refine ⟨(List.range xs.length).map f, ?_, ?_, .inr ⟨b, off, rfl, hb, fun i hi => ?_⟩⟩
    · apply List.ext_getElem
      · simp
      · intro i h1 h2
        obtain ⟨⟨hi, e⟩, _⟩ := hf i h2
        simp [e]
    · intro q hq
      obtain ⟨i, hi, rfl⟩ := List.mem_map.1 hq
      exact (hf i (by simpa using hi)).2.2
    · have hi' : i < xs.length := by simpa using hi
      have := (hf i hi').2.1
      simpa using this
theorem RtAt.lies.at {w : World} {b o : Nat} {q : RtAt} (h : q.lies w b o) (r : Nat) (hr : r < 9) : w.cell? ⟨b, o + r, none⟩ = (rtV q)[r]? := by
  obtain ⟨h0, h1, h2, h3, h4, h5, h6, h7, h8⟩ := h
  rcases (by omega : r = 0 ∨ r = 1 ∨ r = 2 ∨ r = 3 ∨ r = 4 ∨ r = 5 ∨ r = 6 ∨ r = 7 ∨ r = 8) with rfl | rfl | rfl | rfl | rfl | rfl | rfl | rfl | rfl
  · exact h0
  · exact h1
  · exact h2
  · exact h3
  · exact h4
  · exact h5
  · exact h6
  · exact h7
  · exact h8
/-- a row of routes, as what an append is handed -/
theorem src_rts {P : Program} {t : Nat} {w0 : World} {a : Option Addr} {c : Nat} {xs : List Rt} (hk : P.underlying t = some (.slice 26)) (h : HasRts w0 a c xs) :
    ∃ rs : List RtAt, rs.map (fun r : RtAt => r.n) = xs ∧ (∀ r ∈ rs, r.ok w0) ∧ ∀ w, Below w0.heap.size w0 w → Src P 9 t (.slice a rs.length c) rs.length (rtsV rs) w := by
  obtain ⟨rs, h1, h2, h3⟩ := h.list
  refine ⟨rs, h1, h2, fun w hb => ?_⟩
  rcases h3 with rfl | ⟨b, off, rfl, hbl, h3⟩
  · cases a with
    | none => exact Src.ofNil w hk c
    | some a => exact Src.ofSlice w hk a 0 c [] (by simp) (fun j u hu => by simp at hu) (fun u hu => by cases hu)
  · refine Src.ofSlice w hk ⟨b, off, none⟩ rs.length c (rtsV rs) (by rw [rtsV_len]) (fun j u hu => ?_) (rtsV_one rs)
    have hj : j < rs.length * 9 := by
      have := (List.getElem?_eq_some_iff.1 hu).1
      rwa [rtsV_len] at this
    have e0 : (⟨b, off, none⟩ : Addr).add j = ⟨b, off + j, none⟩ := by unfold Addr.add; split <;> simp_all
    rw [e0]
    have hq : j / 9 < rs.length := by omega
    have hl := ((h3 (j / 9) hq).call hb).at (j % 9) (by omega)
    rw [show off + j / 9 * 9 + j % 9 = off + j by omega, ← rtsV_get rs (j / 9) hq (j % 9) (by omega), show j / 9 * 9 + j % 9 = j by omega] at hl
    rw [hl, hu]
/-- a route that has just been laid in a block of its own, as what an append is handed -/
theorem src_one {P : Program} {t : Nat} {w : World} {g : Nat} {q : RtAt} {cs : Array Value} (hk : P.underlying t = some (.slice 26)) (h : Blk w g 26 cs) (hc : cs = tCells q) : Src P 9 t (.slice (some ⟨g, 0, none⟩) 1 1) 1 (rtsV [q]) w := by
  subst hc
  refine Src.ofSlice w hk ⟨g, 0, none⟩ 1 1 (rtsV [q]) (by rw [rtsV_len]; rfl) (fun j u hu => ?_) (rtsV_one _)
  have e0 : (⟨g, 0, none⟩ : Addr).add j = ⟨g, j, none⟩ := by unfold Addr.add; split <;> simp_all
  rw [e0, h.cell j]
  have e : (tCells q).toList = rtsV [q] := by simp [rtsV, rtV]
  rw [← e] at hu
  simpa using hu
theorem step_appR {P : Program} (W : World) {ops : Array Oper} {o : Oper} {a : Act} {K : Act → World → Prop} {Q : Exit → Act → World → Prop} {E : Prop} (hgd : o.guard = none) (s x : Operand) (t : TypeId)
    (ho : o.op = .call { callee := .builtin .append, args := #[s, x], argTypes := #[t, t] })
    (base : Nat) (i : TypeInfo) (z : Value) (ht : P.underlying t = some (.slice 26)) (hi : P.info? 26 = some i) (hz : i.zero = some z) (hsize : i.size = 9) (hby : i.bytes = 144) (hzs : z.cells.size = 9)
    (v : Value) (rs : List RtAt) (hs : a.eval s = v) (hown : OwnR W base v rs) (xv : Value) (m : Nat) (ms : List RtAt) (hm : m = ms.length) (hx : a.eval x = xv) (hsrc : Src P 9 t xv m (rtsV ms) W)
    (h63 : rs.length + ms.length ≤ 1000000) (hbase : base ≤ W.heap.size)
    (h : ∀ (v' : Value) (w' : World), OwnR w' base v' (rs ++ ms) → W.grownBy w' v.ownBlock → K (a.put o.dst v') w') :
    if Region.wanted o (yielded ops a.tmps) = true then Oper.wp P o a W K Q else E := by
  have hw : Region.wanted o (yielded ops a.tmps) = true := by simp [Region.wanted, hgd]
  rw [if_pos hw]
  subst hm
  obtain ⟨v', w', hr, h2, h3⟩ := run_append_src (P := P) W base t t o.type 26 i z 144 ht hi hz hby (by rw [hsize]; exact hzs) v rs.length (rtsV rs) (by rw [hsize]; exact hown) xv ms.length (rtsV ms) (by rw [hsize]; exact hsrc) (by unfold maxLen; omega) (by omega) hbase
  rw [hsize] at h2
  unfold Oper.wp execOp
  simp only [ho, resolve, invoke, builtin, Sem.run_bind, Sem.run_pure, Result.andThen_ok, List.map_toArray, List.map_cons, List.map_nil, hs, hx, hr]
  refine h v' w' ?_ h3
  unfold OwnR
  rw [rtsV_app, List.length_append]
  exact h2
theorem wpList_appR {P : Program} (w : World) {ops : Array Oper} {rest : List Oper} {o : Oper} {a : Act} {Q : Exit → Act → World → Prop} (hgd : o.guard = none) (s x : Operand) (t : TypeId)
    (ho : o.op = .call { callee := .builtin .append, args := #[s, x], argTypes := #[t, t] })
    (base : Nat) (i : TypeInfo) (z : Value) (ht : P.underlying t = some (.slice 26)) (hi : P.info? 26 = some i) (hz : i.zero = some z) (hsize : i.size = 9) (hby : i.bytes = 144) (hzs : z.cells.size = 9)
    (v : Value) (rs : List RtAt) (hs : a.eval s = v) (hown : OwnR w base v rs) (xv : Value) (m : Nat) (ms : List RtAt) (hm : m = ms.length) (hx : a.eval x = xv) (hsrc : Src P 9 t xv m (rtsV ms) w)
    (h63 : rs.length + ms.length ≤ 1000000) (hbase : base ≤ w.heap.size)
    (h : ∀ (v' : Value) (w' : World), OwnR w' base v' (rs ++ ms) → w.grownBy w' v.ownBlock → wpList P ops Q rest (a.put o.dst v') w') : wpList P ops Q (o :: rest) a w := by
  subst hm
  refine wpList_append_src w hgd s x t t ho base 26 i z 9 144 ht hi hz hsize hby hzs v rs.length (rtsV rs) hs hown xv ms.length (rtsV ms) hx hsrc (by unfold maxLen; omega) (by omega) hbase ?_
  intro v' w' hown' hg
  refine h v' w' ?_ hg
  unfold OwnR
  rw [rtsV_app, List.length_append]
  exact hown'
theorem OwnR.empty (w : World) : OwnR (w.alloc (.cells #[] 26)) w.heap.size (.slice (some ⟨w.heap.size, 0, none⟩) 0 0) [] :=
  World.ownsRow_made w #[] 0 (Nat.le_refl _) (by unfold maxLen; omega) (by simp)
theorem OwnR.grown {w w1 : World} {base : Nat} {v : Value} {rs : List RtAt} (h : OwnR w base v rs) {w0 : World} {B : Nat} (hb : Below B w0 w) (hB : B ≤ base) (hz : B ≤ w.heap.size) (hg : w.grownBy w1 v.ownBlock) : Below B w0 w1 :=
  hb.grown hg hz (fun k hk => Nat.le_trans hB (World.ownsRow.lt h k hk).1)
/-- a row of the call's own reads as its routes -/
theorem OwnR.rts {w : World} {base : Nat} {v : Value} {rs : List RtAt} (h : OwnR w base v rs) (hne : rs ≠ []) (hok : ∀ r ∈ rs, r.ok w) : ∃ a c, v = .slice a rs.length c ∧ HasRts w a c (rs.map (fun r : RtAt => r.n)) := by
  obtain ⟨g, c, e, hg, h1, h2, hr⟩ := h.out hne
  have hlt := World.ownsRow.lt h g (by rw [e]; rfl)
  refine ⟨_, c, e, by rw [List.length_map]; exact h1, h2, .inr ⟨g, 0, rfl, hlt.2, fun i hi => ?_⟩⟩
  have hi' : i < rs.length := by simpa using hi
  refine ⟨rs[i], by simp, ?_, hok _ (List.getElem_mem hi')⟩
  rw [Nat.zero_add]
  exact hr.lies i hi'
abbrev set9 (w : World) (g : Nat) (x0 x1 x2 x3 x4 x5 x6 x7 x8 : Value) : World := ((((((((w.setCell ⟨g, 0, none⟩ x0).setCell ⟨g, 1, none⟩ x1).setCell ⟨g, 2, none⟩ x2).setCell ⟨g, 3, none⟩ x3).setCell ⟨g, 4, none⟩ x4).setCell ⟨g, 5, none⟩ x5).setCell ⟨g, 6, none⟩ x6).setCell ⟨g, 7, none⟩ x7).setCell ⟨g, 8, none⟩ x8
theorem Blk.setAll {w : World} {g : Nat} {t : TypeId} {z0 z1 z2 z3 z4 z5 z6 z7 z8 : Value} (h : Blk w g t #[z0, z1, z2, z3, z4, z5, z6, z7, z8]) (x0 x1 x2 x3 x4 x5 x6 x7 x8 : Value) : Blk (set9 w g x0 x1 x2 x3 x4 x5 x6 x7 x8) g t #[x0, x1, x2, x3, x4, x5, x6, x7, x8] := by
  have h0 : Blk _ g t #[x0, z1, z2, z3, z4, z5, z6, z7, z8] := h.set 0 x0
  have h1 : Blk _ g t #[x0, x1, z2, z3, z4, z5, z6, z7, z8] := h0.set 1 x1
  have h2 : Blk _ g t #[x0, x1, x2, z3, z4, z5, z6, z7, z8] := h1.set 2 x2
  have h3 : Blk _ g t #[x0, x1, x2, x3, z4, z5, z6, z7, z8] := h2.set 3 x3
  have h4 : Blk _ g t #[x0, x1, x2, x3, x4, z5, z6, z7, z8] := h3.set 4 x4
  have h5 : Blk _ g t #[x0, x1, x2, x3, x4, x5, z6, z7, z8] := h4.set 5 x5
  have h6 : Blk _ g t #[x0, x1, x2, x3, x4, x5, x6, z7, z8] := h5.set 6 x6
  have h7 : Blk _ g t #[x0, x1, x2, x3, x4, x5, x6, x7, z8] := h6.set 7 x7
  have h8 : Blk _ g t #[x0, x1, x2, x3, x4, x5, x6, x7, x8] := h7.set 8 x8
  exact h8
theorem Blk.setAllO {w : World} {g k : Nat} {t : TypeId} {cs : Array Value} (h : Blk w k t cs) (hne : k ≠ g) (x0 x1 x2 x3 x4 x5 x6 x7 x8 : Value) : Blk (set9 w g x0 x1 x2 x3 x4 x5 x6 x7 x8) k t cs :=
  ((((((((h.setO _ x0 hne).setO _ x1 hne).setO _ x2 hne).setO _ x3 hne).setO _ x4 hne).setO _ x5 hne).setO _ x6 hne).setO _ x7 hne).setO _ x8 hne
theorem below_setAll {B : Nat} {w0 w : World} {g : Nat} (h : Below B w0 w) (hg : B ≤ g) (x0 x1 x2 x3 x4 x5 x6 x7 x8 : Value) : Below B w0 (set9 w g x0 x1 x2 x3 x4 x5 x6 x7 x8) :=
  ((((((((h.setCell hg x0).setCell hg x1).setCell hg x2).setCell hg x3).setCell hg x4).setCell hg x5).setCell hg x6).setCell hg x7).setCell hg x8
/-- the same append, where the row is of what the call has made since world w0 -/
theorem step_appR2 {P : Program} (w0 W : World) {ops : Array Oper} {o : Oper} {a : Act} {K : Act → World → Prop} {Q : Exit → Act → World → Prop} {E : Prop} (hgd : o.guard = none) (s x : Operand) (t : TypeId)
    (ho : o.op = .call { callee := .builtin .append, args := #[s, x], argTypes := #[t, t] })
    (i : TypeInfo) (z : Value) (ht : P.underlying t = some (.slice 26)) (hi : P.info? 26 = some i) (hz : i.zero = some z) (hsize : i.size = 9) (hby : i.bytes = 144) (hzs : z.cells.size = 9)
    (v : Value) (rs : List RtAt) (hs : a.eval s = v) (xv : Value) (m : Nat) (ms : List RtAt) (hm : m = ms.length) (hx : a.eval x = xv) (h63 : rs.length + ms.length ≤ 1000000)
    (hown : OwnR W w0.heap.size v rs) (hsrc : Src P 9 t xv m (rtsV ms) W) (hb : Below w0.heap.size w0 W)
    (h : ∀ (v' : Value) (w' : World), OwnR w' w0.heap.size v' (rs ++ ms) → W.grownBy w' v.ownBlock → Below w0.heap.size w0 w' → K (a.put o.dst v') w') :
    if Region.wanted o (yielded ops a.tmps) = true then Oper.wp P o a W K Q else E :=
  step_appR W hgd s x t ho w0.heap.size i z ht hi hz hsize hby hzs v rs hs hown xv m ms hm hx hsrc h63 hb.size fun v' w' h1 h2 => h v' w' h1 h2 (h1' hown hb h2)
where
  h1' {W w' : World} {v : Value} {rs : List RtAt} {w0 : World} (hown : OwnR W w0.heap.size v rs) (hb : Below w0.heap.size w0 W) (hg : W.grownBy w' v.ownBlock) : Below w0.heap.size w0 w' := hown.grown hb (Nat.le_refl _) hb.size hg
theorem OwnR.emptyB (w : World) (B : Nat) (hB : B ≤ w.heap.size) : OwnR (w.alloc (.cells #[] 26)) B (.slice (some ⟨w.heap.size, 0, none⟩) 0 0) [] := by
  refine ⟨rfl, .inr ⟨w.heap.size, 0, #[], rfl, hB, Blk.new w _ _, Nat.le_refl _, by unfold maxLen; omega, rfl, rfl⟩⟩
theorem emp0 (w : World) : OwnR (w.alloc (.cells #[] 26)) w.heap.size (.slice (some ⟨w.heap.size, 0, none⟩) 0 0) [] := OwnR.emptyB w _ (Nat.le_refl _)
theorem emp1 (w : World) (o : Obj) : OwnR ((w.alloc o).alloc (.cells #[] 26)) w.heap.size (.slice (some ⟨w.heap.size + 1, 0, none⟩) 0 0) [] := by
  have := OwnR.emptyB (w.alloc o) w.heap.size (by simp)
  rwa [show (w.alloc o).heap.size = w.heap.size + 1 by simp] at this
theorem emp2 (w : World) (o o' : Obj) : OwnR (((w.alloc o).alloc o').alloc (.cells #[] 26)) w.heap.size (.slice (some ⟨w.heap.size + 2, 0, none⟩) 0 0) [] := by
  have := OwnR.emptyB ((w.alloc o).alloc o') w.heap.size (by simp; omega)
  rwa [show ((w.alloc o).alloc o').heap.size = w.heap.size + 2 by simp] at this
theorem OwnR.alloc {w : World} {base : Nat} {v : Value} {l : List RtAt} (h : OwnR w base v l) (o : Obj) : OwnR (w.alloc o) base v l := World.ownsRow.alloc h o
theorem nb1 (w : World) (o : Obj) (cs : Array Value) (t : TypeId) : Blk ((w.alloc o).alloc (.cells cs t)) (w.heap.size + 1) t cs := by
  have := Blk.new (w.alloc o) t cs
  rwa [show (w.alloc o).heap.size = w.heap.size + 1 by simp] at this
theorem nb2 (w : World) (o o' : Obj) (cs : Array Value) (t : TypeId) : Blk (((w.alloc o).alloc o').alloc (.cells cs t)) (w.heap.size + 2) t cs := by
  have := Blk.new ((w.alloc o).alloc o') t cs
  rwa [show ((w.alloc o).alloc o').heap.size = w.heap.size + 2 by simp] at this
theorem bal2 {w W : World} {o : Obj} (h : Below w.heap.size w W) : Below w.heap.size w (W.alloc o) := h.alloc h.size _
theorem blk_grown {w w1 : World} {g : Nat} {t : TypeId} {cs : Array Value} {r : Option Nat} (hg : w.grownBy w1 r) (hne : some g ≠ r) (h : Blk w g t cs) : Blk w1 g t cs := h.push hg hne
theorem OwnR.ne {w : World} {base f : Nat} {v : Value} {l : List RtAt} {t : TypeId} {cs : Array Value} (h : OwnR w base v l) (hF : Blk w f t cs) (ht : t ≠ 26) : some f ≠ v.ownBlock := fun e => by
  rcases h.2 with ⟨rfl, h0⟩ | ⟨g, cap, cur, rfl, hb, hg, hn, hm, hcs, hh⟩
  · cases e
  · obtain rfl : f = g := by simpa [Value.ownBlock] using e
    rw [show w.heap[f]? = some (.cells cs t (0, 0)) from hF] at hg
    simp at hg
    exact ht hg.2
/-- a store into an elder block -/
theorem OwnR.setE {w : World} {base : Nat} {v : Value} {rs : List RtAt} (h : OwnR w base v rs) {g : Nat} (hg : g < base) (i : Nat) (u : Value) : OwnR (w.setCell ⟨g, i, none⟩ u) base v rs :=
  World.ownsRow.kept h (grown_setCell w g i u) (.inr fun e => by have := (World.ownsRow.lt h _ e).1; omega)
/-- the same append, beside a block of another type that stays -/
theorem step_appR3 {P : Program} (w0 W : World) {ops : Array Oper} {o : Oper} {a : Act} {K : Act → World → Prop} {Q : Exit → Act → World → Prop} {E : Prop} (hgd : o.guard = none) (s x : Operand) (t : TypeId)
    (ho : o.op = .call { callee := .builtin .append, args := #[s, x], argTypes := #[t, t] })
    (i : TypeInfo) (z : Value) (ht : P.underlying t = some (.slice 26)) (hi : P.info? 26 = some i) (hz : i.zero = some z) (hsize : i.size = 9) (hby : i.bytes = 144) (hzs : z.cells.size = 9)
    (v : Value) (rs : List RtAt) (hs : a.eval s = v) (xv : Value) (m : Nat) (ms : List RtAt) (hm : m = ms.length) (hx : a.eval x = xv) (h63 : rs.length + ms.length ≤ 1000000) (g T : Nat) (cs : Array Value) (hT : T ≠ 26)
    (hown : OwnR W w0.heap.size v rs) (hsrc : Src P 9 t xv m (rtsV ms) W) (hb : Below w0.heap.size w0 W) (hB : Blk W g T cs)
    (h : ∀ (v' : Value) (w' : World), OwnR w' w0.heap.size v' (rs ++ ms) → Below w0.heap.size w0 w' → Blk w' g T cs → K (a.put o.dst v') w') :
    if Region.wanted o (yielded ops a.tmps) = true then Oper.wp P o a W K Q else E :=
  step_appR W hgd s x t ho w0.heap.size i z ht hi hz hsize hby hzs v rs hs hown xv m ms hm hx hsrc h63 hb.size fun v' w' h1 h2 => h v' w' h1 (hown.grown hb (Nat.le_refl _) hb.size h2) (hB.push h2 (hown.ne hB hT))
theorem blk_ne {w : World} {g k : Nat} {t t' : TypeId} {cs cs' : Array Value} (h : Blk w g t cs) (h' : Blk w k t' cs') (ht : t ≠ t') : g ≠ k := fun e => by
  subst e
  have e2 : some (Obj.cells cs t (0, 0)) = some (Obj.cells cs' t' (0, 0)) := Eq.trans (Eq.symm (show w.heap[g]? = some (Obj.cells cs t (0, 0)) from h)) (show w.heap[g]? = some (Obj.cells cs' t' (0, 0)) from h')
  simp at e2
  exact ht e2.2
end Go.Proofs.YtpcenhaieicejabDoor
