/- An append of a row of blocks to a slice of blocks of the call's own. -/
import Derived.Test.YthodifgohdaedabDoorBlkF
import Derived.Test.YthodifgohdaedabDoorBlkL
import Derived.Deep.SlicePairs
namespace Go.Proofs.YthodifgohdaedabDoor
open Go.RowKit

/-- the places of a row's keys and values -/
theorem HasDefs.list {w : World} {b off c : Nat} {ds : List Dfn} (h : HasDefs w (some ⟨b, off, none⟩) c ds) : ∃ qs : List DefAt, qs.map (·.d) = ds ∧ (∀ q ∈ qs, q.ok w) ∧ ∀ i (hi : i < qs.length), w.cell? ⟨b, off + i * 3, none⟩ = some (.string qs[i].d.kind) ∧ w.cell? ⟨b, off + i * 3 + 1, none⟩ = some (.slice qs[i].ka qs[i].d.keys.length qs[i].kc) ∧ w.cell? ⟨b, off + i * 3 + 2, none⟩ = some (.slice qs[i].va qs[i].d.vals.length qs[i].vc) := by
  have each : ∀ i, i < ds.length → ∃ q : DefAt, (∃ hi : i < ds.length, q.d = ds[i]) ∧ (w.cell? ⟨b, off + i * 3, none⟩ = some (.string q.d.kind) ∧ w.cell? ⟨b, off + i * 3 + 1, none⟩ = some (.slice q.ka q.d.keys.length q.kc) ∧ w.cell? ⟨b, off + i * 3 + 2, none⟩ = some (.slice q.va q.d.vals.length q.vc)) ∧ q.ok w := fun i hi => by
    obtain ⟨q, h1, h2, h3⟩ := h.at i hi
    exact ⟨q, ⟨hi, h1⟩, h2, h3⟩
  haveI : Inhabited DefAt := ⟨⟨⟨.empty, [], []⟩, none, 0, none, 0⟩⟩
  obtain ⟨f, hf⟩ := Go.Deep.choose_lt each
  refine ⟨(List.range ds.length).map f, ?_, ?_, fun i hi => ?_⟩
  · apply List.ext_getElem
    · simp
    · intro i h1 h2
      obtain ⟨⟨hi, e⟩, _⟩ := hf i h2
      simp [e]
  · intro q hq
    obtain ⟨i, hi, rfl⟩ := List.mem_map.1 hq
    exact (hf i (by simpa using hi)).2.2
  · have hi' : i < ds.length := by simpa using hi
    have := (hf i hi').2.1
    simpa using this
theorem defsV_one (qs : List DefAt) : ∀ u ∈ defsV qs, u.oneCell' = true := by
  intro u hu
  obtain ⟨q, _, hq⟩ := List.mem_flatMap.1 hu
  simp [dCells] at hq
  rcases hq with rfl | rfl | rfl <;> rfl
/-- a row of blocks, as what an append is handed -/
theorem src_defs {P : Program} {t e : Nat} {w0 w : World} {a : Option Addr} {c : Nat} {ds : List Dfn} (hk : P.underlying t = some (.slice e)) (h : HasDefs w0 a c ds) (hb : Below w0.heap.size w0 w) : ∃ qs : List DefAt, qs.map (·.d) = ds ∧ (∀ q ∈ qs, q.ok w0) ∧ Src P 3 t (.slice a ds.length c) ds.length (defsV qs) w := by
  rcases h.place with rfl | ⟨b, off, rfl⟩
  · refine ⟨[], rfl, (fun q hq => by cases hq), ?_⟩
    cases a with
    | none => exact Src.ofNil w hk c
    | some a => exact Src.ofSlice w hk a 0 c [] (by simp) (fun j u hu => by simp at hu) (fun u hu => by cases hu)
  · obtain ⟨qs, h1, h2, h3⟩ := h.list
    have hl : qs.length = ds.length := by rw [← h1]; simp
    refine ⟨qs, h1, h2, Src.ofSlice w hk ⟨b, off, none⟩ ds.length c (defsV qs) (by rw [defsV_len, hl]) (fun j u hu => ?_) (defsV_one qs)⟩
    have hj : j < qs.length * 3 := by
      have := (List.getElem?_eq_some_iff.1 hu).1
      rwa [defsV_len] at this
    have e0 : (⟨b, off, none⟩ : Addr).add j = ⟨b, off + j, none⟩ := by unfold Addr.add; split <;> simp_all
    rw [e0]
    have hq : j / 3 < qs.length := by omega
    obtain ⟨g1, g2, g3⟩ := defsV_get qs (j / 3) hq
    obtain ⟨k1', k2', k3'⟩ := h3 (j / 3) hq
    have k1 := cellL hb k1'
    have k2 := cellL hb k2'
    have k3 := cellL hb k3'
    rcases (by omega : j = j / 3 * 3 ∨ j = j / 3 * 3 + 1 ∨ j = j / 3 * 3 + 2) with e | e | e
    · rw [e] at hu ⊢; rw [g1] at hu; rw [k1]; exact hu
    · rw [e] at hu ⊢; rw [g2] at hu; rw [← Nat.add_assoc, k2]; exact hu
    · rw [e] at hu ⊢; rw [g3] at hu; rw [← Nat.add_assoc, k3]; exact hu
theorem wpList_appD {P : Program} (w : World) {ops : Array Oper} {rest : List Oper} {o : Oper} {a : Act} {Q : Exit → Act → World → Prop} (hwd : Region.wanted o (yielded ops a.tmps) = true) (s x : Operand) (t : TypeId)
    (ho : o.op = .call { callee := .builtin .append, args := #[s, x], argTypes := #[t, t] })
    (base : Nat) (e : TypeId) (i : TypeInfo) (z : Value) (ht : P.underlying t = some (.slice e)) (hi : P.info? e = some i) (hz : i.zero = some z) (hsize : i.size = 3) (hby : i.bytes = 64) (hzs : z.cells.size = 3)
    (v : Value) (qs : List DefAt) (hs : a.eval s = v) (hown : OwnD e w base v qs) (xa : Option Addr) (xc : Nat) (ds : List Dfn) (hx : a.eval x = .slice xa ds.length xc) (w0 : World) (hsrc : HasDefs w0 xa xc ds) (hb0 : Below w0.heap.size w0 w)
    (h63 : qs.length + ds.length ≤ 1000000) (hbase : base ≤ w.heap.size)
    (h : ∀ (v' : Value) (w' : World) (qs' : List DefAt), qs'.map (·.d) = ds → (∀ q ∈ qs', q.ok w0) → OwnD e w' base v' (qs ++ qs') → w.grownBy w' v.ownBlock → wpList P ops Q rest (a.put o.dst v') w') : wpList P ops Q (o :: rest) a w := by
  obtain ⟨qs', h1, h2, hs3⟩ := src_defs (P := P) ht hsrc hb0
  have hl : qs'.length = ds.length := by rw [← h1]; simp
  have hown' : w.ownsRow base e i.size v qs.length (defsV qs) := by rw [hsize]; exact hown
  rw [← hsize] at hs3
  obtain ⟨v', w', hr, k2, k3⟩ := run_append_src (P := P) w base t t o.type e i z 64 ht hi hz hby (by rw [hsize]; exact hzs) v qs.length (defsV qs) hown' _ ds.length (defsV qs') hs3 (by unfold maxLen; omega) (by omega) hbase
  rw [hsize] at k2
  refine wpList_step fun K hK => ?_
  rw [if_pos hwd]
  unfold Oper.wp execOp
  simp only [ho, resolve, invoke, builtin, Sem.run_bind, Sem.run_pure, Result.andThen_ok, List.map_toArray, List.map_cons, List.map_nil, hs, hx, hr]
  refine hK _ _ (h v' w' qs' h1 h2 ?_ k3)
  unfold OwnD
  rw [List.length_append, hl]
  have e : defsV (qs ++ qs') = defsV qs ++ defsV qs' := by simp [defsV]
  rw [e]
  exact k2
theorem OwnD.made (T : TypeId) (w : World) : OwnD T (w.alloc (.cells #[] T)) w.heap.size (.slice (some ⟨w.heap.size, 0, none⟩) 0 0) [] := by
  refine ⟨rfl, .inr ⟨w.heap.size, 0, #[], rfl, Nat.le_refl _, ?_, Nat.le_refl _, by unfold maxLen; omega, rfl, rfl⟩⟩
  show (w.heap.push _)[w.heap.size]? = _; simp
end Go.Proofs.YthodifgohdaedabDoor
