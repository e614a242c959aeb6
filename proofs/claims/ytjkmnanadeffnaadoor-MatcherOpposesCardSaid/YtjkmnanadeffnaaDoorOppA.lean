/- For the walk of MatcherOpposes: an append of a matcher to a slice of the call's own; a slice of one matcher that has just been laid. -/
import Derived.Test.YtjkmnanadeffnaaDoorMatO
import Derived.Test.YtjkmnanadeffnaaDoorOwnM
import Derived.Test.YtjkmnanadeffnaaDoorAppend
import Derived.Test.YtjkmnanadeffnaaDoorMatH
namespace Go.Proofs.YtjkmnanadeffnaaDoor
open Go.RowKit Go.Maps

theorem Tryd.infoMat : (Tryd.prog.info? 25).map (fun i => (i.zero, i.size, i.bytes)) = some (some (.agg #[.string ⟨#[]⟩, .int .i64 0, .slice none 0 0]), 3, 48) := by kernel_rfl
theorem info_partsM {x : Option TypeInfo} (h : x.map (fun i => (i.zero, i.size, i.bytes)) = some (some (.agg #[.string ⟨#[]⟩, .int .i64 0, .slice none 0 0]), 3, 48)) : ∃ i, x = some i ∧ i.zero = some (.agg #[.string ⟨#[]⟩, .int .i64 0, .slice none 0 0]) ∧ i.size = 3 ∧ i.bytes = 48 := by
  cases x with
  | none => cases h
  | some i => simp at h; exact ⟨i, rfl, h.1, h.2.1, h.2.2⟩
theorem run_minFour {P : Program} (w : World) (ts : Array TypeId) (t : TypeId) (x : Nat) : (Builtin.min_ ts t #[.int .i64 (x : Int), .int .i64 4]).run P w = .ok (.int .i64 ((min x 4 : Nat) : Int)) w := by
  simp [Builtin.min_, Builtin.min2]
  repeat' split
  all_goals omega

/-- an append of one matcher, which has just been laid in a block of its own -/
theorem wpList_pushMat {P : Program} (W : World) {ops : Array Oper} {rest : List Oper} {o : Oper} {a : Act} {Q : Exit → Act → World → Prop} (hgd : o.guard = none) (s x : Operand) (t : TypeId)
    (ho : o.op = .call { callee := .builtin .append, args := #[s, x], argTypes := #[t, t] })
    (base : Nat) (e : TypeId) (i : TypeInfo) (z : Value) (ht : P.underlying t = some (.slice e)) (hi : P.info? e = some i) (hz : i.zero = some z)
    (hsize : i.size = 3) (hby : i.bytes = 48) (hzs : z.cells.size = 3)
    (v : Value) (qs : List MatAt) (hs : a.eval s = v) (hown : OwnM e W base v qs) (q : MatAt)
    (hx : a.eval x = .slice (some ⟨W.heap.size, 0, none⟩) 1 1)
    (h63 : qs.length ≤ 1000) (hbase : base ≤ W.heap.size)
    (h : ∀ (v' : Value) (w' : World), OwnM e w' base v' (qs ++ [q]) → W.grownBy w' v.ownBlock → wpList P ops Q rest (a.put o.dst v') w') :
    wpList P ops Q (o :: rest) a (W.alloc (.cells #[.string q.mat.name, .int .i64 q.mat.how, .slice q.at_ q.mat.words.length q.cap] e)) := by
  refine wpList_append_own (W.alloc (.cells #[.string q.mat.name, .int .i64 q.mat.how, .slice q.at_ q.mat.words.length q.cap] e)) hgd s x t ho base e i z 3 48 ht hi hz hsize hby hzs (by omega) v qs.length (matsV qs) hs (World.ownsRow.alloc hown _) ⟨W.heap.size, 0, none⟩ 1 1 [.string q.mat.name, .int .i64 q.mat.how, .slice q.at_ q.mat.words.length q.cap] hx rfl ?_ ?_ (by unfold maxLen; omega) (by omega) (by simp; omega) ?_
  · intro j y hy
    have e0 : (⟨W.heap.size, 0, none⟩ : Addr).add j = ⟨W.heap.size, j, none⟩ := by unfold Addr.add; split <;> simp_all
    rw [e0, World.cell?_alloc_mark W #[.string q.mat.name, .int .i64 q.mat.how, .slice q.at_ q.mat.words.length q.cap] e (0, 0) j]
    simpa using hy
  · intro y hy
    simp at hy
    rcases hy with rfl | rfl | rfl <;> rfl
  · intro v' w' hown' hg _
    refine h v' w' ?_ ⟨hg.os, hg.tape, hg.output, ?_, ?_⟩
    · unfold OwnM
      rw [← matsV_push, List.length_append]
      exact hown'
    · have := hg.size; simp at this; omega
    · intro k hk hne
      rw [hg.block k (by simp; omega) hne]
      exact Below.heap_alloc W _ k hk
/-- one matcher that has just been laid is the call's own -/
theorem own_one (T : TypeId) (w : World) (q : MatAt) : OwnM T (w.alloc (.cells #[.string q.mat.name, .int .i64 q.mat.how, .slice q.at_ q.mat.words.length q.cap] T)) w.heap.size (.slice (some ⟨w.heap.size, 0, none⟩) 1 1) [q] := by
  refine ⟨rfl, .inr ⟨w.heap.size, 1, _, rfl, Nat.le_refl _, heap_alloc_new w _, Nat.le_refl _, by unfold maxLen; omega, rfl, rfl⟩⟩
/-- a value that is read of a row of matchers -/
theorem mats_at {w : World} {b off c : Nat} {ms : List Mat} (h : HasMats w (some ⟨b, off, none⟩) c ms) (i : Nat) (hi : i < ms.length) : ∃ x y, (w.cell? ⟨b, off + i * 3, none⟩ = some (.string ms[i].name) ∧ w.cell? ⟨b, off + i * 3 + 1, none⟩ = some (.int .i64 ms[i].how) ∧ w.cell? ⟨b, off + i * 3 + 2, none⟩ = some (.slice x ms[i].words.length y)) ∧ HasStrs w x y ms[i].words ∧ ms[i].name.size ≤ maxLen ∧ (Lit.int .i64 ms[i].how).wf = true := by
  rcases h.2.2 with h4 | ⟨b', o', e, _, hc⟩
  · subst h4; simp at hi
  · cases e; exact hc i hi
end Go.Proofs.YtjkmnanadeffnaaDoor
