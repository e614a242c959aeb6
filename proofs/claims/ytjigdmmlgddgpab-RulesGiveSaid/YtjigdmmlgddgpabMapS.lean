/- A map of texts by texts, of the call's own: what it reads as, where each key is put in once. -/
import Derived.Test.YtjigdmmlgddgpabLabX
import Derived.Maps.Own
import Derived.Maps.OwnSet
import Derived.StringKeys
namespace Go.Proofs.Ytjigdmmlgddgpab
open Go.RowKit Go.Maps Go.WideMaps

theorem keyS : Keyed Try.prog 9 := string_keyed Try.underlying9
def litS (s : ByteArray) : Lit := .string s.data.toList
theorem litS_inj {s t : ByteArray} (h : litS s = litS t) : s = t := by
  simp only [litS, Lit.string.injEq] at h
  exact bytes_ext (by simpa using h)
theorem litS_key (s : ByteArray) : WideAt.IsKeyLit (litS s) := trivial
/-- the map at b has just the keys and values of K -/
def MapIs (w : World) (b : Nat) (K : List Lab) : Prop := ∃ D : DataW Unit, w.ownsMap Try.prog 9 (plainElem Try.prog 9) b K.length D ∧ Maps.Tidy D ∧ Maps.size D = K.length ∧
  (∀ s, Maps.has D (litS s) = hasN K s) ∧ ∀ s, D.atKey (litS s) (.lit (.string [])) = .lit (litS (getL K s))
theorem MapIs.call {w w1 : World} {b : Nat} {K : List Lab} (h : MapIs w b K) (hb : Below w.heap.size w w1) : MapIs w1 b K := by
  obtain ⟨D, h1, h2⟩ := h
  exact ⟨D, h1.kept (row := none) ⟨hb.os, hb.tape, hb.output, hb.size, fun k hk _ => hb.block k hk⟩ (by simp), h2⟩
theorem MapIs.made (w : World) : MapIs (w.alloc (.map #[] 0)) w.heap.size [] :=
  ⟨.map [], World.ownsMap_made _ _ _ _, Maps.tidy_empty, rfl, fun _ => rfl, fun _ => rfl⟩
theorem getL_snoc {K : List Lab} {l : Lab} (hn : hasN K l.1 = false) (s : ByteArray) : getL (K ++ [l]) s = if s = l.1 then l.2 else getL K s := by
  unfold getL
  rw [List.find?_append]
  by_cases h : s = l.1
  · subst h
    rw [if_pos rfl]
    have : K.find? (fun m => decide (m.1 = l.1)) = none := by
      rw [List.find?_eq_none]
      intro m hm e
      rw [(hasN_iff K l.1).2 ⟨m, hm, of_decide_eq_true e⟩] at hn
      cases hn
    rw [this]
    simp
  · rw [if_neg h]
    have : [l].find? (fun m => decide (m.1 = s)) = none := by
      simp [Ne.symm h]
    rw [this]
    simp
theorem hasN_snoc (K : List Lab) (l : Lab) (s : ByteArray) : hasN (K ++ [l]) s = (decide (s = l.1) || hasN K s) := by
  unfold hasN
  rw [List.any_append, Bool.or_comm]
  simp [eq_comm]
/-- what a key is put in behind the others -/
theorem MapIs.put {D : DataW Unit} {w' : World} {b : Nat} {K : List Lab} {l : Lab} (h2 : Maps.Tidy D) (h3 : Maps.size D = K.length)
    (h4 : ∀ s, Maps.has D (litS s) = hasN K s) (h5 : ∀ s, D.atKey (litS s) (.lit (.string [])) = .lit (litS (getL K s))) (hn : hasN K l.1 = false)
    (h' : w'.ownsMap Try.prog 9 (plainElem Try.prog 9) b (K.length + 1) (D.put (litS l.1) (.lit (litS l.2)))) : MapIs w' b (K ++ [l]) := by
  refine ⟨_, by rw [List.length_append]; exact h', h2.put (litS_key l.1) _, ?_, fun s => ?_, fun s => ?_⟩
  · rw [Maps.size_put h2, h4, hn, h3, List.length_append]; rfl
  · rw [hasN_snoc]
    by_cases h : s = l.1
    · subst h
      rw [Maps.has_put_same h2.isMap (litS_key l.1)]
      simp
    · rw [Maps.has_put_other (fun e => h (litS_inj e)), h4]
      simp [h]
  · rw [getL_snoc hn]
    by_cases h : s = l.1
    · subst h
      rw [Maps.atKey_put_same h2.isMap (litS_key l.1), if_pos rfl]
    · rw [Maps.atKey_put_other (fun e => h (litS_inj e)), if_neg h]
      exact h5 s
theorem zeroS (w : World) : (zeroValue 9).run Try.prog w = .ok (.string ⟨#[]⟩) w := by kernel_rfl
theorem elemS (s : ByteArray) (h : s.size ≤ maxLen) : plainElem (H := Unit) Try.prog 9 (.string s) = some (.lit (litS s), []) := plainElem_string Try.underlying9 h
theorem elemS_inv {v : Value} {s : ByteArray} {ps : List MemPlace} (h : plainElem (H := Unit) Try.prog 9 v = some (.lit (litS s), ps)) : v = .string s := by
  obtain ⟨t, rfl, hz, _⟩ := plainElem_string_inv Try.underlying9 h
  simp only [Prod.mk.injEq, DataW.lit.injEq] at hz
  rw [litS_inj (s := s) (t := t) hz.1]
theorem MapIs.look2 {w : World} {b : Nat} {K : List Lab} (h : MapIs w b K) (s : ByteArray) (hs : s.size ≤ maxLen) :
    (Instr.lookup 41 (.map (some b)) (.string s) true).run Try.prog w = .ok (.tuple #[.string (getL K s), .bool (hasN K s)]) w := by
  obtain ⟨D, h1, h2, h3, h4, h5⟩ := h
  obtain ⟨v, ps, hrun, hv⟩ := h1.look_ok keyS Try.underlying41 (zeroS w) (elemS ⟨#[]⟩ (by unfold maxLen; decide)) (keyOf_string_mk Try.underlying9 hs)
  have hat : D.atKey (Lit.string s.data.toList) (.lit (litS ⟨#[]⟩)) = .lit (litS (getL K s)) := h5 s
  rw [hat] at hv
  rw [hrun, elemS_inv hv]
  have := h4 s
  unfold litS at this
  rw [this]
theorem MapIs.look1 {w : World} {b : Nat} {K : List Lab} (h : MapIs w b K) (s : ByteArray) (hs : s.size ≤ maxLen) :
    (Instr.lookup 41 (.map (some b)) (.string s) false).run Try.prog w = .ok (.string (getL K s)) w := by
  obtain ⟨D, h1, h2, h3, h4, h5⟩ := h
  obtain ⟨v, ps, hrun, hv⟩ := h1.lookup keyS Try.underlying41 (zeroS w) (elemS ⟨#[]⟩ (by unfold maxLen; decide)) (keyOf_string_mk Try.underlying9 hs)
  have hat : D.atKey (Lit.string s.data.toList) (.lit (litS ⟨#[]⟩)) = .lit (litS (getL K s)) := h5 s
  rw [hat] at hv
  rw [hrun, elemS_inv hv]
theorem MapIs.len {w : World} {b : Nat} {K : List Lab} (h : MapIs w b K) (ty : TypeId) : (Builtin.len_ #[41] ty #[.map (some b)]).run Try.prog w = .ok (.int .i64 (K.length : Nat)) w := by
  obtain ⟨D, h1, h2, h3, h4, h5⟩ := h
  rw [h1.len Try.underlying41 ty, h3]
set_option maxRecDepth 100000 in
theorem wpList_putS (w : World) {ops : Array Oper} {rest : List Oper} {o : Oper} {a : Act} {Q : Exit → Act → World → Prop}
    (hg : o.guard = none) (m x v : Operand) (hop : o.op = Op.mapUpdate 41 m x v ∨ o.op = Op.insert 41 m x v) (b : Nat) (K : List Lab) (l : Lab)
    (hm : a.eval m = .map (some b)) (h : MapIs w b K) (hK1 : K.length ≤ 1000) (hx : a.eval x = .string l.1) (hv : a.eval v = .string l.2) (hn : hasN K l.1 = false) (hs1 : l.1.size ≤ maxLen) (hs2 : l.2.size ≤ maxLen)
    (hK : ∀ w', MapIs w' b (K ++ [l]) → w.grownBy w' (some b) → wpList Try.prog ops Q rest (a.put o.dst undef) w') :
    wpList Try.prog ops Q (o :: rest) a w := by
  obtain ⟨D, h1, h2, h3, h4, h5⟩ := h
  refine wpList_plain hg fun K' hK' => ?_
  obtain ⟨w', hrun, r1, r2⟩ := h1.update keyS Try.underlying41 (by unfold maxLen; omega) (keyOf_string_mk Try.underlying9 hs1) (elemS l.2 hs2)
  unfold Oper.wp
  rcases hop with hop | hop
  all_goals
    simp [execOp, hop, hm, hx, hv, hrun, Result.andThen]
    exact hK' _ _ (hK w' (MapIs.put h2 h3 h4 h5 hn r1) r2)
end Go.Proofs.Ytjigdmmlgddgpab
