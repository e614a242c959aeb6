/- The map of signs: what 'signs' makes, and what a look-up in it gives. -/
import Derived.Test.YtkgnapojkijbgaaGreatDoorMatM
import Derived.Test.YtkgnapojkijbgaaGreatDoorInfo
import Derived.Test.YtkgnapojkijbgaaGreatDoorLib2
import Derived.BigQuiet
import Derived.Maps.OwnSet
import Derived.Maps.RangeWalk
namespace Go.Proofs.YtkgnapojkijbgaaGreatDoor
open Go.RowKit Go.Maps

def signElem (v : Value) : Option (DataW Unit × List MemPlace) :=
  match v with
  | .agg cs =>
    match cs.toList with
    | [.string t, .int .i64 n, .bool b] => some (.agg [.lit (.string t.data.toList), .lit (.int .i64 n), .lit (.bool b)], [])
    | _ => none
  | _ => none
def signV (t : ByteArray) (n : Int) (b : Bool) : Value := .agg #[.string t, .int .i64 n, .bool b]
def signD (t : Bs) (n : Int) (b : Bool) : DataW Unit := .agg [.lit (.string t), .lit (.int .i64 n), .lit (.bool b)]
theorem signElem_mk (t : ByteArray) (n : Int) (b : Bool) : signElem (.agg #[.string t, .int .i64 n, .bool b]) = some (signD t.data.toList n b, []) := rfl
theorem signElem_inv {v : Value} {z : DataW Unit × List MemPlace} (h : signElem v = some z) : ∃ t n b, v = signV t n b ∧ z = (signD t.data.toList n b, []) := by
  unfold signElem at h
  split at h
  · rename_i cs
    split at h
    · rename_i t n b hcs
      cases h
      exact ⟨t, n, b, by unfold signV; congr 1; exact Array.toList_inj.1 hcs, rfl⟩
    · cases h
  · cases h
def D1 : DataW Unit := (DataW.map []).put (.int .i64 1) (signD [61] 1 true)
def D2 : DataW Unit := D1.put (.int .i64 2) (signD [33, 61] 1 false)
def D3 : DataW Unit := D2.put (.int .i64 3) (signD [61, 126] 8 true)
def D4 : DataW Unit := D3.put (.int .i64 4) (signD [33, 126] 8 false)
theorem D4_is : D4 = .map [(.int .i64 1, signD [61] 1 true), (.int .i64 2, signD [33, 61] 1 false), (.int .i64 3, signD [61, 126] 8 true), (.int .i64 4, signD [33, 126] 8 false)] := by rfl

theorem keyI : Keyed Tryz.prog 3 := int_keyed Tryz.underlying3

theorem wpList_insert_own {H : Type} {P : Program} (w : World) {ops : Array Oper} {rest : List Oper} {o : Oper} {a : Act} {Q : Exit → Act → World → Prop}
    (hg : o.guard = none) (m x v : Operand) (t : TypeId) (hop : o.op = Op.insert t m x v)
    (k e : TypeId) (K : Keyed P k) (ht : P.underlying t = some (.map k e)) (R : Value → Option (DataW H × List MemPlace)) (b n : Nat) (D : DataW H)
    (hm : a.eval m = .map (some b)) (hown : w.ownsMap P k R b n D) (hn : n < maxLen) (key val : Value) (kl : Lit) (hx : a.eval x = key) (hv : a.eval v = val) (hkey : keyOf P k key = some kl)
    (d : DataW H) (ps : List MemPlace) (hval : R val = some (d, ps))
    (hK : ∀ w', w'.ownsMap P k R b (n + 1) (D.put kl d) → w.grownBy w' (some b) → wpList P ops Q rest (a.put o.dst undef) w') :
    wpList P ops Q (o :: rest) a w := by
  refine wpList_plain hg fun K' hK' => ?_
  obtain ⟨w', hrun, r1, r2⟩ := hown.update K ht hn hkey hval
  unfold Oper.wp
  simp [execOp, hop, hm, hx, hv, hrun, Result.andThen]
  exact hK' _ _ (hK w' r1 r2)

def Signs (w : World) (e : Ending) (w' : World) : Prop := e = .returned (.map (some w.heap.size)) ∧ w'.ownsMap Tryz.prog 3 signElem w.heap.size 4 D4 ∧ Below w.heap.size w w'

set_option maxRecDepth 100000 in
theorem signs_any (w : World) : Calls Tryz.prog 198 #[] w (Signs w) := by
  have hmm := @run_makeMap Tryz.prog
  go_enter Tryz.func198, Tryz.ntmps198
  go_wp2_with (first
    | (refine wpList_insert_own _ rfl _ _ _ 204 rfl 3 203 keyI Tryz.underlying204 signElem w.heap.size 3 _ rfl h3 (by unfold maxLen; omega) _ _ _ rfl rfl (keyOf_int_mk Tryz.underlying3 (by decide)) _ [] (signElem_mk _ _ _) ?_; intro w4 h4 g4)
    | (refine wpList_insert_own _ rfl _ _ _ 204 rfl 3 203 keyI Tryz.underlying204 signElem w.heap.size 2 _ rfl h2 (by unfold maxLen; omega) _ _ _ rfl rfl (keyOf_int_mk Tryz.underlying3 (by decide)) _ [] (signElem_mk _ _ _) ?_; intro w3 h3 g3)
    | (refine wpList_insert_own _ rfl _ _ _ 204 rfl 3 203 keyI Tryz.underlying204 signElem w.heap.size 1 _ rfl h1 (by unfold maxLen; omega) _ _ _ rfl rfl (keyOf_int_mk Tryz.underlying3 (by decide)) _ [] (signElem_mk _ _ _) ?_; intro w2 h2 g2)
    | (refine wpList_insert_own _ rfl _ _ _ 204 rfl 3 203 keyI Tryz.underlying204 signElem w.heap.size 0 (.map []) rfl (World.ownsMap_made _ _ _ _) (by unfold maxLen; omega) _ _ _ rfl rfl (keyOf_int_mk Tryz.underlying3 (by decide)) _ [] (signElem_mk _ _ _) ?_; intro w1 h1 g1))
  go_ret
  have hg := ((g1.trans g2).trans g3).trans g4
  exact ⟨rfl, h4, ((Below.refl _ _).alloc (Nat.le_refl _) _).grown hg (by simp) (fun k hk => by cases hk; exact Nat.le_refl _)⟩

theorem zero_sign (w : World) : (zeroValue 203).run Tryz.prog w = .ok (signV ⟨#[]⟩ 0 false) w := by kernel_rfl

def signVal (how : Int) : Value := match signC how with | some (t, n, b) => signV ⟨t.toArray⟩ n b | none => signV ⟨#[]⟩ 0 false
/-- 's, known := signs()[how]' -/
theorem look_sign {w : World} {b : Nat} (h : w.ownsMap Tryz.prog 3 signElem b 4 D4) (how : Int) (hw : (Lit.int .i64 how).wf = true) (c : Bool) :
    (Instr.lookup 204 (.map (some b)) (.int .i64 how) c).run Tryz.prog w = .ok (if c then .tuple #[signVal how, .bool (signC how).isSome] else signVal how) w := by
  have hk := keyOf_int_mk (P := Tryz.prog) Tryz.underlying3 hw
  have key : ∀ v ps, signElem v = some (D4.atKey (.int .i64 how) (signD [] 0 false), ps) → v = signVal how := by
    intro v ps hv
    obtain ⟨t, n, x, rfl, hz⟩ := signElem_inv hv
    simp only [Prod.mk.injEq] at hz
    have hz := hz.1
    rw [D4_is] at hz
    have done : ∀ (T : Bs) (N : Int) (X : Bool), signD t.data.toList n x = signD T N X → signV t n x = signV ⟨T.toArray⟩ N X := by
      intro T N X h
      simp only [signD, DataW.agg.injEq, List.cons.injEq, DataW.lit.injEq, Lit.string.injEq, Lit.int.injEq, Lit.bool.injEq, true_and, and_true] at h
      obtain ⟨h1, rfl, rfl⟩ := h
      have e : t = ⟨T.toArray⟩ := bytes_ext (by rw [h1])
      rw [e]
    unfold signVal
    rcases signC_cases how with ⟨rfl, e⟩ | ⟨rfl, e⟩ | ⟨rfl, e⟩ | ⟨rfl, e⟩ | ⟨h', e⟩ <;> rw [e]
    · exact done _ _ _ hz.symm
    · exact done _ _ _ hz.symm
    · exact done _ _ _ hz.symm
    · exact done _ _ _ hz.symm
    · refine done _ _ _ (hz.symm.trans ?_)
      have n1 : Lit.sameKey (.int .i64 1) (.int .i64 how) = false := decide_eq_false (by omega)
      have n2 : Lit.sameKey (.int .i64 2) (.int .i64 how) = false := decide_eq_false (by omega)
      have n3 : Lit.sameKey (.int .i64 3) (.int .i64 how) = false := decide_eq_false (by omega)
      have n4 : Lit.sameKey (.int .i64 4) (.int .i64 how) = false := decide_eq_false (by omega)
      simp [DataW.atKey, List.find?, n1, n2, n3, n4]
  have hhas : Maps.has D4 (.int .i64 how) = (signC how).isSome := by
    rw [D4_is, Maps.has_eq]
    rcases signC_cases how with ⟨rfl, e⟩ | ⟨rfl, e⟩ | ⟨rfl, e⟩ | ⟨rfl, e⟩ | ⟨h', e⟩ <;> rw [e]
    · rfl
    · rfl
    · rfl
    · rfl
    · have n1 : Lit.sameKey (.int .i64 1) (.int .i64 how) = false := decide_eq_false (by omega)
      have n2 : Lit.sameKey (.int .i64 2) (.int .i64 how) = false := decide_eq_false (by omega)
      have n3 : Lit.sameKey (.int .i64 3) (.int .i64 how) = false := decide_eq_false (by omega)
      have n4 : Lit.sameKey (.int .i64 4) (.int .i64 how) = false := decide_eq_false (by omega)
      simp [n1, n2, n3, n4]
  cases c with
  | true =>
    obtain ⟨v, ps, hrun, hv⟩ := h.look_ok keyI Tryz.underlying204 (zero_sign w) (signElem_mk _ _ _) hk
    rw [hrun, key v ps hv, hhas]
    rfl
  | false =>
    obtain ⟨v, ps, hrun, hv⟩ := h.lookup keyI Tryz.underlying204 (zero_sign w) (signElem_mk _ _ _) hk
    rw [hrun, key v ps hv]
    rfl
theorem look_sign2 {w : World} {b : Nat} (h : w.ownsMap Tryz.prog 3 signElem b 4 D4) (how : Int) (hw : (Lit.int .i64 how).wf = true) :
    (Instr.lookup 204 (.map (some b)) (.int .i64 how) true).run Tryz.prog w = .ok (.tuple #[signVal how, .bool (signC how).isSome]) w := look_sign h how hw true
theorem look_sign1 {w : World} {b : Nat} (h : w.ownsMap Tryz.prog 3 signElem b 4 D4) (how : Int) (hw : (Lit.int .i64 how).wf = true) :
    (Instr.lookup 204 (.map (some b)) (.int .i64 how) false).run Tryz.prog w = .ok (signVal how) w := look_sign h how hw false
theorem signVal_is (how : Int) : signVal how = .agg #[.string ⟨(signT how).toArray⟩, .int .i64 (mostC how), .bool (onesC how)] := by
  unfold signVal signT mostC onesC
  cases signC how with
  | none => rfl
  | some x => rfl
theorem run_sign0 (t : ByteArray) (n : Int) (b : Bool) (W : World) : (Instr.field 203 (.agg #[.string t, .int .i64 n, .bool b]) 0).run Tryz.prog W = .ok (.string t) W := by kernel_rfl
end Go.Proofs.YtkgnapojkijbgaaGreatDoor
