/- The contract of 'alive' of layer 9, and of the document's own Like of two routes that hold none. -/
import Derived.Test.YtdlhmjdjoadioabDoorFndB
import Derived.Test.YtdlhmjdjoadioabDoorLabM
import Derived.Test.YtdlhmjdjoadioabDoorInfo
import Derived.Maps.Own
import Derived.Maps.OwnSet
import Derived.StringKeys
namespace Go.Proofs.YtdlhmjdjoadioabDoor
open Go.RowKit

def opsR : RtAt := ⟨.mk ⟨#[111, 112, 115]⟩ [] [] 0 1 1 [] false [], none, 0, none, 0, none, 0, none, 0⟩
theorem ops_ok (w : World) : opsR.ok w :=
  .flat _ ⟨⟨HasMats.nil w none 0 (by unfold maxLen; omega), HasStrs.nil w none 0 (Nat.zero_le _), HasStrs.nil w none 0 (Nat.zero_le _), by decide, ⟨by decide, by decide, by decide⟩, by decide, by decide, by decide⟩, Nat.le_refl _, by show 0 ≤ maxLen; omega⟩ rfl
theorem ops_find : opsR.n.find [] [] = [([], opsR.n)] := by
  simp [opsR, Rt.find, findRs]
theorem proj_one {ts : List TgtAt} {p : Bs} {n : Rt} (h : proj ts = [(p, n)]) : ∃ t, ts = [t] ∧ t.1.data.toList = p ∧ t.2.n = n := by
  match ts, h with
  | [t], h => simp [proj] at h; exact ⟨t, rfl, by simpa using h.1, h.2⟩
set_option maxHeartbeats 3200000 in
set_option maxRecDepth 100000 in
theorem alive_any (w : World) : Calls Tryd.prog 9 #[] w (BoolB true w) := by
  have hf := find_any opsR none 0 [] w (ops_ok w) (HasLabs.nil w none 0 (by unfold maxLen; omega)) (by decide)
  have hf2 : Calls Tryd.prog 10 #[.agg #[.string ⟨#[111, 112, 115]⟩, .slice none 0 0, .slice none 0 0, .int .i64 0, .int .i64 1, .int .i64 1, .slice none 0 0, .bool false, .slice none 0 0], .slice none 0 0] w
      (fun e w' => ∃ b off c', e = .returned (.tuple #[.slice (some ⟨b, off, none⟩) 1 c', .int .i64 0]) ∧ w'.cell? ⟨b, off, none⟩ = some (.string ⟨#[]⟩) ∧ w'.cell? ⟨b, off + 1, none⟩ = some (.string ⟨#[111, 112, 115]⟩) ∧ Below w.heap.size w w') := by
    refine hf.mono ?_
    rintro e w' (⟨h1, _⟩ | ⟨_, a', c', ts, rfl, hp, ht, hb⟩)
    · exact absurd h1 (by decide)
    · rw [ops_find] at hp
      obtain ⟨t, rfl, h1, h2⟩ := proj_one hp
      obtain ⟨_, _, _, h3 | ⟨b, off, rfl, _, hc⟩⟩ := ht
      · cases h3
      · have hl := hc 0 (by simp)
        have l1 := hl.1
        have l2 := hl.2.1
        simp only [List.getElem_cons_zero, Nat.zero_mul, Nat.add_zero] at l1 l2
        have e1 : t.1 = ⟨#[]⟩ := bytes_ext h1
        rw [e1] at l1
        rw [h2] at l2
        exact ⟨b, off, c', rfl, l1, l2, hb⟩
  have HF := Lib.hid hf2
  clear hf hf2
  go_enter Tryd.func9, Tryd.ntmps9
  go_wp2_with (go_at_call 10; refine HF.out.mono ?_; rintro e w2 ⟨b, off, c', rfl, l1, l2, hb2⟩)
  go_ret
  exact ⟨rfl, hb2⟩
end Go.Proofs.YtdlhmjdjoadioabDoor
/- A set of texts (a map of texts by truth), of the call's own: what it reads as, where each key is put in once. -/
namespace Go.Proofs.YtdlhmjdjoadioabDoor
open Go.RowKit Go.Maps Go.WideMaps

theorem keyT : Keyed Tryd.prog 9 := string_keyed Tryd.underlying9
def litT (s : ByteArray) : Lit := .string s.data.toList
theorem litT_inj {s t : ByteArray} (h : litT s = litT t) : s = t := by
  simp only [litT, Lit.string.injEq] at h
  exact bytes_ext (by simpa using h)
theorem litT_key (s : ByteArray) : WideAt.IsKeyLit (litT s) := trivial
def memK (K : List ByteArray) (s : ByteArray) : Bool := K.any fun x => decide (x = s)
theorem memK_snoc (K : List ByteArray) (l s : ByteArray) : memK (K ++ [l]) s = (decide (s = l) || memK K s) := by
  unfold memK
  rw [List.any_append, Bool.or_comm]
  simp [eq_comm]
/-- the map at b has just the keys of K -/
def SetIs (w : World) (b : Nat) (K : List ByteArray) : Prop := ∃ D : DataW Unit, w.ownsMap Tryd.prog 9 (plainElem Tryd.prog 4) b K.length D ∧ Maps.Tidy D ∧ Maps.size D = K.length ∧
  (∀ s, Maps.has D (litT s) = memK K s) ∧ ∀ s, D.atKey (litT s) (.lit (.bool false)) = .lit (.bool (memK K s))
theorem SetIs.call {w w1 : World} {b : Nat} {K : List ByteArray} (h : SetIs w b K) (hb : Below w.heap.size w w1) : SetIs w1 b K := by
  obtain ⟨D, h1, h2⟩ := h
  exact ⟨D, h1.kept (row := none) ⟨hb.os, hb.tape, hb.output, hb.size, fun k hk _ => hb.block k hk⟩ (by simp), h2⟩
theorem SetIs.lt {w : World} {b : Nat} {K : List ByteArray} (h : SetIs w b K) : b < w.heap.size := by
  obtain ⟨D, h1, _⟩ := h
  exact h1.lt
theorem SetIs.made (w : World) : SetIs (w.alloc (.map #[] 0)) w.heap.size [] :=
  ⟨.map [], World.ownsMap_made _ _ _ _, Maps.tidy_empty, rfl, fun _ => rfl, fun _ => rfl⟩
theorem SetIs.put {D : DataW Unit} {w' : World} {b : Nat} {K : List ByteArray} {l : ByteArray} (h2 : Maps.Tidy D) (h3 : Maps.size D = K.length)
    (h4 : ∀ s, Maps.has D (litT s) = memK K s) (h5 : ∀ s, D.atKey (litT s) (.lit (.bool false)) = .lit (.bool (memK K s))) (hn : memK K l = false)
    (h' : w'.ownsMap Tryd.prog 9 (plainElem Tryd.prog 4) b (K.length + 1) (D.put (litT l) (.lit (.bool true)))) : SetIs w' b (K ++ [l]) := by
  refine ⟨_, by rw [List.length_append]; exact h', h2.put (litT_key l) _, ?_, fun s => ?_, fun s => ?_⟩
  · rw [Maps.size_put h2, h4, hn, h3, List.length_append]; rfl
  · rw [memK_snoc]
    by_cases h : s = l
    · subst h
      rw [Maps.has_put_same h2.isMap (litT_key s)]
      simp
    · rw [Maps.has_put_other (fun e => h (litT_inj e)), h4]
      simp [h]
  · rw [memK_snoc]
    by_cases h : s = l
    · subst h
      rw [Maps.atKey_put_same h2.isMap (litT_key s)]
      simp
    · rw [Maps.atKey_put_other (fun e => h (litT_inj e)), h5]
      simp [h]
theorem zeroB (w : World) : (zeroValue 4).run Tryd.prog w = .ok (.bool false) w := by kernel_rfl
theorem elemB (b : Bool) : plainElem (H := Unit) Tryd.prog 4 (.bool b) = some (.lit (.bool b), []) := plainElem_bool Tryd.underlying4 b
theorem elemB_inv {v : Value} {b : Bool} {ps : List MemPlace} (h : plainElem (H := Unit) Tryd.prog 4 v = some (.lit (.bool b), ps)) : v = .bool b := by
  unfold plainElem at h
  cases v with
  | bool x =>
    have := elemB x
    unfold plainElem at this
    rw [this] at h
    simp only [Option.some.injEq, Prod.mk.injEq, DataW.lit.injEq, Lit.bool.injEq] at h
    rw [h.1]
  | _ => simp_all [Tryd.underlying4]
theorem SetIs.look {w : World} {b : Nat} {K : List ByteArray} (h : SetIs w b K) (s : ByteArray) (hs : s.size ≤ maxLen) :
    (Instr.lookup 48 (.map (some b)) (.string s) false).run Tryd.prog w = .ok (.bool (memK K s)) w := by
  obtain ⟨D, h1, h2, h3, h4, h5⟩ := h
  obtain ⟨v, ps, hrun, hv⟩ := h1.lookup keyT Tryd.underlying48 (zeroB w) (elemB false) (keyOf_string_mk Tryd.underlying9 hs)
  have hat : D.atKey (Lit.string s.data.toList) (.lit (.bool false)) = .lit (.bool (memK K s)) := h5 s
  rw [hat] at hv
  rw [hrun, elemB_inv hv]
set_option maxRecDepth 100000 in
theorem wpList_putK (w : World) {ops : Array Oper} {rest : List Oper} {o : Oper} {a : Act} {Q : Exit → Act → World → Prop}
    (hg : o.guard = none) (m x v : Operand) (hop : o.op = Op.mapUpdate 48 m x v) (b : Nat) (K : List ByteArray) (l : ByteArray)
    (hm : a.eval m = .map (some b)) (h : SetIs w b K) (hK1 : K.length ≤ 1000000) (hx : a.eval x = .string l) (hv : a.eval v = .bool true) (hn : memK K l = false) (hs1 : l.size ≤ maxLen)
    (hK : ∀ w', SetIs w' b (K ++ [l]) → w.grownBy w' (some b) → wpList Tryd.prog ops Q rest (a.put o.dst undef) w') :
    wpList Tryd.prog ops Q (o :: rest) a w := by
  obtain ⟨D, h1, h2, h3, h4, h5⟩ := h
  refine wpList_plain hg fun K' hK' => ?_
  obtain ⟨w', hrun, r1, r2⟩ := h1.update keyT Tryd.underlying48 (by unfold maxLen; omega) (keyOf_string_mk Tryd.underlying9 hs1) (elemB true)
  unfold Oper.wp
  simp [execOp, hop, hm, hx, hv, hrun, Result.andThen]
  exact hK' _ _ (hK w' (SetIs.put h2 h3 h4 h5 hn r1) r2)
end Go.Proofs.YtdlhmjdjoadioabDoor
