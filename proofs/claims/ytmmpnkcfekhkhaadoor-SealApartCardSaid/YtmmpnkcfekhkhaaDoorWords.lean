/- A block of memory that is known whole: its cells, what a store makes of it, what is loaded of it. It speaks of no one program. -/
import Derived.Test.YtmmpnkcfekhkhaaDoorLib2
import Derived.Test.YtmmpnkcfekhkhaaDoorSha
import Derived.Laws.Rows
import Derived.Laws.Tables
import Derived.BigQuiet
import Derived.Deep.QuietTactic
namespace Go.Proofs.YtmmpnkcfekhkhaaDoor
open Go.RowKit

def u32V (x : Nat) : Value := .int .u32 (x : Int)
def wordsV (l : List Nat) : List Value := l.map u32V
theorem wordsV_len (l : List Nat) : (wordsV l).length = l.length := by simp [wordsV]
theorem wordsV_app (a b : List Nat) : wordsV (a ++ b) = wordsV a ++ wordsV b := by simp [wordsV]

/-- block g is just these cells -/
def IsRow (w : World) (g T : Nat) (V : List Value) : Prop := w.heap[g]? = some (.cells V.toArray T (0, 0))
theorem IsRow.lt {w : World} {g T : Nat} {V : List Value} (h : IsRow w g T V) : g < w.heap.size := lt_of_block h
theorem IsRow.cell {w : World} {g T : Nat} {V : List Value} (h : IsRow w g T V) (i : Nat) (v : Value) (hv : V[i]? = some v) : w.cell? ⟨g, i, none⟩ = some v := by
  rw [cell_of_row w g i V.toArray T (0, 0) h]; simpa using hv
theorem IsRow.free {w : World} {g T : Nat} {V : List Value} (h : IsRow w g T V) (i : Nat) : w.frozen? ⟨g, i, none⟩ = false := by
  unfold IsRow at h
  simp [World.frozen?, h]
theorem IsRow.of_heap {w w' : World} {g T : Nat} {V : List Value} (h : IsRow w g T V) (e : w'.heap[g]? = w.heap[g]?) : IsRow w' g T V := e.trans h
theorem IsRow.below {w w' : World} {g T B : Nat} {V : List Value} (h : IsRow w g T V) (hb : Below B w w') (hg : g < B) : IsRow w' g T V := h.of_heap (hb.block g hg)
theorem IsRow.call {w w' : World} {g T : Nat} {V : List Value} (h : IsRow w g T V) (hb : Below w.heap.size w w') : IsRow w' g T V := h.below hb h.lt
theorem IsRow.alloc {w : World} {g T : Nat} {V : List Value} (h : IsRow w g T V) (o : Obj) : IsRow (w.alloc o) g T V := h.of_heap (Below.heap_alloc w o g h.lt)
theorem IsRow.new (w : World) (T : Nat) (V : List Value) : IsRow (w.alloc (.cells V.toArray T)) w.heap.size T V := heap_alloc_new w _
theorem IsRow.set {w : World} {g T : Nat} {V : List Value} (h : IsRow w g T V) (i : Nat) (v : Value) : IsRow (w.setCell ⟨g, i, none⟩ v) g T (V.set i v) := by
  have hlt := h.lt
  have hg' : w.heap[g] = .cells V.toArray T (0, 0) := by
    have h' := h
    unfold IsRow at h'
    simpa [Array.getElem?_eq_getElem hlt] using h'
  show (w.heap.modify g _)[g]? = _
  rw [Array.getElem?_eq_getElem (by simpa using hlt), Array.getElem_modify_self, hg']
  simp
theorem IsRow.other {w : World} {g T b i : Nat} {V : List Value} (h : IsRow w g T V) (hb : b ≠ g) (v : Value) : IsRow (w.setCell ⟨b, i, none⟩ v) g T V := by
  refine h.of_heap ?_
  show (w.heap.modify b _)[g]? = _
  rw [Array.getElem?_modify, if_neg hb]

theorem IsRow.rowSelf {w : World} {g T : Nat} {V : List Value} (h : IsRow w g T V) (U : List Value) : IsRow (w.setRow g U.toArray) g T U := setRow_heap w g _ U.toArray _ _ h
theorem IsRow.rowOther {w : World} {g b T : Nat} {V : List Value} (h : IsRow w g T V) (hb : g ≠ b) (U : Array Value) : IsRow (w.setRow b U) g T V := h.of_heap (setRow_other w b g U hb)
theorem wpList_world {P : Program} {ops : Array Oper} {Q : Exit → Act → World → Prop} {rest : List Oper} {a : Act} {w : World} (C : World → Prop) (hC : C w) (h : ∀ w', C w' → wpList P ops Q rest a w') : wpList P ops Q rest a w := h w hC
theorem wp_world {P : Program} {c : Code} {Q : Exit → Act → World → Prop} {a : Act} {w : World} (C : World → Prop) (hC : C w) (h : ∀ w', C w' → c.wp P Q a w') : c.wp P Q a w := h w hC
theorem word_at (l : List Nat) (i : Nat) (h : i < l.length) : (wordsV l)[i]? = some (.int .u32 ((l.getD i 0 : Nat) : Int)) := by
  simp [wordsV, u32V, h, List.getD_eq_getElem?_getD]
theorem getD_app_left (a b : List Nat) (i : Nat) (h : i < a.length) : (a ++ b).getD i 0 = a.getD i 0 := by
  rw [List.getD_eq_getElem?_getD, List.getD_eq_getElem?_getD, List.getElem?_append_left h]
theorem words_fill (S : List Nat) (x n t : Nat) (hS : S.length = t) (ht : t < n) :
    (wordsV (S ++ List.replicate (n - t) 0)).set t (.int .u32 (x : Int)) = wordsV (S ++ [x] ++ List.replicate (n - (t + 1)) 0) := by
  rw [show n - t = n - (t + 1) + 1 by omega, List.replicate_succ, wordsV_app]
  rw [List.set_append_right _ _ (by rw [wordsV_len]; omega), wordsV_len, hS, Nat.sub_self]
  simp [wordsV, u32V]
theorem u32_add (a b : Nat) : IntKind.u32.wrap ((a : Int) + (b : Int)) = ((add2 a b : Nat) : Int) := by
  rw [IntKind.wrap_u32, add2, Int.natCast_emod, Int.natCast_add]; rfl
theorem u32_mod (a b : Nat) : ((a : Int) + (b : Int)) % 4294967296 = ((add2 a b : Nat) : Int) := by
  rw [add2, Int.natCast_emod, Int.natCast_add]; rfl
theorem back_wrap {t k : Nat} (h : k ≤ t) (ht : t ≤ 64) (hk : k ≤ 64) : IntKind.i64.wrap ((t : Int) - (k : Int)) = (t : Int) - (k : Int) ∧ ((t : Int) - (k : Int)).toNat = t - k ∧ (k : Int) ≤ t ∧ (t : Int) - (k : Int) < 64 + 1 := by
  refine ⟨IntWalk.i64_in _ (by omega), by omega, by omega, by omega⟩
theorem below_setRow {base : Nat} {w w1 : World} {g : Nat} (h : Below base w w1) (hg : base ≤ g) (hs : base ≤ w1.heap.size) (V : Array Value) : Below base w (w1.setRow g V) := by
  refine h.grown (row := some g) ⟨rfl, rfl, rfl, by simp [World.setRow], fun k _ hk => setRow_other w1 g k _ (fun e => hk (by rw [e]))⟩ ?_ ?_
  · exact hs
  · intro k hk; cases hk; exact hg
theorem u32_ch {e f g : Nat} (he : e < 4294967296) (hf : f < 4294967296) (hg : g < 4294967296) :
    bits .xor .u32 (bits .and .u32 (e : Int) (f : Int)) (bits .and .u32 (bits .xor .u32 IntKind.u32.max (e : Int)) (g : Int)) = ((chN e f g : Nat) : Int) := by
  have h1 : bits .xor .u32 IntKind.u32.max (e : Int) = ((4294967295 - e : Nat) : Int) := by
    have h := u32_xor_nat 4294967295 e (by omega) he
    have h2 : 4294967295 ^^^ e = 4294967295 - e := by
      apply Nat.eq_of_testBit_eq
      intro i
      rw [show 4294967295 - e = 2 ^ 32 - (e + 1) by omega, Nat.testBit_two_pow_sub_succ (by omega), Nat.testBit_xor, show 4294967295 = 2 ^ 32 - 1 by omega, Nat.testBit_two_pow_sub_one]
      by_cases hi : i < 32
      · simp [hi]
      · simp [hi, Nat.testBit_lt_two_pow (x := e) (i := i) (by have := Nat.pow_le_pow_right (n := 2) (by omega) (show 32 ≤ i by omega); omega)]
    rw [h2] at h
    exact h
  rw [h1, u32_and_nat _ _ he hf, u32_and_nat _ _ (by omega) hg, u32_xor_nat _ _ (and_lt he) (and_lt (by omega))]
  rfl
theorem u32_ma {a b c : Nat} (ha : a < 4294967296) (hb : b < 4294967296) (hc : c < 4294967296) :
    bits .xor .u32 (bits .xor .u32 (bits .and .u32 (a : Int) (b : Int)) (bits .and .u32 (a : Int) (c : Int))) (bits .and .u32 (b : Int) (c : Int)) = ((maN a b c : Nat) : Int) := by
  rw [u32_and_nat _ _ ha hb, u32_and_nat _ _ ha hc, u32_and_nat _ _ hb hc, u32_xor_nat _ _ (and_lt ha) (and_lt ha), u32_xor_nat _ _ (xor_lt (and_lt ha) (and_lt ha)) (and_lt hb)]
  rfl
theorem run_storeCells_row {P : Program} (w : World) (g t : Nat) (old cells : Array Value) (hg : w.heap[g]? = some (.cells old t (0, 0))) (ho : old.size = cells.size) (h1 : cells.all (·.oneCell') = true) :
    (storeCells ⟨g, 0, none⟩ cells.toList 0).run P w = .ok () (w.setRow g cells) := by
  have := run_storeCells_from (P := P) g t cells.toList 0 old w hg (by simp; omega) (fun v hv => (Array.all_eq_true_iff_forall_mem.1 h1) v (by simpa using hv))
  simpa using this
theorem run_index_words {P : Program} (w : World) (t e n : Nat) (cs : Array Value) (i : Nat) (v : Value) (ht : P.underlying t = some (.array n e)) (he : P.underlying e = some (.int .u32))
    (hs : (P.info? e).map (·.size) = some 1) (hi : i < n) (hv : cs[i]? = some v) : (Instr.index t (.agg cs) (.int .i64 (i : Int))).run P w = .ok v w := by
  have hn : (0 : Int) ≤ (i : Int) ∧ (i : Int) < (n : Int) := by omega
  cases hq : P.info? e with
  | none => simp [hq] at hs
  | some d =>
    have hd : d.size = 1 := by simpa [hq] using hs
    simp [Instr.index, run_underlying ht, asIntOf, hi, sizeOf, typeInfo, hq, hd, part, isAgg, run_underlying he, hv]
theorem quiet_add_left {P : Program} {f : FuncId} {args : Array Value} {w : World} {a n : Nat} {v : Value}
    (h : Calls P f args (w.drewN (a + n)) fun e w' => e = .returned v ∧ w.drewN (a + n) = w') :
    Calls P f args (w.drewN (a + n)) fun e w'' => e = .returned v ∧ ∃ m, w'' = w.drewN (a + m) :=
  h.mono fun _ _ ⟨he, hm⟩ => ⟨he, n, hm.symm⟩
theorem quiet_left {P : Program} {f : FuncId} {args : Array Value} {w : World} {n : Nat} {v : Value}
    (h : Calls P f args (w.drewN n) fun e w' => e = .returned v ∧ w.drewN n = w') : Calls P f args (w.drewN n) fun e w'' => e = .returned v ∧ ∃ m, w'' = w.drewN m :=
  h.mono fun _ _ ⟨he, hm⟩ => ⟨he, n, hm.symm⟩
end Go.Proofs.YtmmpnkcfekhkhaaDoor
