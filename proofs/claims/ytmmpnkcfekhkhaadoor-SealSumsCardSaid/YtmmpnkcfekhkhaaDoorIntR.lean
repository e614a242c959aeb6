/- Rows of whole numbers in a block, which are read and written; the digits of a product, and of a root: functions on lists. -/
import Derived.Test.YtmmpnkcfekhkhaaDoorRefB
namespace Go.Proofs.YtmmpnkcfekhkhaaDoor
open Go.RowKit

def addAt (X : List Nat) (k v : Nat) : List Nat := X.set k (X.getD k 0 + v)
def rowAt (X : List Nat) (i ai : Nat) (B : List Nat) : Nat → List Nat
  | 0 => X
  | j + 1 => addAt (rowAt X i ai B j) (i + j) (ai * B.getD j 0)
def convAt (A B : List Nat) : Nat → List Nat
  | 0 => List.replicate (A.length + B.length + 1) 0
  | i + 1 => rowAt (convAt A B i) i (A.getD i 0) B B.length
def carAt (X : List Nat) : Nat → List Nat × Nat
  | 0 => (X, 0)
  | i + 1 => ((carAt X i).1.set i (((carAt X i).2 + (carAt X i).1.getD i 0) % 65536), ((carAt X i).2 + (carAt X i).1.getD i 0) / 65536)
def byL (A B : List Nat) : List Nat := (carAt (convAt A B A.length) (convAt A B A.length).length).1
def overF (X : List Nat) (p n : Nat) : Nat → Bool
  | 0 => false
  | i + 1 => if X.getD i 0 = (if i = n then p else 0) then overF X p n i else decide ((if i = n then p else 0) < X.getD i 0)
def prodL (a : List Nat) (n : Nat) : List Nat := if n = 3 then byL (byL a a) a else byL a a
def rootStep (p n : Nat) (a : List Nat) (bit : Nat) : List Nat :=
  let a' := addAt a (bit / 16) (2 ^ (bit % 16))
  let x := if n = 3 then byL (byL a' a') a' else byL a' a'
  if overF x p (2 * n) x.length then a else a'
def rootAt (p n : Nat) : Nat → List Nat
  | 0 => [0, 0, 0]
  | k + 1 => rootStep p n (rootAt p n k) (36 - k)
def rootF (p n : Nat) : Nat := (65536 * (rootAt p n 37).getD 1 0 + (rootAt p n 37).getD 0 0) % 4294967296
def stepP (s : List Nat × Nat) : List Nat × Nat := (if s.1.all (fun q => s.2 % q != 0) then s.1 ++ [s.2] else s.1, s.2 + 1)
def primAt : Nat → List Nat × Nat
  | 0 => ([], 2)
  | j + 1 => stepP (primAt j)

theorem addAt_len (X : List Nat) (k v : Nat) : (addAt X k v).length = X.length := by simp [addAt]
theorem addAt_get (X : List Nat) (k v i : Nat) (hk : k < X.length) : (addAt X k v).getD i 0 = if i = k then X.getD k 0 + v else X.getD i 0 := by
  unfold addAt
  by_cases h : i = k
  · subst h; rw [if_pos rfl]; simp [List.getD, hk]
  · rw [if_neg h]; simp [List.getD, Ne.symm h]
theorem rowAt_len (X : List Nat) (i ai : Nat) (B : List Nat) : ∀ j, (rowAt X i ai B j).length = X.length
  | 0 => rfl
  | j + 1 => by rw [rowAt, addAt_len, rowAt_len X i ai B j]
theorem convAt_len (A B : List Nat) : ∀ i, (convAt A B i).length = A.length + B.length + 1
  | 0 => by simp [convAt]
  | i + 1 => by rw [convAt, rowAt_len, convAt_len A B i]
theorem carAt_len (X : List Nat) : ∀ i, (carAt X i).1.length = X.length
  | 0 => rfl
  | i + 1 => by rw [carAt]; simp [carAt_len X i]
theorem byL_len (A B : List Nat) : (byL A B).length = A.length + B.length + 1 := by rw [byL, carAt_len, convAt_len]
/-- no digit is above m -/
def Upto (X : List Nat) (m : Nat) : Prop := ∀ i, X.getD i 0 ≤ m
theorem Upto.mono {X : List Nat} {m m' : Nat} (h : Upto X m) (hm : m ≤ m') : Upto X m' := fun i => Nat.le_trans (h i) hm
theorem upto_add {X : List Nat} {m k v : Nat} (h : Upto X m) (hk : k < X.length) : Upto (addAt X k v) (m + v) := fun i => by
  rw [addAt_get X k v i hk]
  split
  · have := h k; omega
  · have := h i; omega
theorem upto_row {X : List Nat} {m i ai : Nat} {B : List Nat} {mb : Nat} (h : Upto X m) (hB : Upto B mb) : ∀ j, i + j ≤ X.length → Upto (rowAt X i ai B j) (m + j * (ai * mb))
  | 0, _ => by simpa [rowAt] using h
  | j + 1, hj => by
    have ih := upto_row (i := i) (ai := ai) h hB j (by omega)
    have hk : i + j < (rowAt X i ai B j).length := by rw [rowAt_len]; omega
    have := upto_add (v := ai * B.getD j 0) ih hk
    rw [rowAt]
    refine this.mono ?_
    have h1 : ai * B.getD j 0 ≤ ai * mb := Nat.mul_le_mul_left _ (hB j)
    rw [Nat.add_mul, Nat.one_mul]; omega
theorem upto_conv {A B : List Nat} {ma mb : Nat} (hA : Upto A ma) (hB : Upto B mb) : ∀ i, i ≤ A.length → Upto (convAt A B i) (i * (B.length * (ma * mb)))
  | 0, _ => fun j => by
    rw [convAt]
    by_cases h : j < A.length + B.length + 1
    · simp [List.getD, h]
    · simp [List.getD, h]
  | i + 1, hi => by
    have ih := upto_conv hA hB i (by omega)
    have := upto_row (i := i) (ai := A.getD i 0) ih hB B.length (by rw [convAt_len]; omega)
    rw [convAt]
    refine this.mono ?_
    have h1 : A.getD i 0 * mb ≤ ma * mb := Nat.mul_le_mul_right _ (hA i)
    have h2 : B.length * (A.getD i 0 * mb) ≤ B.length * (ma * mb) := Nat.mul_le_mul_left _ h1
    rw [Nat.add_mul, Nat.one_mul]; omega
theorem carAt_upto {X : List Nat} {m : Nat} (h : Upto X m) (hm : 65536 ≤ m) : ∀ i, Upto (carAt X i).1 m ∧ (carAt X i).2 ≤ m
  | 0 => ⟨h, Nat.zero_le _⟩
  | i + 1 => by
    obtain ⟨h1, h2⟩ := carAt_upto h hm i
    refine ⟨fun j => ?_, ?_⟩
    · rw [carAt]
      simp only [List.getD_eq_getElem?_getD, List.getElem?_set]
      split
      · split
        · simp only [Option.getD_some]; omega
        · simp
      · have := h1 j; simpa [List.getD_eq_getElem?_getD] using this
    · rw [carAt]
      have := h1 i
      show ((carAt X i).2 + (carAt X i).1.getD i 0) / 65536 ≤ m
      omega

/-- block g holds the numbers X, none of them frozen -/
def HasIs (w : World) (g : Nat) (X : List Nat) : Prop :=
  ∃ (cur : Array Value) (T : TypeId), w.heap[g]? = some (.cells cur T (0, 0)) ∧ ∀ j, j < X.length → cur[j]? = some (.int .i64 ((X.getD j 0 : Nat) : Int))
theorem HasIs.lt {w : World} {g : Nat} {X : List Nat} (h : HasIs w g X) : g < w.heap.size := by
  obtain ⟨cur, T, hg, _⟩ := h
  exact lt_of_block hg
theorem HasIs.cell {w : World} {g : Nat} {X : List Nat} (h : HasIs w g X) (j : Nat) (hj : j < X.length) : w.cell? ⟨g, j, none⟩ = some (.int .i64 ((X.getD j 0 : Nat) : Int)) := by
  obtain ⟨cur, T, hg, hc⟩ := h
  simp [World.cell?, hg, hc j hj]
theorem HasIs.free {w : World} {g : Nat} {X : List Nat} (h : HasIs w g X) (j : Nat) : w.frozen? ⟨g, j, none⟩ = false := by
  obtain ⟨cur, T, hg, _⟩ := h
  simp [World.frozen?, hg]
theorem HasIs.of_heap {w w' : World} {g : Nat} {X : List Nat} (h : HasIs w g X) (e : w'.heap[g]? = w.heap[g]?) : HasIs w' g X := by
  obtain ⟨cur, T, hg, r⟩ := h
  exact ⟨cur, T, e.trans hg, r⟩
theorem HasIs.drew {w : World} {g : Nat} {X : List Nat} (h : HasIs w g X) : HasIs w.drew g X := h.of_heap rfl
theorem HasIs.below {w w' : World} {g B : Nat} {X : List Nat} (h : HasIs w g X) (hb : Below B w w') (hg : g < B) : HasIs w' g X := h.of_heap (hb.block g hg)
theorem HasIs.call {w w' : World} {g : Nat} {X : List Nat} (h : HasIs w g X) (hb : Below w.heap.size w w') : HasIs w' g X := h.below hb h.lt
theorem HasIs.set {w : World} {g : Nat} {X : List Nat} (h : HasIs w g X) (i v : Nat) (hi : i < X.length) : HasIs (w.setCell ⟨g, i, none⟩ (.int .i64 (v : Int))) g (X.set i v) := by
  obtain ⟨cur, T, hg, hc⟩ := h
  have hlt := lt_of_block hg
  have hg' : w.heap[g] = .cells cur T (0, 0) := by simpa [Array.getElem?_eq_getElem hlt] using hg
  refine ⟨cur.setIfInBounds i (.int .i64 (v : Int)), T, ?_, ?_⟩
  · show (w.heap.modify g _)[g]? = _
    rw [Array.getElem?_eq_getElem (by simpa using hlt), Array.getElem_modify_self, hg']
    rfl
  · intro j hj
    have hj' : j < X.length := by simpa using hj
    have hcj := hc j hj'
    have hci := hc i hi
    have hisz : i < cur.size := by
      rcases Nat.lt_or_ge i cur.size with h | h
      · exact h
      · rw [Array.getElem?_eq_none h] at hci; cases hci
    by_cases h : i = j
    · subst h
      simp [List.getD, hi, hisz]
    · simp [h, hcj, List.getD]
theorem HasIs.setO {w : World} {g : Nat} {X : List Nat} (h : HasIs w g X) (p : Addr) (v : Value) (hne : g ≠ p.block) : HasIs (w.setCell p v) g X := h.of_heap (Below.heap_setCell w p v g hne)
theorem HasIs.new (w : World) (X : List Nat) (T : TypeId) : HasIs (w.alloc (.cells (X.map fun x : Nat => Value.int .i64 (x : Int)).toArray T)) w.heap.size X :=
  ⟨_, T, heap_alloc_new w _, fun j hj => by simp [List.getD, hj]⟩
theorem Tryd.infoInt : (Tryd.prog.info? 3).map (fun i => (i.zero, i.size, i.bytes)) = some (some (.int .i64 0), 1, 8) := by kernel_rfl
theorem info_partsI {x : Option TypeInfo} (h : x.map (fun i => (i.zero, i.size, i.bytes)) = some (some (.int .i64 0), 1, 8)) : ∃ i, x = some i ∧ i.zero = some (.int .i64 0) ∧ i.size = 1 ∧ i.bytes = 8 := by
  cases x with
  | none => cases h
  | some i => simp at h; exact ⟨i, rfl, h.1, h.2.1, h.2.2⟩
/-- a row of zeros, as it is made -/
theorem HasIs.zeros (w : World) (n : Nat) (T : TypeId) : HasIs (w.alloc (.cells (madeCells (Value.int .i64 0).cells n) T)) w.heap.size (List.replicate n 0) :=
  ⟨_, T, heap_alloc_new w _, fun j hj => by
    have hj' : j < n := by simpa using hj
    simp [madeCells, List.getD, hj', Value.cells, Nat.mod_one]⟩
end Go.Proofs.YtmmpnkcfekhkhaaDoor
