/- The document's own reader of one label: as a function on lists, and its contract. -/
import Derived.Test.YtdlhmjdjoadioabGreatDoorZLabPP
namespace Go.Proofs.YtdlhmjdjoadioabGreatDoor
open Go.RowKit

def eqAt : Bs → Nat
  | [] => 0
  | c :: r => if c = 61 then 0 else eqAt r + 1
theorem eqAt_le : ∀ d, eqAt d ≤ d.length
  | [] => Nat.le_refl _
  | c :: r => by
    have := eqAt_le r
    rw [eqAt]
    split <;> simp <;> omega
theorem eqAt_ne : ∀ (d : Bs) (i : Nat) (h : i < d.length), i < eqAt d → d[i] ≠ 61
  | c :: r, i, h, hi => by
    rw [eqAt] at hi
    split at hi
    · omega
    · rename_i hc
      cases i with
      | zero => exact hc
      | succ i => exact eqAt_ne r i (by simpa using h) (by omega)
theorem eqAt_is : ∀ (d : Bs) (h : eqAt d < d.length), d[eqAt d] = 61
  | c :: r, h => by
    by_cases hc : c = 61
    · simp [eqAt, hc]
    · have e : eqAt (c :: r) = eqAt r + 1 := by rw [eqAt, if_neg hc]
      have h' : eqAt r < r.length := by rw [e] at h; simpa using h
      have := eqAt_is r h'
      simpa [e] using this
theorem eqAt_name (n q : Bs) (h : 61 ∉ n) : eqAt (n ++ 61 :: q) = n.length := by
  induction n with
  | nil => simp [eqAt]
  | cons c n ih =>
    have hc : ¬ c = 61 := fun e => h (by simp [e])
    rw [List.cons_append, eqAt, if_neg hc, ih (fun e => h (by simp [e])), List.length_cons]
def readL : Bs → Bs → Option (Bs × Bs)
  | [], _ => none
  | 34 :: r, acc => some (acc, r)
  | [92], _ => none
  | 92 :: d :: r, acc => readL r (acc ++ [d])
  | c :: r, acc => readL r (acc ++ [c])
theorem readL_plain (c : UInt8) (r acc : Bs) (h1 : ¬ c = 34) (h2 : ¬ c = 92) : readL (c :: r) acc = readL r (acc ++ [c]) := by
  rw [readL]
  · exact h1
  · intro h; exact absurd h h2
  · intro d r' h; exact absurd h h2
theorem readL_quote (u : Bs) : ∀ (acc r : Bs), readL (quoteL u ++ 34 :: r) acc = some (acc ++ u, r) := by
  induction u with
  | nil => intro acc r; simp [quoteL, readL]
  | cons c u ih =>
    intro acc r
    rw [quoteL_cons]
    by_cases hc : c = 34 ∨ c = 92
    · rw [if_pos hc]
      simp only [List.cons_append, List.nil_append]
      rw [readL, ih]
      simp
    · rw [if_neg hc]
      simp only [List.cons_append, List.nil_append]
      rw [readL_plain _ _ _ (fun h => hc (.inl h)) (fun h => hc (.inr h)), ih]
      simp
def rdOne (d : Bs) : Option (Lab × Bs) :=
  match d.drop (eqAt d + 1) with
  | [] => none
  | c :: q => if c = 34 then
      (readL q []).map fun p => ((⟨(d.take (eqAt d)).toArray⟩, ⟨p.1.toArray⟩), p.2)
    else none
theorem rdOne_labT {l : Lab} (h : labC l = true) (r : Bs) : rdOne (labT l ++ r) = some (l, r) := by
  simp only [labC, Bool.and_eq_true] at h
  have e : labT l ++ r = l.1.data.toList ++ 61 :: 34 :: (quoteL l.2.data.toList ++ 34 :: r) := by simp [labT]
  have hq := eqAt_name l.1.data.toList (34 :: (quoteL l.2.data.toList ++ 34 :: r)) (name_no61 h.1)
  unfold rdOne
  rw [e, hq, List.take_left, ← List.drop_drop, List.drop_left]
  simp [readL_quote]

/-! ### the document's own Parse -/
def signLb (out : List Lab) : UInt8 := if out = [] then 123 else 44
def loopR : Nat → Bs → List Lab → Option (List Lab × Bs)
  | 0, s, out => some (out, s)
  | _ + 1, [], out => some (out, [])
  | n + 1, c :: s, out => if c = signLb out then
      match rdOne s with
      | some (l, r) => loopR n r (out ++ [l])
      | none => none
    else some (out, c :: s)
theorem loopR_text : ∀ (new out : List Lab) (n : Nat), (∀ l ∈ new, labC l = true) → new.length < n → out ≠ [] →
    loopR n ((new.flatMap fun x => 44 :: labT x) ++ [125]) out = some (out ++ new, [125])
  | [], out, 0, _, hn, _ => by cases hn
  | [], out, n + 1, _, _, ho => by simp [loopR, signLb, ho]
  | l :: r, out, 0, _, hn, _ => by cases hn
  | l :: r, out, n + 1, hl, hn, ho => by
    have ih := loopR_text r (out ++ [l]) n (fun x hx => hl x (by simp [hx])) (by simp at hn; omega) (by simp)
    have e : ((l :: r).flatMap fun x => 44 :: labT x) ++ [125] = 44 :: (labT l ++ ((r.flatMap fun x => 44 :: labT x) ++ [125])) := by simp
    rw [e, loopR, if_pos (by simp [signLb, ho]), rdOne_labT (hl l (by simp))]
    simp only [ih, List.append_assoc, List.singleton_append]
theorem loopR_all {ls : List Lab} (h : rightC ls = true) (hne : ls ≠ []) : loopR 9 (textL ls) [] = some (ls, [125]) := by
  obtain ⟨h1, h2, _⟩ := (rightC_iff ls).1 h
  cases ls with
  | nil => exact absurd rfl hne
  | cons l r =>
    have e : textL (l :: r) = 123 :: (labT l ++ ((r.flatMap fun x => 44 :: labT x) ++ [125])) := by simp [textL, bodyT]
    have ih := loopR_text r [l] 8 (fun x hx => h2 x (by simp [hx])) (by simp at h1; omega) (by simp)
    rw [e, loopR, if_pos (by simp [signLb]), rdOne_labT (h2 l (by simp))]
    simp only [List.nil_append, ih]
    rfl
end Go.Proofs.YtdlhmjdjoadioabGreatDoor
