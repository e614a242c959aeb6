/- What a text of blocks is read as, line by line. Mathematics alone. -/
import Derived.Test.YtolbhhokpelchaaDoorBlkM
import Derived.Lib.SplitLaws
import Derived.Lib.SlTrimSet
import Derived.Lib.IndexMore
namespace Go.Proofs.YtolbhhokpelchaaDoor

/-- the lines that are ended, without what ends them, and what is behind the last one -/
def lnStep (t : List Bs × Bs) (c : UInt8) : List Bs × Bs := if c = 10 then (t.1 ++ [t.2], []) else (t.1, t.2 ++ [c])
def linesB (s : Bs) : List Bs × Bs := s.foldl lnStep ([], [])
theorem linesB_snoc (s : Bs) (c : UInt8) : linesB (s ++ [c]) = lnStep (linesB s) c := by simp [linesB]
theorem lnFold : ∀ (s : Bs) (a : List Bs) (r : Bs), s.foldl lnStep (a, r) = (a ++ (s.foldl lnStep ([], r)).1, (s.foldl lnStep ([], r)).2)
  | [], a, r => by simp
  | c :: s, a, r => by
    by_cases h : c = 10
    · simp only [List.foldl_cons, lnStep, h, if_true]
      rw [lnFold s (a ++ [r]) [], lnFold s ([] ++ [r]) []]
      simp
    · simp only [List.foldl_cons, lnStep, if_neg h]
      rw [lnFold s a (r ++ [c]), lnFold s [] (r ++ [c])]
      try simp
theorem lnPlain : ∀ (s : Bs) (a : List Bs) (r : Bs), (∀ c ∈ s, c ≠ 10) → s.foldl lnStep (a, r) = (a, r ++ s)
  | [], a, r, _ => by simp
  | c :: s, a, r, h => by
    have h1 : c ≠ 10 := h c (by simp)
    simp only [List.foldl_cons, lnStep, if_neg h1]
    rw [lnPlain s a (r ++ [c]) (fun x hx => h x (List.mem_cons_of_mem _ hx))]
    simp
theorem linesB_plain (s : Bs) (h : ∀ c ∈ s, c ≠ 10) : linesB s = ([], s) := by rw [linesB, lnPlain s [] [] h]; rfl
theorem linesB_cut (a b : Bs) (h : ∀ c ∈ a, c ≠ 10) : linesB (a ++ 10 :: b) = (a :: (linesB b).1, (linesB b).2) := by
  unfold linesB
  rw [List.foldl_append, lnPlain a [] [] h, List.foldl_cons]
  show List.foldl lnStep ([] ++ [[] ++ a], []) b = _
  rw [lnFold b]
  simp
/-- none of them has the byte 10 inside -/
theorem linesB_none (s : Bs) : (∀ l ∈ (linesB s).1, ∀ c ∈ l, c ≠ 10) ∧ ∀ c ∈ (linesB s).2, c ≠ 10 := by
  obtain ⟨t, rfl⟩ : ∃ t : Bs, s = t.reverse := ⟨s.reverse, by simp⟩
  induction t with
  | nil => exact ⟨(fun l hl => by cases hl), (fun c hc => by cases hc)⟩
  | cons c s ih =>
    obtain ⟨h1, h2⟩ := ih
    rw [List.reverse_cons, linesB_snoc]
    unfold lnStep
    by_cases hc : c = 10
    · rw [if_pos hc]
      refine ⟨fun l hl => ?_, (fun x hx => by cases hx)⟩
      rw [List.mem_append, List.mem_singleton] at hl
      rcases hl with hl | rfl
      · exact h1 l hl
      · exact h2
    · rw [if_neg hc]
      refine ⟨h1, fun x hx => ?_⟩
      rw [List.mem_append, List.mem_singleton] at hx
      rcases hx with hx | rfl
      · exact h2 x hx
      · exact hc

abbrev PSt := List Dfn × Bool
def preD : Bs := [100, 101, 102, 105, 110, 101, 32]
def beginsL (l : Bs) : Option Bs := if l = preD ++ ((l.drop 7).take (l.length - 9) ++ [32, 123]) ∧ bwC ((l.drop 7).take (l.length - 9)) = true then some ((l.drop 7).take (l.length - 9)) else none
theorem beginsL_iff (l m : Bs) : beginsL l = some m ↔ l = preD ++ (m ++ [32, 123]) ∧ bwC m = true := by
  unfold beginsL
  constructor
  · intro h
    split at h
    · rename_i hh
      simp only [Option.some.injEq] at h
      rw [h] at hh
      exact hh
    · cases h
  · rintro ⟨rfl, h⟩
    have e : ((preD ++ (m ++ [32, 123])).drop 7).take ((preD ++ (m ++ [32, 123])).length - 9) = m := by
      simp [preD]
    rw [e, if_pos ⟨rfl, h⟩]
def isTab (c : UInt8) : Bool := c == 9
def keyL : Bs → Option (Bs × Bs)
  | [] => none
  | c :: t => if c = 9 then (match t.dropWhile (fun x => !isTab x) with | [] => none | _ :: v => if bwC (t.takeWhile fun x => !isTab x) && bvC v then some (t.takeWhile (fun x => !isTab x), v) else none) else none
def blankB (c : UInt8) : Bool := [32, 9].contains c
def blankT : Bs → Bool
  | [] => true
  | c :: _ => c == 35 || c == 59
def blankL (l : Bs) : Bool := blankT (l.dropWhile blankB)
def bytesA (l : Bs) : ByteArray := ⟨l.toArray⟩
def addK (d : Dfn) (k v : Bs) : Dfn := ⟨d.kind, d.keys ++ [bytesA k], d.vals ++ [bytesA v]⟩
def openD (m : Bs) : Dfn := ⟨bytesA m, [], []⟩
/-- a key's line behind blocks the last one of which is open -/
def growL (ds : List Dfn) (k v : Bs) : Option (List Dfn) :=
  match ds.getLast? with
  | none => none
  | some d => if memB (bytesA k) d.keys || decide (d.keys.length = 64) then none else some (ds.dropLast ++ [addK d k v])
def lineS (st : PSt) (l : Bs) : Option PSt :=
  if st.2 = true then
    (if l = [125] then some (st.1, false) else (match keyL l with | none => none | some kv => (match growL st.1 kv.1 kv.2 with | none => none | some ds => some (ds, true))))
  else (match beginsL l with | none => none | some m => if st.1.length < 64 then some (st.1 ++ [openD m], true) else none)
def stepL (st : PSt) (l : Bs) : Option PSt := if blankL l = true then some st else lineS st l
/-- lines, from number n on: where they lead, or the number of the first one that is not as it must be -/
def runN : PSt → Nat → List Bs → PSt ⊕ Nat
  | st, _, [] => .inl st
  | st, n, l :: ls => match stepL st l with | none => .inr n | some st' => runN st' (n + 1) ls
def endP (ls : List Bs) (r : Bs) : PSt ⊕ Nat → List Dfn × Int × Int
  | .inr n => ([], 250, (n : Int))
  | .inl st => if r ≠ [] ∨ st.2 = true then ([], 250, (ls.length : Int) + 1) else (st.1, 0, 0)
def parseB (s : Bs) : List Dfn × Int × Int :=
  if 8192 < s.length then ([], 2, 0) else endP (linesB s).1 (linesB s).2 (runN ([], false) 1 (linesB s).1)

/-- the program's own look at a line, with what ends it -/
def outD (line : Bs) : Option Bs :=
  if Lib.hasPrefix line preD = true ∧ Lib.hasSuffix (Lib.trimPrefix line preD) [32, 123, 10] = true ∧ bwC (Lib.trimSuffix (Lib.trimPrefix line preD) [32, 123, 10]) = true then some (Lib.trimSuffix (Lib.trimPrefix line preD) [32, 123, 10]) else none
def saidD (line : Bs) : Bs := Lib.trimSuffix line [10]
def behD (line : Bs) : Bs := Lib.trimPrefix (saidD line) [9]
def cutD9 (line : Bs) : Bs × Bs × Bool := Lib.cut (behD line) [9]
def withD (line : Bs) : Option (Bs × Bs) :=
  if Lib.hasSuffix line [10] = true ∧ Lib.hasPrefix (saidD line) [9] = true ∧ bwC (cutD9 line).1 = true ∧ bvC (cutD9 line).2.1 = true then some ((cutD9 line).1, (cutD9 line).2.1) else none
def leftT (line : Bs) : Bs := Lib.trimLeftS line [32, 9]
def leftD (line : Bs) : Bool := Lib.hasSuffix (leftT line) [10] && blankT (Lib.trimSuffix (leftT line) [10])

theorem suf_snoc (l : Bs) (c : UInt8) : Lib.hasSuffix (l ++ [c]) [c] = true ∧ Lib.trimSuffix (l ++ [c]) [c] = l := by
  have h : Lib.hasSuffix (l ++ [c]) [c] = true := by rw [Lib.hasSuffix, List.isSuffixOf_iff_suffix]; exact List.suffix_append _ _
  exact ⟨h, by rw [Lib.trimSuffix, if_pos h]; simp⟩
theorem suf_none (l p : Bs) (c : UInt8) (hp : c ∈ p) (h : ∀ x ∈ l, x ≠ c) : Lib.hasSuffix l p = false := by
  rw [← Bool.not_eq_true, Lib.hasSuffix, List.isSuffixOf_iff_suffix]
  intro hs
  exact h c (hs.mem hp) rfl
theorem pre_app (p l : Bs) : Lib.hasPrefix (p ++ l) p = true ∧ Lib.trimPrefix (p ++ l) p = l := by
  have h : Lib.hasPrefix (p ++ l) p = true := by rw [Lib.hasPrefix, List.isPrefixOf_iff_prefix]; exact List.prefix_append _ _
  exact ⟨h, by rw [Lib.trimPrefix, if_pos h]; simp⟩
theorem suf_app (p l : Bs) : Lib.hasSuffix (l ++ p) p = true ∧ Lib.trimSuffix (l ++ p) p = l := by
  have h : Lib.hasSuffix (l ++ p) p = true := by rw [Lib.hasSuffix, List.isSuffixOf_iff_suffix]; exact List.suffix_append _ _
  exact ⟨h, by rw [Lib.trimSuffix, if_pos h]; simp⟩

/-- it sees what a line begins -/
theorem outD_line (l : Bs) (_h : ∀ c ∈ l, c ≠ 10) : outD (l ++ [10]) = beginsL l := by
  cases hb : beginsL l with
  | some m =>
    obtain ⟨rfl, hm⟩ := (beginsL_iff l m).1 hb
    have e : preD ++ (m ++ [32, 123]) ++ [10] = preD ++ (m ++ [32, 123, 10]) := by simp
    unfold outD
    rw [e, (pre_app _ _).2, (suf_app _ _).2, if_pos ⟨(pre_app _ _).1, (suf_app _ _).1, hm⟩]
  | none =>
    unfold outD
    rw [if_neg]
    rintro ⟨h1, h2, h3⟩
    rw [Lib.hasPrefix, List.isPrefixOf_iff_prefix] at h1
    obtain ⟨t, ht⟩ := h1
    rw [← ht, (pre_app _ _).2] at h2 h3
    rw [Lib.hasSuffix, List.isSuffixOf_iff_suffix] at h2
    obtain ⟨m, hm⟩ := h2
    rw [← hm, (suf_app _ _).2] at h3
    have e : l = preD ++ (m ++ [32, 123]) := by
      have : (preD ++ (m ++ [32, 123])) ++ [10] = l ++ [10] := by rw [← ht, ← hm]; simp
      exact (List.append_cancel_right this).symm
    rw [(beginsL_iff l m).2 ⟨e, h3⟩] at hb
    cases hb
theorem trimPre_mem (s p : Bs) : ∀ x ∈ Lib.trimPrefix s p, x ∈ s := by
  intro x hx
  unfold Lib.trimPrefix at hx
  split at hx
  · exact List.mem_of_mem_drop hx
  · exact hx
theorem outD_rest (r : Bs) (h : ∀ c ∈ r, c ≠ 10) : outD r = none := by
  unfold outD
  rw [if_neg]
  rintro ⟨_, h2, _⟩
  rw [suf_none _ [32, 123, 10] 10 (by simp) (fun x hx => h x (trimPre_mem _ _ x hx))] at h2
  cases h2
theorem cut_tab (t : Bs) : Lib.cut t [9] = match t.dropWhile (fun x => !isTab x) with | [] => (t, [], false) | _ :: v => (t.takeWhile (fun x => !isTab x), v, true) := by
  have hidx : ∀ t : Bs, (t.dropWhile (fun x => !isTab x) = [] ∧ Lib.indexByte t 9 = -1) ∨ (∃ v, t.dropWhile (fun x => !isTab x) = 9 :: v ∧ Lib.indexByte t 9 = ((t.takeWhile fun x => !isTab x).length : Int) ∧ t = t.takeWhile (fun x => !isTab x) ++ 9 :: v) := by
    intro t
    induction t with
    | nil => exact .inl ⟨rfl, rfl⟩
    | cons c t ih =>
      by_cases hc : c = 9
      · subst hc
        exact .inr ⟨t, rfl, rfl, rfl⟩
      · have h1 : isTab c = false := by simp [isTab, hc]
        have h2 : (c == 9) = false := by simpa [isTab] using h1
        rcases ih with ⟨e1, e2⟩ | ⟨v, e1, e2, e3⟩
        · refine .inl ⟨by simp [h1, e1], by simp [Lib.indexByte, h2, e2]⟩
        · refine .inr ⟨v, by simp [h1, e1], ?_, by simp [h1]; exact e3⟩
          have h3 : (Lib.indexByte t 9 == -1) = false := by rw [beq_eq_false_iff_ne, e2]; omega
          simp [Lib.indexByte, h2, h1, e2]
  unfold Lib.cut
  rw [Lib.index_one]
  rcases hidx t with ⟨e1, e2⟩ | ⟨v, e1, e2, e3⟩
  · rw [e1, e2]; rfl
  · rw [e1, e2, if_pos (by omega)]
    simp only [Int.toNat_natCast]
    have e4 : t.take (t.takeWhile fun x => !isTab x).length = t.takeWhile fun x => !isTab x := by
      conv => lhs; rw [e3]
      rw [List.take_left' (by rw [← e3])]
    have e5 : t.drop ((t.takeWhile fun x => !isTab x).length + ([9] : Bs).length) = v := by
      conv => lhs; rw [e3]
      rw [← List.drop_drop, List.drop_left' (by rw [← e3])]
      rfl
    rw [e4, e5]
theorem bvC_nil : bvC [] = false := by decide
theorem withD_line (l : Bs) : withD (l ++ [10]) = keyL l := by
  have e1 := suf_snoc l 10
  unfold withD cutD9 behD saidD
  rw [e1.1, e1.2]
  cases l with
  | nil =>
    rw [if_neg (by rintro ⟨_, h, _⟩; cases h)]
    rfl
  | cons c t =>
    by_cases hc : c = 9
    · subst hc
      have e2 := pre_app [9] t
      rw [show (9 :: t : Bs) = [9] ++ t from rfl, e2.1, e2.2, cut_tab]
      have hk : keyL ([9] ++ t) = match t.dropWhile (fun x => !isTab x) with | [] => none | _ :: v => if bwC (t.takeWhile fun x => !isTab x) && bvC v then some (t.takeWhile (fun x => !isTab x), v) else none := rfl
      rw [hk]
      generalize t.dropWhile (fun x => !isTab x) = D
      cases D with
      | nil => simp [bvC_nil]
      | cons x v =>
        by_cases h : bwC (t.takeWhile fun x => !isTab x) = true ∧ bvC v = true
        · simp [h.1, h.2]
        · have h2 : (bwC (t.takeWhile fun x => !isTab x) && bvC v) = false := by rw [← Bool.not_eq_true, Bool.and_eq_true]; exact h
          simp [h2, h]
    · have hp : Lib.hasPrefix (c :: t) [9] = false := by
        rw [← Bool.not_eq_true, Lib.hasPrefix, List.isPrefixOf_iff_prefix]
        rintro ⟨u, hu⟩
        simp at hu
        exact hc hu.1.symm
      rw [if_neg (by rintro ⟨_, h, _⟩; rw [hp] at h; cases h)]
      simp [keyL, hc]
theorem withD_rest (r : Bs) (h : ∀ c ∈ r, c ≠ 10) : withD r = none := by
  unfold withD
  rw [suf_none r [10] 10 (by simp) h, if_neg (by rintro ⟨h, _⟩; cases h)]
theorem dropW_snoc (l : Bs) : (l ++ [10]).dropWhile blankB = l.dropWhile blankB ++ [10] := by
  induction l with
  | nil => rfl
  | cons c l ih =>
    by_cases hc : blankB c = true
    · simp [hc, ih]
    · simp [hc]
theorem leftD_line (l : Bs) : leftD (l ++ [10]) = blankL l := by
  have e : leftT (l ++ [10]) = l.dropWhile blankB ++ [10] := dropW_snoc l
  unfold leftD
  rw [e, (suf_snoc _ _).1, (suf_snoc _ _).2]
  rfl
theorem dropW_mem (p : UInt8 → Bool) (l : Bs) : ∀ x ∈ l.dropWhile p, x ∈ l := fun _x hx => (List.dropWhile_suffix p).mem hx
theorem leftD_rest (r : Bs) (h : ∀ c ∈ r, c ≠ 10) : leftD r = false := by
  unfold leftD
  rw [suf_none (leftT r) [10] 10 (by simp) (fun x hx => h x (dropW_mem _ _ x hx))]
  rfl
end Go.Proofs.YtolbhhokpelchaaDoor
