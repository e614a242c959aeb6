/- Sets that are read: the program's reader and the document's own, as functions on lists; just the texts of sets are read, and as those. Mathematics alone. -/
import Derived.Test.YtdlhmjdjoadioabGreatDoorLabM
import Derived.Lib.IndexMore
namespace Go.Proofs.YtdlhmjdjoadioabGreatDoor

/-! ### what begins with a text -/
theorem hasPrefix_iff (s p : Bs) : Lib.hasPrefix s p = true ↔ ∃ r, s = p ++ r := by
  rw [Lib.hasPrefix, List.isPrefixOf_iff_prefix]
  exact ⟨fun ⟨r, h⟩ => ⟨r, h.symm⟩, fun ⟨r, h⟩ => ⟨r, h.symm⟩⟩
theorem hasSuffix_iff (s p : Bs) : Lib.hasSuffix s p = true ↔ ∃ r, s = r ++ p := by
  rw [Lib.hasSuffix, List.isSuffixOf_iff_suffix]
  exact ⟨fun ⟨r, h⟩ => ⟨r, h.symm⟩, fun ⟨r, h⟩ => ⟨r, h.symm⟩⟩
theorem trimPrefix_app (p r : Bs) : Lib.trimPrefix (p ++ r) p = r := by
  rw [Lib.trimPrefix, if_pos ((hasPrefix_iff _ _).2 ⟨r, rfl⟩), List.drop_left]
theorem trimSuffix_app (p r : Bs) : Lib.trimSuffix (r ++ p) p = r := by
  rw [Lib.trimSuffix, if_pos ((hasSuffix_iff _ _).2 ⟨r, rfl⟩)]
  simp
theorem cut_found {s sep : Bs} (h : (Lib.cut s sep).2.2 = true) : s = (Lib.cut s sep).1 ++ (sep ++ (Lib.cut s sep).2.1) := by
  unfold Lib.cut at h ⊢
  split at h
  · rename_i h0
    rw [if_pos h0]
    rcases Lib.index_spec s sep with ⟨h1, _⟩ | ⟨i, h1, h2, h3, _⟩
    · omega
    · rw [h1, Int.toNat_natCast]
      rw [Lib.occAt, List.isPrefixOf_iff_prefix] at h3
      obtain ⟨t, ht⟩ := h3
      have : s.drop (i + sep.length) = t := by rw [← List.drop_drop, ← ht, List.drop_left]
      rw [this, ht, List.take_append_drop]
  · cases h
theorem cut_at (n q : Bs) (h : 61 ∉ n) : Lib.cut (n ++ 61 :: 34 :: q) [61, 34] = (n, q, true) := by
  have hi : Lib.index (n ++ 61 :: 34 :: q) [61, 34] = n.length := by
    induction n with
    | nil => simp [Lib.index]
    | cons c n ih =>
      have hc : ¬ 61 = c := fun e => h (by simp [e])
      have := ih (fun e => h (by simp [e]))
      rw [List.cons_append, Lib.index, this]
      have hp : List.isPrefixOf [61, 34] (c :: (n ++ 61 :: 34 :: q)) = false := by simp [List.isPrefixOf, hc]
      have hne : ((n.length : Int) == -1) = false := by rw [beq_eq_false_iff_ne]; omega
      simp only [hp, hne, List.length_cons]
      simp
  unfold Lib.cut
  rw [hi, if_pos (by omega), Int.toNat_natCast, List.take_left]
  rw [← List.drop_drop, List.drop_left]
  rfl

/-! ### the program's reader -/
def readQ : Bs → Bs → Option (Bs × Bs)
  | [], _ => none
  | 34 :: r, acc => some (acc, r)
  | [92], _ => none
  | 92 :: d :: r, acc => if d = 34 ∨ d = 92 then readQ r (acc ++ [d]) else none
  | c :: r, acc => readQ r (acc ++ [c])
def rdLab (s ahead : Bs) : Option (Lab × Bs) :=
  if Lib.hasPrefix s ahead = true then
    if (Lib.cut (Lib.trimPrefix s ahead) [61, 34]).2.2 = true then
      match readQ (Lib.cut (Lib.trimPrefix s ahead) [61, 34]).2.1 [] with
      | some (v, r) => some ((⟨(Lib.cut (Lib.trimPrefix s ahead) [61, 34]).1.toArray⟩, ⟨v.toArray⟩), r)
      | none => none
    else none
  else none
def aheadL (acc : List Lab) : Bs := if acc = [] then [] else [44]
def rdAll : Nat → Bs → List Lab → Option (List Lab)
  | 0, _, acc => some acc
  | n + 1, s, acc => if s = [] then some acc else
    match rdLab s (aheadL acc) with
    | some (l, r) => rdAll n r (acc ++ [l])
    | none => none
def parseL (s : Bs) : Option (List Lab) :=
  if Lib.hasPrefix s [123] = true then
    if Lib.hasSuffix (Lib.trimPrefix s [123]) [125] = true then
      match rdAll 9 (Lib.trimSuffix (Lib.trimPrefix s [123]) [125]) [] with
      | some l => if rightC l = true then some l else none
      | none => none
    else none
  else none

theorem quoteL_cons (c : UInt8) (v : Bs) : quoteL (c :: v) = (if c = 34 ∨ c = 92 then [92, c] else [c]) ++ quoteL v := rfl
theorem readQ_sound : ∀ (s acc v r : Bs), readQ s acc = some (v, r) → ∃ u, v = acc ++ u ∧ s = quoteL u ++ 34 :: r := by
  intro s acc
  induction s, acc using readQ.induct with
  | case1 acc => intro v r h; cases h
  | case2 r0 acc => intro v r h; simp only [readQ, Option.some.injEq, Prod.mk.injEq] at h; obtain ⟨rfl, rfl⟩ := h; exact ⟨[], by simp, rfl⟩
  | case3 acc => intro v r h; simp [readQ] at h
  | case4 d r0 acc hd ih =>
    intro v r h
    rw [readQ, if_pos hd] at h
    obtain ⟨u, h1, h2⟩ := ih v r h
    exact ⟨d :: u, by rw [h1]; simp, by rw [quoteL_cons, if_pos hd, h2]; rfl⟩
  | case5 d r0 acc hd =>
    intro v r h
    rw [readQ, if_neg hd] at h
    cases h
  | case6 c r0 acc h1 h2 h3 ih =>
    intro v r h
    have hc : ¬ (c = 34 ∨ c = 92) := by
      rintro (rfl | rfl)
      · exact h1 rfl
      · cases r0 with
        | nil => exact h2 rfl rfl
        | cons d r0 => exact h3 d r0 rfl rfl
    rw [readQ] at h
    · obtain ⟨u, e1, e2⟩ := ih v r h
      exact ⟨c :: u, by rw [e1]; simp, by rw [quoteL_cons, if_neg hc, e2]; rfl⟩
    all_goals first | exact h1 | exact h2 | exact h3
theorem readQ_quote (u : Bs) : ∀ (acc r : Bs), readQ (quoteL u ++ 34 :: r) acc = some (acc ++ u, r) := by
  induction u with
  | nil => intro acc r; simp [quoteL, readQ]
  | cons c u ih =>
    intro acc r
    rw [quoteL_cons]
    by_cases hc : c = 34 ∨ c = 92
    · rw [if_pos hc]
      simp only [List.cons_append, List.nil_append]
      rw [readQ, if_pos hc, ih]
      simp
    · rw [if_neg hc]
      simp only [List.cons_append, List.nil_append]
      rw [readQ, ih]
      · simp
      · rintro rfl; exact hc (.inl rfl)
      · rintro rfl; exact (hc (.inr rfl)).elim
      · rintro d r' rfl; exact (hc (.inr rfl)).elim

theorem rdLab_sound {s ahead : Bs} {l : Lab} {r : Bs} (h : rdLab s ahead = some (l, r)) : s = ahead ++ (labT l ++ r) := by
  unfold rdLab at h
  split at h
  · rename_i h1
    obtain ⟨t, rfl⟩ := (hasPrefix_iff _ _).1 h1
    rw [trimPrefix_app] at h
    split at h
    · rename_i h2
      have hc := cut_found h2
      generalize Lib.cut t [61, 34] = C at *
      cases hq : readQ C.2.1 [] with
      | none => rw [hq] at h; cases h
      | some p =>
        rw [hq] at h
        obtain ⟨v, r'⟩ := p
        simp only [Option.some.injEq, Prod.mk.injEq] at h
        obtain ⟨rfl, rfl⟩ := h
        obtain ⟨u, e1, e2⟩ := readQ_sound _ _ _ _ hq
        rw [hc, e2]
        simp only [List.nil_append] at e1
        subst e1
        simp [labT]
    · cases h
  · cases h
theorem name_no61 {s : Bs} (h : nameC s = true) : 61 ∉ s := by
  intro hm
  simp only [nameC, Bool.and_eq_true] at h
  have := List.all_eq_true.1 h.2 61 hm
  exact absurd this (by decide)
theorem rdLab_labT {l : Lab} (h : labC l = true) (ahead r : Bs) : rdLab (ahead ++ (labT l ++ r)) ahead = some (l, r) := by
  simp only [labC, Bool.and_eq_true] at h
  have hc := cut_at l.1.data.toList (quoteL l.2.data.toList ++ 34 :: r) (name_no61 h.1)
  have e : labT l ++ r = l.1.data.toList ++ 61 :: 34 :: (quoteL l.2.data.toList ++ 34 :: r) := by simp [labT]
  unfold rdLab
  rw [if_pos ((hasPrefix_iff _ _).2 ⟨_, rfl⟩), trimPrefix_app, e, hc, if_pos rfl]
  simp only [readQ_quote]
  simp

theorem rdAll_sound : ∀ (n : Nat) (s : Bs) (acc out : List Lab), rdAll n s acc = some out → n + acc.length = 9 → out.length ≤ 8 → bodyT out = bodyT acc ++ s
  | 0, s, acc, out, h, hn, ho => by
    simp only [rdAll, Option.some.injEq] at h
    subst h
    omega
  | n + 1, s, acc, out, h, hn, ho => by
    rw [rdAll] at h
    split at h
    · rename_i hs
      simp only [Option.some.injEq] at h
      subst h; subst hs; simp
    · cases hr : rdLab s (aheadL acc) with
      | none => rw [hr] at h; cases h
      | some p =>
        rw [hr] at h
        obtain ⟨l, r⟩ := p
        have ih := rdAll_sound n r (acc ++ [l]) out h (by simp; omega) ho
        rw [ih, bodyT_snoc, rdLab_sound hr]
        simp [aheadL]
theorem flat_ahead (acc : List Lab) (l : Lab) : aheadL (acc ++ [l]) = [44] := by simp [aheadL]
def restT (acc : List Lab) : List Lab → Bs
  | [] => []
  | l :: r => aheadL acc ++ (labT l ++ r.flatMap fun x => 44 :: labT x)
theorem restT_snoc (acc : List Lab) (l : Lab) (r : List Lab) : restT (acc ++ [l]) r = r.flatMap fun x => 44 :: labT x := by
  cases r with
  | nil => rfl
  | cons l' r' => rw [restT, flat_ahead]; simp
theorem restT_nil (ls : List Lab) : restT [] ls = bodyT ls := by
  cases ls with
  | nil => rfl
  | cons l r => rw [restT, bodyT]; simp [aheadL]
theorem rdAll_text : ∀ (new acc : List Lab) (n : Nat), (∀ l ∈ new, labC l = true) → new.length < n → rdAll n (restT acc new) acc = some (acc ++ new)
  | [], acc, 0, _, hn => by cases hn
  | [], acc, n + 1, _, _ => by simp [rdAll, restT]
  | l :: r, acc, 0, _, hn => by cases hn
  | l :: r, acc, n + 1, hl, hn => by
    have hne : restT acc (l :: r) ≠ [] := by simp [restT, labT]
    have hr : rdLab (restT acc (l :: r)) (aheadL acc) = some (l, restT (acc ++ [l]) r) := by
      rw [restT_snoc, restT]
      exact rdLab_labT (hl l (by simp)) (aheadL acc) _
    have ih := rdAll_text r (acc ++ [l]) n (fun x hx => hl x (by simp [hx])) (by simp at hn; omega)
    rw [rdAll, if_neg hne, hr]
    simp only [ih, List.append_assoc, List.singleton_append]

theorem parseL_sound {s : Bs} {l : List Lab} (h : parseL s = some l) : rightC l = true ∧ textL l = s := by
  unfold parseL at h
  split at h
  · rename_i h1
    obtain ⟨t, rfl⟩ := (hasPrefix_iff _ _).1 h1
    rw [trimPrefix_app] at h
    split at h
    · rename_i h2
      obtain ⟨m, rfl⟩ := (hasSuffix_iff _ _).1 h2
      rw [trimSuffix_app] at h
      cases hr : rdAll 9 m [] with
      | none => rw [hr] at h; cases h
      | some p =>
        rw [hr] at h
        simp only at h
        split at h
        · rename_i h3
          simp only [Option.some.injEq] at h
          subst h
          have := rdAll_sound 9 m [] p hr rfl ((rightC_iff p).1 h3).1
          exact ⟨h3, by rw [textL, this]; rfl⟩
        · cases h
    · cases h
  · cases h
theorem parseL_text {ls : List Lab} (h : rightC ls = true) : parseL (textL ls) = some ls := by
  obtain ⟨h1, h2, _⟩ := (rightC_iff ls).1 h
  have e : textL ls = [123] ++ (bodyT ls ++ [125]) := rfl
  have hr := rdAll_text ls [] 9 h2 (by omega)
  rw [restT_nil] at hr
  unfold parseL
  rw [e, if_pos ((hasPrefix_iff _ _).2 ⟨_, rfl⟩), trimPrefix_app, if_pos ((hasSuffix_iff _ _).2 ⟨_, rfl⟩), trimSuffix_app, hr]
  simp [h]
theorem parseL_iff (s : Bs) (l : List Lab) : parseL s = some l ↔ rightC l = true ∧ textL l = s :=
  ⟨parseL_sound, fun ⟨h, e⟩ => by rw [← e, parseL_text h]⟩
end Go.Proofs.YtdlhmjdjoadioabGreatDoor
