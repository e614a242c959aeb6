/- What is read of a text, written, is the text but for its lines that are left out. Mathematics alone. -/
import Derived.Test.YtolbhhokpelchaaDoorMg1
import Derived.Lib.Join
namespace Go.Proofs.YtolbhhokpelchaaDoor

theorem defC_mk {d : Dfn} (h1 : bwC d.kind.data.toList = true) (h2 : ∀ k ∈ d.keys, bwC k.data.toList = true) (h3 : ∀ v ∈ d.vals, bvC v.data.toList = true) (h4 : d.keys.length = d.vals.length) (h5 : d.keys.length ≤ 64) (h6 : d.keys.Nodup) : defC d = true := by
  refine (defC_iff d).2 ⟨h1, h5, h4, fun i hi => ?_⟩
  rw [okD_at d.keys d.vals i hi (by omega)]
  have hk := h2 d.keys[i] (List.getElem_mem hi)
  have hv := h3 (d.vals[i]'(by omega)) (List.getElem_mem _)
  have hm : memB d.keys[i] (d.keys.take i) = false := by
    rw [← Bool.not_eq_true, memB_iff, List.mem_take_iff_getElem]
    rintro ⟨j, hj, e⟩
    rw [List.nodup_iff_pairwise_ne, List.pairwise_iff_getElem] at h6
    exact h6 j i (by omega) hi (by omega) e
  rw [hk, hv, hm]
  rfl
theorem keyLines_snoc : ∀ (ks vs : List ByteArray) (k v : ByteArray), ks.length = vs.length → keyLines (ks ++ [k]) (vs ++ [v]) = keyLines ks vs ++ [9 :: (k.data.toList ++ 9 :: v.data.toList)]
  | [], [], k, v, _ => by simp [keyLines]
  | [], _ :: _, _, _, h => by simp at h
  | _ :: _, [], _, _, h => by simp at h
  | a :: ks, b :: vs, k, v, h => by
    have ih := keyLines_snoc ks vs k v (by simpa using h)
    simp only [List.cons_append, keyLines, ih]
def openLines (d : Dfn) : List Bs := (preD ++ (d.kind.data.toList ++ [32, 123])) :: keyLines d.keys d.vals
def lastLines (ds : List Dfn) : List Bs := match ds.getLast? with | none => [] | some d => openLines d
def stLines (st : PSt) : List Bs := if st.2 = true then defsLines st.1.dropLast ++ lastLines st.1 else defsLines st.1
def GoodS (st : PSt) : Prop := st.1.length ≤ 64 ∧ ∀ d ∈ st.1, defC d = true
theorem defsLines_app (a b : List Dfn) : defsLines (a ++ b) = defsLines a ++ defsLines b := by simp [defsLines]
theorem open_at (p : List Dfn) (d : Dfn) : stLines (p ++ [d], true) = defsLines p ++ openLines d := by
  have e : stLines (p ++ [d], true) = defsLines (p ++ [d]).dropLast ++ lastLines (p ++ [d]) := rfl
  rw [e, List.dropLast_concat]
  unfold lastLines
  rw [List.getLast?_concat]
theorem shut_at (p : List Dfn) : stLines (p, false) = defsLines p := rfl

theorem line_back {ds : List Dfn} {op : Bool} {l : Bs} {st' : PSt} (hg : GoodS (ds, op)) (hne : op = true → ds ≠ []) (h : lineS (ds, op) l = some st') :
    GoodS st' ∧ (st'.2 = true → st'.1 ≠ []) ∧ stLines st' = stLines (ds, op) ++ [l] := by
  obtain ⟨h64, hd⟩ := hg
  cases op with
  | false =>
    have hls : lineS (ds, false) l = match beginsL l with | none => none | some m => if ds.length < 64 then some (ds ++ [openD m], true) else none := rfl
    rw [hls] at h
    cases hb : beginsL l with
    | none => rw [hb] at h; cases h
    | some m =>
      rw [hb] at h
      simp only at h
      obtain ⟨rfl, hm⟩ := (beginsL_iff l m).1 hb
      by_cases hlt : ds.length < 64
      · rw [if_pos hlt] at h
        obtain rfl := Option.some.inj h
        refine ⟨⟨by simp; omega, fun d hx => ?_⟩, fun _ => by simp, ?_⟩
        · rw [List.mem_append, List.mem_singleton] at hx
          rcases hx with hx | rfl
          · exact hd d hx
          · exact defC_mk hm (fun k hk => by cases hk) (fun v hv => by cases hv) rfl (by simp [openD]) (by simp [openD])
        · rw [open_at, shut_at]
          rfl
      · rw [if_neg hlt] at h; cases h
  | true =>
    obtain ⟨p, d, rfl⟩ : ∃ p d, ds = p ++ [d] := by
      rcases List.eq_nil_or_concat ds with e | ⟨p, d, e⟩
      · exact absurd e (hne rfl)
      · exact ⟨p, d, by rw [e]; try simp⟩
    have hdd := hd d (by simp)
    obtain ⟨w1, w2, w3, w4, w5⟩ := def_words hdd
    have hls : lineS (p ++ [d], true) l = if l = [125] then some (p ++ [d], false) else (match keyL l with | none => none | some kv => (match growL (p ++ [d]) kv.1 kv.2 with | none => none | some ds => some (ds, true))) := rfl
    rw [hls] at h
    by_cases hl : l = [125]
    · rw [if_pos hl] at h
      obtain rfl := Option.some.inj h
      refine ⟨⟨h64, hd⟩, (fun h => by cases h), ?_⟩
      rw [open_at, shut_at, defsLines_app, hl]
      have e : defsLines [d] = openLines d ++ [[125]] := by simp [defsLines, defLines, openLines]
      rw [e, List.append_assoc]
    · rw [if_neg hl] at h
      cases hk : keyL l with
      | none => rw [hk] at h; cases h
      | some kv =>
        obtain ⟨k, v⟩ := kv
        rw [hk] at h
        simp only at h
        obtain ⟨rfl, hbk, hbv⟩ := keyL_inv hk
        have hgr : growL (p ++ [d]) k v = if memB (bytesA k) d.keys || decide (d.keys.length = 64) then none else some (p ++ [addK d k v]) := by
          unfold growL
          rw [List.getLast?_concat]
          simp only
          rw [List.dropLast_concat]
        rw [hgr] at h
        by_cases hc : (memB (bytesA k) d.keys || decide (d.keys.length = 64)) = true
        · rw [if_pos hc] at h; cases h
        · rw [if_neg hc] at h
          simp only at h
          obtain rfl := Option.some.inj h
          simp only [Bool.or_eq_true, decide_eq_true_eq, not_or] at hc
          have hnm : bytesA k ∉ d.keys := fun hm => hc.1 ((memB_iff _ _).2 hm)
          refine ⟨⟨by simpa using h64, fun x hx => ?_⟩, fun _ => by simp, ?_⟩
          · rw [List.mem_append, List.mem_singleton] at hx
            rcases hx with hx | rfl
            · exact hd x (by simp [hx])
            · refine defC_mk w1 (fun x hx => ?_) (fun x hx => ?_) (by simp [addK, w4]) (by simp [addK]; omega) ?_
              · simp only [addK, List.mem_append, List.mem_singleton] at hx
                rcases hx with hx | rfl
                · exact w2 x hx
                · exact hbk
              · simp only [addK, List.mem_append, List.mem_singleton] at hx
                rcases hx with hx | rfl
                · exact w3 x hx
                · exact hbv
              · simp only [addK]
                rw [List.nodup_append]
                exact ⟨keys_nodup hdd, by simp, fun a ha b hb e => by
                  rw [List.mem_singleton] at hb
                  subst hb
                  exact hnm (e ▸ ha)⟩
          · rw [open_at, open_at]
            have e : openLines (addK d k v) = openLines d ++ [9 :: (k ++ 9 :: v)] := by
              unfold openLines addK
              simp only
              rw [keyLines_snoc _ _ _ _ w4]
              rfl
            rw [e, List.append_assoc]
theorem run_back : ∀ (ls : List Bs) (st : PSt) (n : Nat) (st' : PSt), GoodS st → (st.2 = true → st.1 ≠ []) → runN st n ls = .inl st' → GoodS st' ∧ stLines st' = stLines st ++ ls.filter (fun l => !blankL l)
  | [], st, n, st', hg, _, h => by
    simp only [runN, Sum.inl.injEq] at h
    subst h
    exact ⟨hg, by simp⟩
  | l :: ls, (ds, op), n, st', hg, hne, h => by
    simp only [runN, stepL] at h
    by_cases hb : blankL l = true
    · rw [if_pos hb] at h
      simp only at h
      have ih := run_back ls (ds, op) (n + 1) st' hg hne h
      rw [List.filter_cons_of_neg (by simp [hb])]
      exact ih
    · rw [if_neg hb] at h
      cases hl : lineS (ds, op) l with
      | none => rw [hl] at h; cases h
      | some s2 =>
        rw [hl] at h
        simp only at h
        obtain ⟨g2, n2, e2⟩ := line_back hg hne hl
        obtain ⟨g3, e3⟩ := run_back ls s2 (n + 1) st' g2 n2 h
        refine ⟨g3, ?_⟩
        rw [e3, e2, List.filter_cons_of_pos (by simp [hb])]
        simp
theorem unL_lines (s : Bs) : unL (linesB s).1 ++ (linesB s).2 = s := by
  obtain ⟨t, rfl⟩ : ∃ t : Bs, s = t.reverse := ⟨s.reverse, by simp⟩
  induction t with
  | nil => rfl
  | cons c s ih =>
    rw [List.reverse_cons, linesB_snoc]
    unfold lnStep
    by_cases hc : c = 10
    · rw [if_pos hc]
      simp only
      rw [unL_app]
      conv => rhs; rw [← ih]
      simp [unL, hc]
    · rw [if_neg hc]
      simp only
      conv => rhs; rw [← ih]
      simp
/-- what is read of a text, written, is its lines that are not left out -/
theorem parse_back {s : Bs} (h : (parseB s).2.1 = 0) : defsC (parseB s).1 = true ∧ defsT (parseB s).1 = unL ((linesB s).1.filter fun l => !blankL l) ∧ s = unL (linesB s).1 ∧ s.length ≤ 8192 := by
  obtain ⟨h8, hr, hrun, _⟩ := parse_ok h
  obtain ⟨hg, hl⟩ := run_back _ _ _ _ ⟨by simp, (fun d hd => by cases hd)⟩ (fun h => by cases h) hrun
  refine ⟨?_, ?_, ?_, h8⟩
  · have := hg
    simp only [GoodS] at this
    simpa [defsC] using this
  · rw [← defs_un]
    rw [shut_at] at hl
    rw [hl]
    rfl
  · have := unL_lines s
    rw [hr, List.append_nil] at this
    exact this.symm
theorem parse_noL (s : Bs) (h : (parseB s).2.1 ≠ 0) : (parseB s).1 = [] := by
  unfold parseB at h ⊢
  split
  · rfl
  · rename_i h8
    rw [if_neg h8] at h
    cases hr : runN ([], false) 1 (linesB s).1 with
    | inr k => rfl
    | inl st =>
      rw [hr] at h
      simp only [endP] at h ⊢
      split
      · rfl
      · rename_i hh
        rw [if_neg hh] at h
        exact absurd rfl h
theorem unL_len_le (ls : List Bs) (p : Bs → Bool) : (unL (ls.filter p)).length ≤ (unL ls).length ∧ ((∃ l ∈ ls, p l = false) → (unL (ls.filter p)).length < (unL ls).length) := by
  induction ls with
  | nil => exact ⟨Nat.le_refl _, fun ⟨l, hl, _⟩ => by cases hl⟩
  | cons l ls ih =>
    have e : ∀ x : List Bs, unL (l :: x) = l ++ [10] ++ unL x := fun x => by simp [unL]
    by_cases hp : p l = true
    · rw [List.filter_cons_of_pos hp, e, e]
      refine ⟨by simp; omega, ?_⟩
      rintro ⟨x, hx, hf⟩
      rw [List.mem_cons] at hx
      rcases hx with rfl | hx
      · rw [hp] at hf; cases hf
      · have := ih.2 ⟨x, hx, hf⟩
        simp; omega
    · rw [List.filter_cons_of_neg hp, e]
      refine ⟨by simp; omega, fun _ => by simp; omega⟩
/-- a text that is ended, without what ends its last line, falls into its lines -/
theorem rows_of {s : Bs} (hne : s ≠ []) (hs : s = unL (linesB s).1) : (linesB (Lib.trimSuffix s [10])).1 ++ [(linesB (Lib.trimSuffix s [10])).2] = (linesB s).1 := by
  have hn := (linesB_none s).1
  generalize (linesB s).1 = ls at *
  rcases List.eq_nil_or_concat ls with e | ⟨a, b, e⟩
  · subst e; exact absurd hs hne
  · have e' : ls = a ++ [b] := by rw [e]; try simp
    subst e'
    have h1 : s = (unL a ++ b) ++ [10] := by rw [hs, unL_app]; simp [unL]
    rw [h1, (suf_snoc _ _).2]
    have ha := lines_un a (fun l hl => hn l (by simp [hl]))
    have hb := linesB_plain b (hn b (by simp))
    rw [linesB_app _ _ (by rw [ha]), ha, hb]
    simp
end Go.Proofs.YtolbhhokpelchaaDoor
/- A line that is left out, put in anywhere: what the text is read as then. Mathematics alone. -/
namespace Go.Proofs.YtolbhhokpelchaaDoor

theorem runN_shift : ∀ (ls : List Bs) (st : PSt) (n : Nat), runN st (n + 1) ls = match runN st n ls with | .inl x => .inl x | .inr k => .inr (k + 1)
  | [], st, n => rfl
  | l :: ls, st, n => by
    simp only [runN]
    cases stepL st l with
    | none => rfl
    | some s2 =>
      simp only
      exact runN_shift ls s2 (n + 1)
theorem runN_bound : ∀ (ls : List Bs) (st : PSt) (n k : Nat), runN st n ls = .inr k → n ≤ k ∧ k < n + ls.length
  | [], st, n, k, h => by simp [runN] at h
  | l :: ls, st, n, k, h => by
    simp only [runN] at h
    cases hs : stepL st l with
    | none =>
      rw [hs] at h
      simp only [Sum.inr.injEq] at h
      subst h
      simp
    | some s2 =>
      rw [hs] at h
      have := runN_bound ls s2 (n + 1) k h
      simp only [List.length_cons]
      omega
/-- a line's number, where a line is put in behind the first n -/
def bumpI (n : Nat) (A : Int) : Int := if (n : Int) < A then A + 1 else A
theorem bump_no {n : Nat} {A : Int} (h : ¬ (n : Int) < A) : bumpI n A = A := if_neg h
theorem bump_yes {n : Nat} {A : Int} (h : (n : Int) < A) : bumpI n A = A + 1 := if_pos h
theorem notes_parse (a b : List Bs) (x : Bs) (hx : blankL x = true) (hn : ∀ l ∈ a ++ x :: b, ∀ c ∈ l, c ≠ 10) (h1 : (unL (a ++ b)).length ≤ 8192) (h2 : (unL (a ++ x :: b)).length ≤ 8192) :
    parseB (unL (a ++ x :: b)) = ((parseB (unL (a ++ b))).1, (parseB (unL (a ++ b))).2.1, bumpI a.length (parseB (unL (a ++ b))).2.2) := by
  have e1 := lines_un (a ++ b) (fun l hl => hn l (by
    rw [List.mem_append] at hl ⊢
    rcases hl with hl | hl
    · exact .inl hl
    · exact .inr (List.mem_cons_of_mem _ hl)))
  have e2 := lines_un (a ++ x :: b) hn
  have p1 : parseB (unL (a ++ b)) = endP (a ++ b) [] (runN ([], false) 1 (a ++ b)) := by
    unfold parseB
    rw [if_neg (by omega), e1]
  have p2 : parseB (unL (a ++ x :: b)) = endP (a ++ x :: b) [] (runN ([], false) 1 (a ++ x :: b)) := by
    unfold parseB
    rw [if_neg (by omega), e2]
  rw [p1, p2, runN_app, runN_app]
  cases hr : runN ([], false) 1 a with
  | inr k =>
    have := runN_bound _ _ _ _ hr
    simp only [endP]
    rw [bump_no (by omega)]
  | inl st =>
    have hs : stepL st x = some st := by unfold stepL; rw [if_pos hx]
    simp only [runN]
    rw [hs]
    simp only
    rw [runN_shift]
    cases hb : runN st (1 + a.length) b with
    | inr k =>
      have := runN_bound _ _ _ _ hb
      simp only [endP]
      rw [bump_yes (by omega)]
      simp
    | inl st' =>
      simp only [endP]
      by_cases h : ([] : Bs) ≠ [] ∨ st'.2 = true
      · rw [if_pos h, if_pos h]
        simp only
        rw [bump_yes (by simp; omega)]
        simp only [List.length_append, List.length_cons]
        simp only [Prod.mk.injEq, true_and]
        omega
      · rw [if_neg h, if_neg h]
        simp only
        rw [bump_no (by omega)]
theorem join_un : ∀ (ls : List Bs), ls ≠ [] → Lib.join ls [10] ++ [10] = unL ls
  | [], h => absurd rfl h
  | [l], _ => by simp [Lib.join_one, unL]
  | l :: m :: ls, _ => by
    have ih := join_un (m :: ls) (by simp)
    have e : unL (l :: m :: ls) = l ++ [10] ++ unL (m :: ls) := by simp [unL]
    rw [e, ← ih, Lib.join_cons, Lib.join_cons]
    simp [Lib.joinTail]
/-- a text with a byte 10 at its end: its lines -/
theorem ended {s : Bs} (h : Lib.hasSuffix s [10] = true) : s ≠ [] ∧ s = unL (linesB s).1 := by
  rw [Lib.hasSuffix, List.isSuffixOf_iff_suffix] at h
  obtain ⟨t, rfl⟩ := h
  refine ⟨by simp, ?_⟩
  have h2 : (linesB (t ++ [10])).2 = [] := by rw [linesB_snoc]; rfl
  have := unL_lines (t ++ [10])
  rw [h2, List.append_nil] at this
  exact this.symm
end Go.Proofs.YtolbhhokpelchaaDoor
