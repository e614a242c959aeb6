/- What is read of a text, written, is the text but for its lines that are left out. Mathematics alone. -/
import Derived.Test.YtolbhhokpelchaaDoorMg3
import Derived.Lib.Join
import Derived.Test.YtolbhhokpelchaaDoorOtlM
namespace Go.Proofs.YtolbhhokpelchaaDoor

theorem defC_mk {d : Dfn} (h1 : bwC d.kind.data.toList = true) (h2 : ∀ k ∈ d.keys, bwC k.data.toList = true) (h3 : ∀ v ∈ d.vals, bvC v.data.toList = true) (h4 : d.keys.length = d.vals.length) (h5 : d.keys.length ≤ 64) (h6 : d.keys.Nodup) : defC d = true := by
  refine (defC_iff d).2 ⟨h1, h5, h4, fun i hi => ?_⟩
  rw [okD_at d.keys d.vals i hi (by omega)]
  have hk := h2 d.keys[i] (List.getElem_mem hi)
  have hv := h3 (d.vals[i]'(by omega)) (List.getElem_mem _)
  have hm : memB d.keys[i] (d.keys.take i) = false := by
    rw [← Bool.not_eq_true, memB_iff, List.mem_take_iff_getElem]
    rintro ⟨j, hj, e⟩
    rw [List.nodup_iff_pairwise_ne, List.pairwise_iff_getElem] at h6
    exact h6 j i (by omega) hi (by omega) e
  rw [hk, hv, hm]
  rfl
theorem keyLines_snoc : ∀ (ks vs : List ByteArray) (k v : ByteArray), ks.length = vs.length → keyLines (ks ++ [k]) (vs ++ [v]) = keyLines ks vs ++ [9 :: (k.data.toList ++ 9 :: v.data.toList)]
  | [], [], k, v, _ => by simp [keyLines]
  | [], _ :: _, _, _, h => by simp at h
  | _ :: _, [], _, _, h => by simp at h
  | a :: ks, b :: vs, k, v, h => by
    have ih := keyLines_snoc ks vs k v (by simpa using h)
    simp only [List.cons_append, keyLines, ih]
def openLines (d : Dfn) : List Bs := (preD ++ (d.kind.data.toList ++ [32, 123])) :: keyLines d.keys d.vals
def lastLines (ds : List Dfn) : List Bs := match ds.getLast? with | none => [] | some d => openLines d
def stLines (st : PSt) : List Bs := if st.2 = true then defsLines st.1.dropLast ++ lastLines st.1 else defsLines st.1
def GoodS (st : PSt) : Prop := st.1.length ≤ 64 ∧ ∀ d ∈ st.1, defC d = true
theorem defsLines_app (a b : List Dfn) : defsLines (a ++ b) = defsLines a ++ defsLines b := by simp [defsLines]
theorem open_at (p : List Dfn) (d : Dfn) : stLines (p ++ [d], true) = defsLines p ++ openLines d := by
  have e : stLines (p ++ [d], true) = defsLines (p ++ [d]).dropLast ++ lastLines (p ++ [d]) := rfl
  rw [e, List.dropLast_concat]
  unfold lastLines
  rw [List.getLast?_concat]
theorem shut_at (p : List Dfn) : stLines (p, false) = defsLines p := rfl

theorem line_back {ds : List Dfn} {op : Bool} {l : Bs} {st' : PSt} (hg : GoodS (ds, op)) (hne : op = true → ds ≠ []) (h : lineS (ds, op) l = some st') :
    GoodS st' ∧ (st'.2 = true → st'.1 ≠ []) ∧ stLines st' = stLines (ds, op) ++ [l] := by
  obtain ⟨h64, hd⟩ := hg
  cases op with
  | false =>
    have hls : lineS (ds, false) l = match beginsL l with | none => none | some m => if ds.length < 64 then some (ds ++ [openD m], true) else none := rfl
    rw [hls] at h
    cases hb : beginsL l with
    | none => rw [hb] at h; cases h
    | some m =>
      rw [hb] at h
      simp only at h
      obtain ⟨rfl, hm⟩ := (beginsL_iff l m).1 hb
      by_cases hlt : ds.length < 64
      · rw [if_pos hlt] at h
        obtain rfl := Option.some.inj h
        refine ⟨⟨by simp; omega, fun d hx => ?_⟩, fun _ => by simp, ?_⟩
        · rw [List.mem_append, List.mem_singleton] at hx
          rcases hx with hx | rfl
          · exact hd d hx
          · exact defC_mk hm (fun k hk => by cases hk) (fun v hv => by cases hv) rfl (by simp [openD]) (by simp [openD])
        · rw [open_at, shut_at]
          rfl
      · rw [if_neg hlt] at h; cases h
  | true =>
    obtain ⟨p, d, rfl⟩ : ∃ p d, ds = p ++ [d] := by
      rcases List.eq_nil_or_concat ds with e | ⟨p, d, e⟩
      · exact absurd e (hne rfl)
      · exact ⟨p, d, by rw [e]; try simp⟩
    have hdd := hd d (by simp)
    obtain ⟨w1, w2, w3, w4, w5⟩ := def_words hdd
    have hls : lineS (p ++ [d], true) l = if l = [125] then some (p ++ [d], false) else (match keyL l with | none => none | some kv => (match growL (p ++ [d]) kv.1 kv.2 with | none => none | some ds => some (ds, true))) := rfl
    rw [hls] at h
    by_cases hl : l = [125]
    · rw [if_pos hl] at h
      obtain rfl := Option.some.inj h
      refine ⟨⟨h64, hd⟩, (fun h => by cases h), ?_⟩
      rw [open_at, shut_at, defsLines_app, hl]
      have e : defsLines [d] = openLines d ++ [[125]] := by simp [defsLines, defLines, openLines]
      rw [e, List.append_assoc]
    · rw [if_neg hl] at h
      cases hk : keyL l with
      | none => rw [hk] at h; cases h
      | some kv =>
        obtain ⟨k, v⟩ := kv
        rw [hk] at h
        simp only at h
        obtain ⟨rfl, hbk, hbv⟩ := keyL_inv hk
        have hgr : growL (p ++ [d]) k v = if memB (bytesA k) d.keys || decide (d.keys.length = 64) then none else some (p ++ [addK d k v]) := by
          unfold growL
          rw [List.getLast?_concat]
          simp only
          rw [List.dropLast_concat]
        rw [hgr] at h
        by_cases hc : (memB (bytesA k) d.keys || decide (d.keys.length = 64)) = true
        · rw [if_pos hc] at h; cases h
        · rw [if_neg hc] at h
          simp only at h
          obtain rfl := Option.some.inj h
          simp only [Bool.or_eq_true, decide_eq_true_eq, not_or] at hc
          have hnm : bytesA k ∉ d.keys := fun hm => hc.1 ((memB_iff _ _).2 hm)
          refine ⟨⟨by simpa using h64, fun x hx => ?_⟩, fun _ => by simp, ?_⟩
          · rw [List.mem_append, List.mem_singleton] at hx
            rcases hx with hx | rfl
            · exact hd x (by simp [hx])
            · refine defC_mk w1 (fun x hx => ?_) (fun x hx => ?_) (by simp [addK, w4]) (by simp [addK]; omega) ?_
              · simp only [addK, List.mem_append, List.mem_singleton] at hx
                rcases hx with hx | rfl
                · exact w2 x hx
                · exact hbk
              · simp only [addK, List.mem_append, List.mem_singleton] at hx
                rcases hx with hx | rfl
                · exact w3 x hx
                · exact hbv
              · simp only [addK]
                rw [List.nodup_append]
                exact ⟨keys_nodup hdd, by simp, fun a ha b hb e => by
                  rw [List.mem_singleton] at hb
                  subst hb
                  exact hnm (e ▸ ha)⟩
          · rw [open_at, open_at]
            have e : openLines (addK d k v) = openLines d ++ [9 :: (k ++ 9 :: v)] := by
              unfold openLines addK
              simp only
              rw [keyLines_snoc _ _ _ _ w4]
              rfl
            rw [e, List.append_assoc]
theorem run_back : ∀ (ls : List Bs) (st : PSt) (n : Nat) (st' : PSt), GoodS st → (st.2 = true → st.1 ≠ []) → runN st n ls = .inl st' → GoodS st' ∧ stLines st' = stLines st ++ ls.filter (fun l => !blankL l)
  | [], st, n, st', hg, _, h => by
    simp only [runN, Sum.inl.injEq] at h
    subst h
    exact ⟨hg, by simp⟩
  | l :: ls, (ds, op), n, st', hg, hne, h => by
    simp only [runN, stepL] at h
    by_cases hb : blankL l = true
    · rw [if_pos hb] at h
      simp only at h
      have ih := run_back ls (ds, op) (n + 1) st' hg hne h
      rw [List.filter_cons_of_neg (by simp [hb])]
      exact ih
    · rw [if_neg hb] at h
      cases hl : lineS (ds, op) l with
      | none => rw [hl] at h; cases h
      | some s2 =>
        rw [hl] at h
        simp only at h
        obtain ⟨g2, n2, e2⟩ := line_back hg hne hl
        obtain ⟨g3, e3⟩ := run_back ls s2 (n + 1) st' g2 n2 h
        refine ⟨g3, ?_⟩
        rw [e3, e2, List.filter_cons_of_pos (by simp [hb])]
        simp
theorem unL_lines (s : Bs) : unL (linesB s).1 ++ (linesB s).2 = s := by
  obtain ⟨t, rfl⟩ : ∃ t : Bs, s = t.reverse := ⟨s.reverse, by simp⟩
  induction t with
  | nil => rfl
  | cons c s ih =>
    rw [List.reverse_cons, linesB_snoc]
    unfold lnStep
    by_cases hc : c = 10
    · rw [if_pos hc]
      simp only
      rw [unL_app]
      conv => rhs; rw [← ih]
      simp [unL, hc]
    · rw [if_neg hc]
      simp only
      conv => rhs; rw [← ih]
      simp
/-- what is read of a text, written, is its lines that are not left out -/
theorem parse_back {s : Bs} (h : (parseB s).2.1 = 0) : defsC (parseB s).1 = true ∧ defsT (parseB s).1 = unL ((linesB s).1.filter fun l => !blankL l) ∧ s = unL (linesB s).1 ∧ s.length ≤ 8192 := by
  obtain ⟨h8, hr, hrun, _⟩ := parse_ok h
  obtain ⟨hg, hl⟩ := run_back _ _ _ _ ⟨by simp, (fun d hd => by cases hd)⟩ (fun h => by cases h) hrun
  refine ⟨?_, ?_, ?_, h8⟩
  · have := hg
    simp only [GoodS] at this
    simpa [defsC] using this
  · rw [← defs_un]
    rw [shut_at] at hl
    rw [hl]
    rfl
  · have := unL_lines s
    rw [hr, List.append_nil] at this
    exact this.symm
theorem parse_noL (s : Bs) (h : (parseB s).2.1 ≠ 0) : (parseB s).1 = [] := by
  unfold parseB at h ⊢
  split
  · rfl
  · rename_i h8
    rw [if_neg h8] at h
    cases hr : runN ([], false) 1 (linesB s).1 with
    | inr k => rfl
    | inl st =>
      rw [hr] at h
      simp only [endP] at h ⊢
      split
      · rfl
      · rename_i hh
        rw [if_neg hh] at h
        exact absurd rfl h
theorem unL_len_le (ls : List Bs) (p : Bs → Bool) : (unL (ls.filter p)).length ≤ (unL ls).length ∧ ((∃ l ∈ ls, p l = false) → (unL (ls.filter p)).length < (unL ls).length) := by
  induction ls with
  | nil => exact ⟨Nat.le_refl _, fun ⟨l, hl, _⟩ => by cases hl⟩
  | cons l ls ih =>
    have e : ∀ x : List Bs, unL (l :: x) = l ++ [10] ++ unL x := fun x => by simp [unL]
    by_cases hp : p l = true
    · rw [List.filter_cons_of_pos hp, e, e]
      refine ⟨by simp; omega, ?_⟩
      rintro ⟨x, hx, hf⟩
      rw [List.mem_cons] at hx
      rcases hx with rfl | hx
      · rw [hp] at hf; cases hf
      · have := ih.2 ⟨x, hx, hf⟩
        simp; omega
    · rw [List.filter_cons_of_neg hp, e]
      refine ⟨by simp; omega, fun _ => by simp; omega⟩
/-- a text that is ended, without what ends its last line, falls into its lines -/
theorem rows_of {s : Bs} (hne : s ≠ []) (hs : s = unL (linesB s).1) : (linesB (Lib.trimSuffix s [10])).1 ++ [(linesB (Lib.trimSuffix s [10])).2] = (linesB s).1 := by
  have hn := (linesB_none s).1
  generalize (linesB s).1 = ls at *
  rcases List.eq_nil_or_concat ls with e | ⟨a, b, e⟩
  · subst e; exact absurd hs hne
  · have e' : ls = a ++ [b] := by rw [e]; try simp
    subst e'
    have h1 : s = (unL a ++ b) ++ [10] := by rw [hs, unL_app]; simp [unL]
    rw [h1, (suf_snoc _ _).2]
    have ha := lines_un a (fun l hl => hn l (by simp [hl]))
    have hb := linesB_plain b (hn b (by simp))
    rw [linesB_app _ _ (by rw [ha]), ha, hb]
    simp
end Go.Proofs.YtolbhhokpelchaaDoor
/- A line that is left out, put in anywhere: what the text is read as then. Mathematics alone. -/
namespace Go.Proofs.YtolbhhokpelchaaDoor

theorem runN_shift : ∀ (ls : List Bs) (st : PSt) (n : Nat), runN st (n + 1) ls = match runN st n ls with | .inl x => .inl x | .inr k => .inr (k + 1)
  | [], st, n => rfl
  | l :: ls, st, n => by
    simp only [runN]
    cases stepL st l with
    | none => rfl
    | some s2 =>
      simp only
      exact runN_shift ls s2 (n + 1)
theorem runN_bound : ∀ (ls : List Bs) (st : PSt) (n k : Nat), runN st n ls = .inr k → n ≤ k ∧ k < n + ls.length
  | [], st, n, k, h => by simp [runN] at h
  | l :: ls, st, n, k, h => by
    simp only [runN] at h
    cases hs : stepL st l with
    | none =>
      rw [hs] at h
      simp only [Sum.inr.injEq] at h
      subst h
      simp
    | some s2 =>
      rw [hs] at h
      have := runN_bound ls s2 (n + 1) k h
      simp only [List.length_cons]
      omega
/-- a line's number, where a line is put in behind the first n -/
def bumpI (n : Nat) (A : Int) : Int := if (n : Int) < A then A + 1 else A
theorem bump_no {n : Nat} {A : Int} (h : ¬ (n : Int) < A) : bumpI n A = A := if_neg h
theorem bump_yes {n : Nat} {A : Int} (h : (n : Int) < A) : bumpI n A = A + 1 := if_pos h
theorem notes_parse (a b : List Bs) (x : Bs) (hx : blankL x = true) (hn : ∀ l ∈ a ++ x :: b, ∀ c ∈ l, c ≠ 10) (h1 : (unL (a ++ b)).length ≤ 8192) (h2 : (unL (a ++ x :: b)).length ≤ 8192) :
    parseB (unL (a ++ x :: b)) = ((parseB (unL (a ++ b))).1, (parseB (unL (a ++ b))).2.1, bumpI a.length (parseB (unL (a ++ b))).2.2) := by
  have e1 := lines_un (a ++ b) (fun l hl => hn l (by
    rw [List.mem_append] at hl ⊢
    rcases hl with hl | hl
    · exact .inl hl
    · exact .inr (List.mem_cons_of_mem _ hl)))
  have e2 := lines_un (a ++ x :: b) hn
  have p1 : parseB (unL (a ++ b)) = endP (a ++ b) [] (runN ([], false) 1 (a ++ b)) := by
    unfold parseB
    rw [if_neg (by omega), e1]
  have p2 : parseB (unL (a ++ x :: b)) = endP (a ++ x :: b) [] (runN ([], false) 1 (a ++ x :: b)) := by
    unfold parseB
    rw [if_neg (by omega), e2]
  rw [p1, p2, runN_app, runN_app]
  cases hr : runN ([], false) 1 a with
  | inr k =>
    have := runN_bound _ _ _ _ hr
    simp only [endP]
    rw [bump_no (by omega)]
  | inl st =>
    have hs : stepL st x = some st := by unfold stepL; rw [if_pos hx]
    simp only [runN]
    rw [hs]
    simp only
    rw [runN_shift]
    cases hb : runN st (1 + a.length) b with
    | inr k =>
      have := runN_bound _ _ _ _ hb
      simp only [endP]
      rw [bump_yes (by omega)]
      simp
    | inl st' =>
      simp only [endP]
      by_cases h : ([] : Bs) ≠ [] ∨ st'.2 = true
      · rw [if_pos h, if_pos h]
        simp only
        rw [bump_yes (by simp; omega)]
        simp only [List.length_append, List.length_cons]
        simp only [Prod.mk.injEq, true_and]
        omega
      · rw [if_neg h, if_neg h]
        simp only
        rw [bump_no (by omega)]
theorem join_un : ∀ (ls : List Bs), ls ≠ [] → Lib.join ls [10] ++ [10] = unL ls
  | [], h => absurd rfl h
  | [l], _ => by simp [Lib.join_one, unL]
  | l :: m :: ls, _ => by
    have ih := join_un (m :: ls) (by simp)
    have e : unL (l :: m :: ls) = l ++ [10] ++ unL (m :: ls) := by simp [unL]
    rw [e, ← ih, Lib.join_cons, Lib.join_cons]
    simp [Lib.joinTail]
/-- a text with a byte 10 at its end: its lines -/
theorem ended {s : Bs} (h : Lib.hasSuffix s [10] = true) : s ≠ [] ∧ s = unL (linesB s).1 := by
  rw [Lib.hasSuffix, List.isSuffixOf_iff_suffix] at h
  obtain ⟨t, rfl⟩ := h
  refine ⟨by simp, ?_⟩
  have h2 : (linesB (t ++ [10])).2 = [] := by rw [linesB_snoc]; rfl
  have := unL_lines (t ++ [10])
  rw [h2, List.append_nil] at this
  exact this.symm
end Go.Proofs.YtolbhhokpelchaaDoor
/- A line that is left out, put in anywhere between a text's lines: which node the text is read as then. Mathematics alone. -/
namespace Go.Proofs.YtolbhhokpelchaaDoor

/-- a line's number, where a line is put in behind the first A -/
def bumpN (A k : Nat) : Nat := if A < k then k + 1 else k
theorem bumpN_int (A k : Nat) : ((bumpN A k : Nat) : Int) = bumpI A (k : Int) := by
  unfold bumpN bumpI
  by_cases h : A < k
  · rw [if_pos h, if_pos (by omega)]; omega
  · rw [if_neg h, if_neg (by omega)]
/-- where a reader is in a text, and where it is in the text with the line x put in behind the first A -/
def RlN (A : Nat) (x : Bs) (b : List Bs) (cur : Nat) (ls : List Bs) (cur' : Nat) (ls' : List Bs) : Prop :=
  (∃ a', ls = a' ++ b ∧ ls' = a' ++ x :: b ∧ cur' = cur ∧ cur + a'.length = A) ∨ (ls' = ls ∧ cur' = cur + 1 ∧ A < cur)
theorem RlN.cur {A : Nat} {x : Bs} {b : List Bs} {cur : Nat} {ls : List Bs} {cur' : Nat} {ls' : List Bs} (h : RlN A x b cur ls cur' ls') : cur' = bumpN A cur := by
  rcases h with ⟨a', _, _, rfl, h⟩ | ⟨_, rfl, h⟩
  · rw [bumpN, if_neg (by omega)]
  · rw [bumpN, if_pos h]
theorem RlN.len {A : Nat} {x : Bs} {b : List Bs} {cur : Nat} {ls : List Bs} {cur' : Nat} {ls' : List Bs} (h : RlN A x b cur ls cur' ls') : ls.length ≤ ls'.length := by
  rcases h with ⟨a', rfl, rfl, _, _⟩ | ⟨rfl, _, _⟩
  · simp
  · exact Nat.le_refl _
theorem nextT_shift : ∀ (ls : List Bs) (n : Nat) (r : Bs), nextT (n + 1) ls r = ((nextT n ls r).1 + 1, (nextT n ls r).2)
  | [], n, r => rfl
  | l :: ls, n, r => by
    simp only [nextT]
    cases tokR l with
    | none => exact nextT_shift ls (n + 1) r
    | some y => rfl
theorem nextT_gt : ∀ (ls : List Bs) (n : Nat) (r : Bs), n < (nextT n ls r).1
  | [], n, r => Nat.lt_succ_self n
  | l :: ls, n, r => by
    simp only [nextT]
    cases tokR l with
    | none => exact Nat.lt_trans (Nat.lt_succ_self n) (nextT_gt ls (n + 1) r)
    | some y => exact Nat.lt_succ_self n
theorem nextT_ins {A : Nat} {x : Bs} (hx : tokR x = none) {b : List Bs} (r : Bs) {cur : Nat} {ls : List Bs} {cur' : Nat} {ls' : List Bs} (h : RlN A x b cur ls cur' ls') :
    (nextT cur' ls' r).2.1 = (nextT cur ls r).2.1 ∧ RlN A x b (nextT cur ls r).1 (nextT cur ls r).2.2 (nextT cur' ls' r).1 (nextT cur' ls' r).2.2 := by
  rcases h with ⟨a', rfl, rfl, rfl, h⟩ | ⟨rfl, rfl, h⟩
  · induction a' generalizing cur' with
    | nil =>
      have e : nextT cur' (x :: b) r = nextT (cur' + 1) b r := by simp only [nextT, hx]
      simp only [List.nil_append]
      rw [e, nextT_shift]
      have := nextT_gt b cur' r
      simp only [List.length_nil] at h
      exact ⟨rfl, .inr ⟨rfl, rfl, by omega⟩⟩
    | cons l a' ih =>
      simp only [List.length_cons] at h
      simp only [List.cons_append, nextT]
      cases tokR l with
      | none => exact ih (by omega)
      | some y => exact ⟨rfl, .inl ⟨a', rfl, rfl, rfl, (show cur' + 1 + a'.length = A by omega)⟩⟩
  · rw [nextT_shift]
    have := nextT_gt ls' cur r
    exact ⟨rfl, .inr ⟨rfl, rfl, by omega⟩⟩
/-- what is read of two such texts -/
def InsR (A : Nat) (x : Bs) (b : List Bs) : RdRes → RdRes → Prop
  | .inl k, .inl k' => k' = bumpN A k
  | .inr (z, t, m, l2), .inr (z', t', m', l2') => z' = z ∧ t' = t ∧ RlN A x b m l2 m' l2'
  | _, _ => False
theorem itemsR_ins {A : Nat} {x : Bs} (hx : tokR x = none) {b : List Bs} (r : Bs) : ∀ (f : Nat) (n : Nd) (deep : Int) (y : It) (cur : Nat) (ls : List Bs) (cur' : Nat) (ls' : List Bs), RlN A x b cur ls cur' ls' →
    InsR A x b (itemsR f n deep y cur ls r) (itemsR f n deep y cur' ls' r)
  | 0, n, deep, y, cur, ls, cur', ls', h => h.cur
  | f + 1, n, deep, y, cur, ls, cur', ls', h => by
    have ih := itemsR_ins hx (A := A) (b := b) r f
    rw [itemsR, itemsR]
    by_cases hd : y.deep = deep
    · rw [if_pos hd, if_pos hd]
      by_cases hf : fitsI n y = true
      · rw [if_pos hf, if_pos hf]
        have hn := nextT_ins hx r h
        cases h1 : nextT cur ls r with
        | mk m p =>
          obtain ⟨o, l1⟩ := p
          cases h2 : nextT cur' ls' r with
          | mk m' p' =>
            obtain ⟨o', l1'⟩ := p'
            rw [h1, h2] at hn
            obtain ⟨ho, hr⟩ := hn
            simp only at ho hr
            subst ho
            cases o' with
            | none => exact hr.cur
            | some t =>
              simp only
              by_cases hk : y.node.kind = 0
              · rw [if_pos hk, if_pos hk]
                by_cases ht : t.deep = deep + 1
                · rw [if_pos ht, if_pos ht]
                  have i1 := ih (.mk t.kind ⟨#[]⟩ [] []) t.deep t m l1 m' l1' hr
                  cases e1 : itemsR f (.mk t.kind ⟨#[]⟩ [] []) t.deep t m l1 r with
                  | inl k =>
                    cases e2 : itemsR f (.mk t.kind ⟨#[]⟩ [] []) t.deep t m' l1' r with
                    | inl k' => rw [e1, e2] at i1; exact i1
                    | inr z => rw [e1, e2] at i1; exact i1.elim
                  | inr z =>
                    cases e2 : itemsR f (.mk t.kind ⟨#[]⟩ [] []) t.deep t m' l1' r with
                    | inl k' => rw [e1, e2] at i1; exact i1.elim
                    | inr z' =>
                      rw [e1, e2] at i1
                      obtain ⟨z1, z2, z3, z4⟩ := z
                      obtain ⟨y1, y2, y3, y4⟩ := z'
                      obtain ⟨rfl, rfl, i2⟩ := i1
                      simp only
                      by_cases hl : y2.deep ≤ deep
                      · rw [if_pos hl, if_pos hl]
                        exact ih _ _ _ _ _ _ _ i2
                      · rw [if_neg hl, if_neg hl]
                        exact i2.cur
                · rw [if_neg ht, if_neg ht]
                  exact hr.cur
              · rw [if_neg hk, if_neg hk]
                by_cases ht : t.deep ≤ deep
                · rw [if_pos ht, if_pos ht]
                  exact ih _ _ _ _ _ _ _ hr
                · rw [if_neg ht, if_neg ht]
                  exact hr.cur
      · rw [if_neg hf, if_neg hf]
        exact h.cur
    · rw [if_neg hd, if_neg hd]
      exact ⟨rfl, rfl, h⟩
theorem bumpI_zero (A : Nat) : bumpI A 0 = 0 := by rw [bumpI, if_neg (by omega)]
theorem notes_parseN (a b : List Bs) (x : Bs) (hx : tokR x = none) (hn : ∀ l ∈ a ++ x :: b, ∀ c ∈ l, c ≠ 10) (h1 : (unL (a ++ b)).length ≤ 8192) (h2 : (unL (a ++ x :: b)).length ≤ 8192) :
    parseN (unL (a ++ x :: b)) = ((parseN (unL (a ++ b))).1, (parseN (unL (a ++ b))).2.1, bumpI a.length (parseN (unL (a ++ b))).2.2) := by
  have e1 := lines_un (a ++ b) (fun l hl => hn l (by
    rw [List.mem_append] at hl ⊢
    rcases hl with hl | hl
    · exact .inl hl
    · exact .inr (List.mem_cons_of_mem _ hl)))
  have e2 := lines_un (a ++ x :: b) hn
  unfold parseN
  rw [if_neg (by omega), if_neg (by omega), e1, e2]
  have hr0 : RlN a.length x b 0 (a ++ b) 0 (a ++ x :: b) := .inl ⟨a, rfl, rfl, rfl, by omega⟩
  have hn := nextT_ins hx [] hr0
  simp only
  cases h1 : nextT 0 (a ++ b) [] with
  | mk m p =>
    obtain ⟨o, l1⟩ := p
    cases h2 : nextT 0 (a ++ x :: b) [] with
    | mk m' p' =>
      obtain ⟨o', l1'⟩ := p'
      rw [h1, h2] at hn
      obtain ⟨ho, hr⟩ := hn
      simp only at ho hr
      subst ho
      cases o' with
      | none =>
        simp only
        rw [hr.cur, bumpN_int]
      | some t =>
        simp only
        by_cases hd : t.deep = 0
        · rw [if_pos hd, if_pos hd]
          have i1 := itemsR_ins hx [] (l1'.length + 2) (.mk t.kind ⟨#[]⟩ [] []) 0 t m l1 m' l1' hr
          rw [itemsC_of (Int.le_refl 0) (by have := hr.len; omega)] at i1
          change InsR _ _ _ _ (itemsC (.mk t.kind ⟨#[]⟩ [] []) 0 t m' l1' []) at i1
          cases e1 : itemsC (.mk t.kind ⟨#[]⟩ [] []) 0 t m l1 [] with
          | inl k =>
            cases e2 : itemsC (.mk t.kind ⟨#[]⟩ [] []) 0 t m' l1' [] with
            | inl k' =>
              rw [e1, e2] at i1
              have i2 : k' = bumpN a.length k := i1
              simp only
              rw [i2, bumpN_int]
            | inr z => rw [e1, e2] at i1; exact i1.elim
          | inr z =>
            cases e2 : itemsC (.mk t.kind ⟨#[]⟩ [] []) 0 t m' l1' [] with
            | inl k' => rw [e1, e2] at i1; exact i1.elim
            | inr z' =>
              rw [e1, e2] at i1
              obtain ⟨z1, z2, z3, z4⟩ := z
              obtain ⟨y1, y2, y3, y4⟩ := z'
              obtain ⟨rfl, rfl, _⟩ := i1
              simp only
              rw [bumpI_zero]
        · rw [if_neg hd, if_neg hd]
          simp only
          rw [hr.cur, bumpN_int]
theorem tokR_note (n : Bs) : tokR ([32, 32, 35] ++ n) = none := by
  have e : saidT ([32, 32, 35] ++ n) = 35 :: n := by
    unfold saidT Lib.trimLeftB
    simp
  unfold tokR
  rw [e]
  simp
theorem nextT_bnd : ∀ (ls : List Bs) (n : Nat) (r : Bs), (nextT n ls r).1 + (nextT n ls r).2.2.length ≤ n + ls.length + 1 ∧ (∀ b, (nextT n ls r).2.1 = some b → b ≠ endI → (nextT n ls r).1 + (nextT n ls r).2.2.length ≤ n + ls.length)
  | [], n, r => by
    refine ⟨Nat.le_refl _, fun b hb hne => ?_⟩
    simp only [nextT] at hb
    split at hb
    · cases hb; exact absurd rfl hne
    · cases hb
  | l :: ls, n, r => by
    simp only [nextT, List.length_cons]
    cases tokR l with
    | none =>
      have ih := nextT_bnd ls (n + 1) r
      exact ⟨by have := ih.1; simp only; omega, fun b hb hne => by have := ih.2 b hb hne; simp only; omega⟩
    | some y => exact ⟨by simp only; omega, fun b hb hne => by simp only; omega⟩
/-- which numbers of lines are told -/
def BndR (B : Nat) : RdRes → Prop
  | .inl k => k ≤ B + 1
  | .inr (_, b, m, l2) => m + l2.length ≤ B ∨ b = endI ∧ m + l2.length ≤ B + 1
theorem BndR.mono {B B' : Nat} {x : RdRes} (h : BndR B x) (hB : B ≤ B') : BndR B' x := by
  cases x with
  | inl k => exact Nat.le_trans h (by omega)
  | inr z =>
    rcases h with h | ⟨h1, h2⟩
    · exact .inl (by omega)
    · exact .inr ⟨h1, by omega⟩
theorem bnd_endI {B m : Nat} {l1 : List Bs} (f : Nat) (n : Nd) (deep : Int) (r : Bs) (hd : 0 ≤ deep) (h : m + l1.length ≤ B + 1) : BndR B (itemsR f n deep endI m l1 r) := by
  cases f with
  | zero => show m ≤ B + 1; omega
  | succ f =>
    rw [itemsR, if_neg (by have : endI.deep = -1 := rfl; omega)]
    exact .inr ⟨rfl, h⟩
theorem itemsR_bnd : ∀ (f : Nat) (n : Nd) (deep : Int) (x : It) (cur : Nat) (ls : List Bs) (r : Bs), 0 ≤ deep → BndR (cur + ls.length) (itemsR f n deep x cur ls r)
  | 0, n, deep, x, cur, ls, r, hd => by show cur ≤ cur + ls.length + 1; omega
  | f + 1, n, deep, x, cur, ls, r, hd => by
    have ih := itemsR_bnd f
    rw [itemsR]
    by_cases hx : x.deep = deep
    · rw [if_pos hx]
      by_cases hf : fitsI n x = true
      · rw [if_pos hf]
        have hn := nextT_bnd ls cur r
        cases h1 : nextT cur ls r with
        | mk m p =>
          obtain ⟨o, l1⟩ := p
          rw [h1] at hn
          simp only at hn
          cases o with
          | none => show m ≤ _; omega
          | some b =>
            simp only
            have go : ∀ (b : It) (n : Nd) (m : Nat) (l1 : List Bs), (m + l1.length ≤ cur + ls.length ∨ b = endI ∧ m + l1.length ≤ cur + ls.length + 1) → BndR (cur + ls.length) (itemsR f n deep b m l1 r) := fun b n m l1 h => by
              rcases h with h | ⟨rfl, h⟩
              · exact (ih n deep b m l1 r hd).mono h
              · exact bnd_endI f n deep r hd h
            have hb : m + l1.length ≤ cur + ls.length ∨ b = endI ∧ m + l1.length ≤ cur + ls.length + 1 := by
              by_cases e : b = endI
              · exact .inr ⟨e, hn.1⟩
              · exact .inl (hn.2 b rfl e)
            by_cases hk : x.node.kind = 0
            · rw [if_pos hk]
              by_cases ht : b.deep = deep + 1
              · rw [if_pos ht]
                have hb1 : m + l1.length ≤ cur + ls.length := by
                  rcases hb with h | ⟨rfl, _⟩
                  · exact h
                  · have : endI.deep = -1 := rfl
                    omega
                have i1 := (ih (.mk b.kind ⟨#[]⟩ [] []) b.deep b m l1 r (by omega)).mono hb1
                cases e1 : itemsR f (.mk b.kind ⟨#[]⟩ [] []) b.deep b m l1 r with
                | inl k => rw [e1] at i1; exact i1
                | inr z =>
                  obtain ⟨z1, z2, z3, z4⟩ := z
                  rw [e1] at i1
                  simp only
                  by_cases hl : z2.deep ≤ deep
                  · rw [if_pos hl]
                    exact go _ _ _ _ i1
                  · rw [if_neg hl]
                    show z3 ≤ _
                    rcases i1 with h | ⟨_, h⟩ <;> omega
              · rw [if_neg ht]
                show m ≤ _
                omega
            · rw [if_neg hk]
              by_cases ht : b.deep ≤ deep
              · rw [if_pos ht]
                exact go _ _ _ _ hb
              · rw [if_neg ht]
                show m ≤ _
                omega
      · rw [if_neg hf]
        show cur ≤ _
        omega
    · rw [if_neg hx]
      exact .inl (Nat.le_refl _)
theorem parseN_at (s : Bs) : 0 ≤ (parseN s).2.2 ∧ (parseN s).2.2 ≤ (linesB s).1.length + 1 := by
  unfold parseN
  split
  · exact ⟨Int.le_refl _, by show (0 : Int) ≤ _; omega⟩
  · have hn := nextT_bnd (linesB s).1 0 (linesB s).2
    cases h1 : nextT 0 (linesB s).1 (linesB s).2 with
    | mk m p =>
      obtain ⟨o, l1⟩ := p
      rw [h1] at hn
      simp only at hn
      cases o with
      | none => simp only; omega
      | some x =>
        simp only
        split
        · rename_i hx
          have hne : x ≠ endI := fun e => by
            rw [e] at hx
            have : endI.deep = -1 := rfl
            omega
          have h2 := hn.2 x rfl hne
          have h3 : BndR (m + l1.length) (itemsC (.mk x.kind ⟨#[]⟩ [] []) 0 x m l1 (linesB s).2) := itemsR_bnd _ _ _ _ _ _ _ (Int.le_refl 0)
          cases e1 : itemsC (.mk x.kind ⟨#[]⟩ [] []) 0 x m l1 (linesB s).2 with
          | inl k =>
            rw [e1] at h3
            have h4 : k ≤ m + l1.length + 1 := h3
            simp only
            omega
          | inr z => simp only; omega
        · simp only; omega
end Go.Proofs.YtolbhhokpelchaaDoor
