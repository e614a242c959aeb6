/- Two texts, one behind the other: what they are read as. Mathematics alone. -/
import Derived.Test.YtolbhhokpelchaaDoorPrsM
namespace Go.Proofs.YtolbhhokpelchaaDoor

theorem linesB_app (s t : Bs) (h : (linesB s).2 = []) : linesB (s ++ t) = ((linesB s).1 ++ (linesB t).1, (linesB t).2) := by
  have e : linesB (s ++ t) = t.foldl lnStep (linesB s) := by unfold linesB; rw [List.foldl_append]
  rw [e, show linesB s = ((linesB s).1, (linesB s).2) from rfl, h, lnFold]
  rfl
theorem runN_app : ∀ (ls : List Bs) (st : PSt) (n : Nat) (lt : List Bs), runN st n (ls ++ lt) = match runN st n ls with | .inr k => .inr k | .inl st' => runN st' (n + ls.length) lt
  | [], st, n, lt => rfl
  | l :: ls, st, n, lt => by
    simp only [List.cons_append, runN]
    cases stepL st l with
    | none => rfl
    | some st' =>
      simp only
      rw [runN_app ls st' (n + 1) lt]
      have e : n + 1 + ls.length = n + (l :: ls).length := by rw [List.length_cons]; omega
      rw [e]
theorem lineS_grow {st st' : PSt} {l : Bs} (h : lineS st l = some st') : st.1.length ≤ st'.1.length := by
  unfold lineS at h
  split at h
  · split at h
    · obtain rfl := Option.some.inj h; exact Nat.le_refl _
    · split at h
      · cases h
      · split at h
        · cases h
        · rename_i ds hg
          obtain rfl := Option.some.inj h
          unfold growL at hg
          split at hg
          · cases hg
          · rename_i d hl
            split at hg
            · cases hg
            · obtain rfl := Option.some.inj hg
              have : st.1 ≠ [] := fun e => by rw [e] at hl; cases hl
              have := List.length_pos_iff.2 this
              simp; omega
  · split at h
    · cases h
    · split at h
      · obtain rfl := Option.some.inj h; simp
      · cases h
theorem stepL_grow {st st' : PSt} {l : Bs} (h : stepL st l = some st') : st.1.length ≤ st'.1.length := by
  unfold stepL at h
  split at h
  · obtain rfl := Option.some.inj h; exact Nat.le_refl _
  · exact lineS_grow h
theorem runN_grow : ∀ (ls : List Bs) (st st' : PSt) (n : Nat), runN st n ls = .inl st' → st.1.length ≤ st'.1.length
  | [], st, st', n, h => by simp only [runN, Sum.inl.injEq] at h; subst h; exact Nat.le_refl _
  | l :: ls, st, st', n, h => by
    simp only [runN] at h
    cases hs : stepL st l with
    | none => rw [hs] at h; cases h
    | some s2 =>
      rw [hs] at h
      exact Nat.le_trans (stepL_grow hs) (runN_grow ls s2 st' _ h)
theorem growL_app (p ds : List Dfn) (k v : Bs) (hne : ds ≠ []) : growL (p ++ ds) k v = (growL ds k v).map (p ++ ·) := by
  unfold growL
  have e : (p ++ ds).getLast? = ds.getLast? := by
    rw [List.getLast?_append]
    cases h : ds.getLast? with
    | none => rw [List.getLast?_eq_none_iff] at h; exact absurd h hne
    | some d => rfl
  have e2 : (p ++ ds).dropLast = p ++ ds.dropLast := List.dropLast_append_of_ne_nil hne
  rw [e, e2]
  cases ds.getLast? with
  | none => rfl
  | some d =>
    simp only
    split <;> simp
/-- a line behind more blocks -/
theorem lineS_app (p : List Dfn) (ds : List Dfn) (op : Bool) (l : Bs) (st' : PSt) (hne : op = true → ds ≠ []) (h : lineS (ds, op) l = some st') (hp : p.length + ds.length ≤ 64) :
    lineS (p ++ ds, op) l = some (p ++ st'.1, st'.2) ∨ (lineS (p ++ ds, op) l = none ∧ 64 < p.length + st'.1.length) := by
  cases op with
  | true =>
    have hls : ∀ x : List Dfn, lineS (x, true) l = if l = [125] then some (x, false) else (match keyL l with | none => none | some kv => (match growL x kv.1 kv.2 with | none => none | some ds => some (ds, true))) := fun _ => rfl
    rw [hls] at h ⊢
    by_cases h125 : l = [125]
    · rw [if_pos h125] at h ⊢
      obtain rfl := Option.some.inj h
      exact .inl rfl
    · rw [if_neg h125] at h ⊢
      cases hk : keyL l with
      | none => rw [hk] at h; cases h
      | some kv =>
        rw [hk] at h
        simp only at h ⊢
        rw [growL_app p ds _ _ (hne rfl)]
        cases hg : growL ds kv.1 kv.2 with
        | none => rw [hg] at h; cases h
        | some ds' =>
          rw [hg] at h
          obtain rfl := Option.some.inj h
          exact .inl rfl
  | false =>
    have hls : ∀ x : List Dfn, lineS (x, false) l = match beginsL l with | none => none | some m => if x.length < 64 then some (x ++ [openD m], true) else none := fun _ => rfl
    rw [hls] at h ⊢
    cases hb : beginsL l with
    | none => rw [hb] at h; cases h
    | some m =>
      rw [hb] at h
      simp only at h ⊢
      split at h
      · obtain rfl := Option.some.inj h
        by_cases h64 : (p ++ ds).length < 64
        · rw [if_pos h64]; exact .inl (by simp)
        · rw [if_neg h64]; exact .inr ⟨rfl, by simp at h64 ⊢; omega⟩
      · cases h
theorem stepL_ne {st st' : PSt} {l : Bs} (hne : st.2 = true → st.1 ≠ []) (h : stepL st l = some st') : st'.2 = true → st'.1 ≠ [] := by
  unfold stepL at h
  split at h
  · obtain rfl := Option.some.inj h; exact hne
  · unfold lineS at h
    split at h
    · split at h
      · obtain rfl := Option.some.inj h; intro e; cases e
      · split at h
        · cases h
        · split at h
          · cases h
          · rename_i ds hg
            obtain rfl := Option.some.inj h
            unfold growL at hg
            split at hg
            · cases hg
            · split at hg
              · cases hg
              · obtain rfl := Option.some.inj hg
                intro _; simp
    · split at h
      · cases h
      · split at h
        · obtain rfl := Option.some.inj h; intro _; simp
        · cases h
theorem lineS_len {ds : List Dfn} {l : Bs} {st' : PSt} (h : lineS (ds, true) l = some st') : st'.1.length = ds.length := by
  have hls : lineS (ds, true) l = if l = [125] then some (ds, false) else (match keyL l with | none => none | some kv => (match growL ds kv.1 kv.2 with | none => none | some ds => some (ds, true))) := rfl
  rw [hls] at h
  split at h
  · obtain rfl := Option.some.inj h; rfl
  · split at h
    · cases h
    · split at h
      · cases h
      · rename_i ds' hg
        obtain rfl := Option.some.inj h
        unfold growL at hg
        split at hg
        · cases hg
        · rename_i d hl
          split at hg
          · cases hg
          · obtain rfl := Option.some.inj hg
            have : ds ≠ [] := fun e => by rw [e] at hl; cases hl
            have := List.length_pos_iff.2 this
            simp; omega
theorem lineS_room {ds : List Dfn} {l : Bs} {st' : PSt} (h : lineS (ds, false) l = some st') : st'.1.length ≤ 64 := by
  have hls : lineS (ds, false) l = match beginsL l with | none => none | some m => if ds.length < 64 then some (ds ++ [openD m], true) else none := rfl
  rw [hls] at h
  split at h
  · cases h
  · split at h
    · obtain rfl := Option.some.inj h; simp; omega
    · cases h
/-- lines behind more blocks -/
theorem runN_more (p : List Dfn) : ∀ (ls : List Bs) (ds : List Dfn) (op : Bool) (n n' : Nat) (st' : PSt), (op = true → ds ≠ []) → p.length + ds.length ≤ 64 → runN (ds, op) n ls = .inl st' →
    (p.length + st'.1.length ≤ 64 → runN (p ++ ds, op) n' ls = .inl (p ++ st'.1, st'.2)) ∧ (64 < p.length + st'.1.length → ∃ k, runN (p ++ ds, op) n' ls = .inr k)
  | [], ds, op, n, n', st', _, hp, h => by
    simp only [runN, Sum.inl.injEq] at h
    subst h
    exact ⟨fun _ => rfl, fun h => absurd hp (by simp only at h; omega)⟩
  | l :: ls, ds, op, n, n', st', hne, hp, h => by
    simp only [runN] at h ⊢
    cases hs : stepL (ds, op) l with
    | none => rw [hs] at h; cases h
    | some s2 =>
      rw [hs] at h
      simp only at h
      have hg := runN_grow ls s2 st' _ h
      have hne2 := stepL_ne hne hs
      have key : stepL (p ++ ds, op) l = some (p ++ s2.1, s2.2) ∨ (stepL (p ++ ds, op) l = none ∧ 64 < p.length + s2.1.length) := by
        unfold stepL at hs ⊢
        split at hs
        · rename_i hb
          rw [if_pos hb]
          obtain rfl := Option.some.inj hs
          exact .inl rfl
        · rename_i hb
          rw [if_neg hb]
          exact lineS_app p ds op l s2 hne hs hp
      rcases key with key | ⟨key, hbig⟩
      · rw [key]
        simp only
        obtain ⟨d2, o2⟩ := s2
        by_cases h64 : p.length + d2.length ≤ 64
        · exact runN_more p ls d2 o2 _ _ st' hne2 h64 h
        · exfalso
          -- the step was taken, so there was room
          have hle : p.length + d2.length ≤ 64 := by
            unfold stepL at key
            split at key
            · have e := Option.some.inj key
              simp only [Prod.mk.injEq] at e
              have := congrArg List.length e.1
              simp at this; omega
            · cases op with
              | true =>
                have hl := lineS_len key
                simp at hl; omega
              | false =>
                have hl := lineS_room key
                simp at hl; omega
          exact h64 hle
      · rw [key]
        exact ⟨fun h => by omega, fun _ => ⟨n', rfl⟩⟩

theorem stepL_room {st st' : PSt} {l : Bs} (h : stepL st l = some st') (h64 : st.1.length ≤ 64) : st'.1.length ≤ 64 := by
  unfold stepL at h
  split at h
  · obtain rfl := Option.some.inj h; exact h64
  · obtain ⟨ds, op⟩ := st
    cases op with
    | true => rw [lineS_len h]; exact h64
    | false => exact lineS_room h
theorem runN_room : ∀ (ls : List Bs) (st st' : PSt) (n : Nat), st.1.length ≤ 64 → runN st n ls = .inl st' → st'.1.length ≤ 64
  | [], st, st', n, h64, h => by simp only [runN, Sum.inl.injEq] at h; subst h; exact h64
  | l :: ls, st, st', n, h64, h => by
    simp only [runN] at h
    cases hs : stepL st l with
    | none => rw [hs] at h; cases h
    | some s2 =>
      rw [hs] at h
      exact runN_room ls s2 st' _ (stepL_room hs h64) h
theorem parse_ok {s : Bs} (h : (parseB s).2.1 = 0) : s.length ≤ 8192 ∧ (linesB s).2 = [] ∧ runN ([], false) 1 (linesB s).1 = .inl ((parseB s).1, false) ∧ (parseB s).1.length ≤ 64 := by
  unfold parseB at h ⊢
  split at h
  · simp at h
  · rename_i h8
    rw [if_neg h8]
    cases hr : runN ([], false) 1 (linesB s).1 with
    | inr k => rw [hr] at h; simp [endP] at h
    | inl st =>
      rw [hr] at h
      simp only [endP] at h ⊢
      split at h
      · simp at h
      · rename_i hh
        rw [if_neg hh]
        simp only [not_or, Bool.not_eq_true] at hh
        refine ⟨by omega, by simpa using hh.1, ?_, ?_⟩
        · obtain ⟨ds, op⟩ := st
          simp only at hh ⊢
          rw [hh.2]
        · exact runN_room _ ([], false) st 1 (by decide) hr
theorem parse_err (s : Bs) (h : s.length ≤ 8192) : (parseB s).2.1 = 0 ∨ (parseB s).2.1 = 250 := by
  unfold parseB
  rw [if_neg (by omega)]
  cases runN ([], false) 1 (linesB s).1 with
  | inr k => exact .inr rfl
  | inl st =>
    simp only [endP]
    split
    · exact .inr rfl
    · exact .inl rfl
/-- two texts that are read, one behind the other -/
theorem parse_app {s t : Bs} (hs : (parseB s).2.1 = 0) (ht : (parseB t).2.1 = 0) (hl : (s ++ t).length ≤ 8192) :
    ((parseB s).1.length + (parseB t).1.length ≤ 64 → parseB (s ++ t) = ((parseB s).1 ++ (parseB t).1, 0, 0)) ∧ (64 < (parseB s).1.length + (parseB t).1.length → (parseB (s ++ t)).2.1 = 250) := by
  obtain ⟨_, r1, n1, l1⟩ := parse_ok hs
  obtain ⟨_, r2, n2, l2⟩ := parse_ok ht
  have hm := runN_more (parseB s).1 (linesB t).1 [] false 1 (1 + (linesB s).1.length) _ (fun h => by cases h) (by simpa using l1) n2
  rw [List.append_nil] at hm
  have e : runN ([], false) 1 (linesB (s ++ t)).1 = runN ((parseB s).1, false) (1 + (linesB s).1.length) (linesB t).1 := by
    rw [linesB_app s t r1]
    simp only
    rw [runN_app, n1]
  have e2 : (linesB (s ++ t)).2 = [] := by rw [linesB_app s t r1]; exact r2
  constructor
  · intro h
    have h1 := hm.1 h
    unfold parseB at h1 ⊢
    rw [if_neg (by omega)]
    unfold parseB at e
    rw [e, h1, e2]
    simp [endP]
  · intro h
    obtain ⟨k, h1⟩ := hm.2 h
    have : parseB (s ++ t) = ([], 250, (k : Int)) := by
      unfold parseB at h1 e ⊢
      rw [if_neg (by omega), e, h1]
      rfl
    rw [this]
end Go.Proofs.YtolbhhokpelchaaDoor
