/- Two texts, one behind the other: what they are read as. Mathematics alone. -/
import Derived.Test.YtolbhhokpelchaaDoorPrsM
namespace Go.Proofs.YtolbhhokpelchaaDoor

theorem linesB_app (s t : Bs) (h : (linesB s).2 = []) : linesB (s ++ t) = ((linesB s).1 ++ (linesB t).1, (linesB t).2) := by
  have e : linesB (s ++ t) = t.foldl lnStep (linesB s) := by unfold linesB; rw [List.foldl_append]
  rw [e, show linesB s = ((linesB s).1, (linesB s).2) from rfl, h, lnFold]
  rfl
theorem runN_app : ∀ (ls : List Bs) (st : PSt) (n : Nat) (lt : List Bs), runN st n (ls ++ lt) = match runN st n ls with | .inr k => .inr k | .inl st' => runN st' (n + ls.length) lt
  | [], st, n, lt => rfl
  | l :: ls, st, n, lt => by
    simp only [List.cons_append, runN]
    cases stepL st l with
    | none => rfl
    | some st' =>
      simp only
      rw [runN_app ls st' (n + 1) lt]
      have e : n + 1 + ls.length = n + (l :: ls).length := by rw [List.length_cons]; omega
      rw [e]
theorem lineS_grow {st st' : PSt} {l : Bs} (h : lineS st l = some st') : st.1.length ≤ st'.1.length := by
  unfold lineS at h
  split at h
  · split at h
    · obtain rfl := Option.some.inj h; exact Nat.le_refl _
    · split at h
      · cases h
      · split at h
        · cases h
        · rename_i ds hg
          obtain rfl := Option.some.inj h
          unfold growL at hg
          split at hg
          · cases hg
          · rename_i d hl
            split at hg
            · cases hg
            · obtain rfl := Option.some.inj hg
              have : st.1 ≠ [] := fun e => by rw [e] at hl; cases hl
              have := List.length_pos_iff.2 this
              simp; omega
  · split at h
    · cases h
    · split at h
      · obtain rfl := Option.some.inj h; simp
      · cases h
theorem stepL_grow {st st' : PSt} {l : Bs} (h : stepL st l = some st') : st.1.length ≤ st'.1.length := by
  unfold stepL at h
  split at h
  · obtain rfl := Option.some.inj h; exact Nat.le_refl _
  · exact lineS_grow h
theorem runN_grow : ∀ (ls : List Bs) (st st' : PSt) (n : Nat), runN st n ls = .inl st' → st.1.length ≤ st'.1.length
  | [], st, st', n, h => by simp only [runN, Sum.inl.injEq] at h; subst h; exact Nat.le_refl _
  | l :: ls, st, st', n, h => by
    simp only [runN] at h
    cases hs : stepL st l with
    | none => rw [hs] at h; cases h
    | some s2 =>
      rw [hs] at h
      exact Nat.le_trans (stepL_grow hs) (runN_grow ls s2 st' _ h)
theorem growL_app (p ds : List Dfn) (k v : Bs) (hne : ds ≠ []) : growL (p ++ ds) k v = (growL ds k v).map (p ++ ·) := by
  unfold growL
  have e : (p ++ ds).getLast? = ds.getLast? := by
    rw [List.getLast?_append]
    cases h : ds.getLast? with
    | none => rw [List.getLast?_eq_none_iff] at h; exact absurd h hne
    | some d => rfl
  have e2 : (p ++ ds).dropLast = p ++ ds.dropLast := List.dropLast_append_of_ne_nil hne
  rw [e, e2]
  cases ds.getLast? with
  | none => rfl
  | some d =>
    simp only
    split <;> simp
/-- a line behind more blocks -/
theorem lineS_app (p : List Dfn) (ds : List Dfn) (op : Bool) (l : Bs) (st' : PSt) (hne : op = true → ds ≠ []) (h : lineS (ds, op) l = some st') (hp : p.length + ds.length ≤ 64) :
    lineS (p ++ ds, op) l = some (p ++ st'.1, st'.2) ∨ (lineS (p ++ ds, op) l = none ∧ 64 < p.length + st'.1.length) := by
  cases op with
  | true =>
    have hls : ∀ x : List Dfn, lineS (x, true) l = if l = [125] then some (x, false) else (match keyL l with | none => none | some kv => (match growL x kv.1 kv.2 with | none => none | some ds => some (ds, true))) := fun _ => rfl
    rw [hls] at h ⊢
    by_cases h125 : l = [125]
    · rw [if_pos h125] at h ⊢
      obtain rfl := Option.some.inj h
      exact .inl rfl
    · rw [if_neg h125] at h ⊢
      cases hk : keyL l with
      | none => rw [hk] at h; cases h
      | some kv =>
        rw [hk] at h
        simp only at h ⊢
        rw [growL_app p ds _ _ (hne rfl)]
        cases hg : growL ds kv.1 kv.2 with
        | none => rw [hg] at h; cases h
        | some ds' =>
          rw [hg] at h
          obtain rfl := Option.some.inj h
          exact .inl rfl
  | false =>
    have hls : ∀ x : List Dfn, lineS (x, false) l = match beginsL l with | none => none | some m => if x.length < 64 then some (x ++ [openD m], true) else none := fun _ => rfl
    rw [hls] at h ⊢
    cases hb : beginsL l with
    | none => rw [hb] at h; cases h
    | some m =>
      rw [hb] at h
      simp only at h ⊢
      split at h
      · obtain rfl := Option.some.inj h
        by_cases h64 : (p ++ ds).length < 64
        · rw [if_pos h64]; exact .inl (by simp)
        · rw [if_neg h64]; exact .inr ⟨rfl, by simp at h64 ⊢; omega⟩
      · cases h
theorem stepL_ne {st st' : PSt} {l : Bs} (hne : st.2 = true → st.1 ≠ []) (h : stepL st l = some st') : st'.2 = true → st'.1 ≠ [] := by
  unfold stepL at h
  split at h
  · obtain rfl := Option.some.inj h; exact hne
  · unfold lineS at h
    split at h
    · split at h
      · obtain rfl := Option.some.inj h; intro e; cases e
      · split at h
        · cases h
        · split at h
          · cases h
          · rename_i ds hg
            obtain rfl := Option.some.inj h
            unfold growL at hg
            split at hg
            · cases hg
            · split at hg
              · cases hg
              · obtain rfl := Option.some.inj hg
                intro _; simp
    · split at h
      · cases h
      · split at h
        · obtain rfl := Option.some.inj h; intro _; simp
        · cases h
theorem lineS_len {ds : List Dfn} {l : Bs} {st' : PSt} (h : lineS (ds, true) l = some st') : st'.1.length = ds.length := by
  have hls : lineS (ds, true) l = if l = [125] then some (ds, false) else (match keyL l with | none => none | some kv => (match growL ds kv.1 kv.2 with | none => none | some ds => some (ds, true))) := rfl
  rw [hls] at h
  split at h
  · obtain rfl := Option.some.inj h; rfl
  · split at h
    · cases h
    · split at h
      · cases h
      · rename_i ds' hg
        obtain rfl := Option.some.inj h
        unfold growL at hg
        split at hg
        · cases hg
        · rename_i d hl
          split at hg
          · cases hg
          · obtain rfl := Option.some.inj hg
            have : ds ≠ [] := fun e => by rw [e] at hl; cases hl
            have := List.length_pos_iff.2 this
            simp; omega
theorem lineS_room {ds : List Dfn} {l : Bs} {st' : PSt} (h : lineS (ds, false) l = some st') : st'.1.length ≤ 64 := by
  have hls : lineS (ds, false) l = match beginsL l with | none => none | some m => if ds.length < 64 then some (ds ++ [openD m], true) else none := rfl
  rw [hls] at h
  split at h
  · cases h
  · split at h
    · obtain rfl := Option.some.inj h; simp; omega
    · cases h
/-- lines behind more blocks -/
theorem runN_more (p : List Dfn) : ∀ (ls : List Bs) (ds : List Dfn) (op : Bool) (n n' : Nat) (st' : PSt), (op = true → ds ≠ []) → p.length + ds.length ≤ 64 → runN (ds, op) n ls = .inl st' →
    (p.length + st'.1.length ≤ 64 → runN (p ++ ds, op) n' ls = .inl (p ++ st'.1, st'.2)) ∧ (64 < p.length + st'.1.length → ∃ k, runN (p ++ ds, op) n' ls = .inr k)
  | [], ds, op, n, n', st', _, hp, h => by
    simp only [runN, Sum.inl.injEq] at h
    subst h
    exact ⟨fun _ => rfl, fun h => absurd hp (by simp only at h; omega)⟩
  | l :: ls, ds, op, n, n', st', hne, hp, h => by
    simp only [runN] at h ⊢
    cases hs : stepL (ds, op) l with
    | none => rw [hs] at h; cases h
    | some s2 =>
      rw [hs] at h
      simp only at h
      have hg := runN_grow ls s2 st' _ h
      have hne2 := stepL_ne hne hs
      have key : stepL (p ++ ds, op) l = some (p ++ s2.1, s2.2) ∨ (stepL (p ++ ds, op) l = none ∧ 64 < p.length + s2.1.length) := by
        unfold stepL at hs ⊢
        split at hs
        · rename_i hb
          rw [if_pos hb]
          obtain rfl := Option.some.inj hs
          exact .inl rfl
        · rename_i hb
          rw [if_neg hb]
          exact lineS_app p ds op l s2 hne hs hp
      rcases key with key | ⟨key, hbig⟩
      · rw [key]
        simp only
        obtain ⟨d2, o2⟩ := s2
        by_cases h64 : p.length + d2.length ≤ 64
        · exact runN_more p ls d2 o2 _ _ st' hne2 h64 h
        · exfalso
          -- the step was taken, so there was room
          have hle : p.length + d2.length ≤ 64 := by
            unfold stepL at key
            split at key
            · have e := Option.some.inj key
              simp only [Prod.mk.injEq] at e
              have := congrArg List.length e.1
              simp at this; omega
            · cases op with
              | true =>
                have hl := lineS_len key
                simp at hl; omega
              | false =>
                have hl := lineS_room key
                simp at hl; omega
          exact h64 hle
      · rw [key]
        exact ⟨fun h => by omega, fun _ => ⟨n', rfl⟩⟩

theorem stepL_room {st st' : PSt} {l : Bs} (h : stepL st l = some st') (h64 : st.1.length ≤ 64) : st'.1.length ≤ 64 := by
  unfold stepL at h
  split at h
  · obtain rfl := Option.some.inj h; exact h64
  · obtain ⟨ds, op⟩ := st
    cases op with
    | true => rw [lineS_len h]; exact h64
    | false => exact lineS_room h
theorem runN_room : ∀ (ls : List Bs) (st st' : PSt) (n : Nat), st.1.length ≤ 64 → runN st n ls = .inl st' → st'.1.length ≤ 64
  | [], st, st', n, h64, h => by simp only [runN, Sum.inl.injEq] at h; subst h; exact h64
  | l :: ls, st, st', n, h64, h => by
    simp only [runN] at h
    cases hs : stepL st l with
    | none => rw [hs] at h; cases h
    | some s2 =>
      rw [hs] at h
      exact runN_room ls s2 st' _ (stepL_room hs h64) h
theorem parse_ok {s : Bs} (h : (parseB s).2.1 = 0) : s.length ≤ 8192 ∧ (linesB s).2 = [] ∧ runN ([], false) 1 (linesB s).1 = .inl ((parseB s).1, false) ∧ (parseB s).1.length ≤ 64 := by
  unfold parseB at h ⊢
  split at h
  · simp at h
  · rename_i h8
    rw [if_neg h8]
    cases hr : runN ([], false) 1 (linesB s).1 with
    | inr k => rw [hr] at h; simp [endP] at h
    | inl st =>
      rw [hr] at h
      simp only [endP] at h ⊢
      split at h
      · simp at h
      · rename_i hh
        rw [if_neg hh]
        simp only [not_or, Bool.not_eq_true] at hh
        refine ⟨by omega, by simpa using hh.1, ?_, ?_⟩
        · obtain ⟨ds, op⟩ := st
          simp only at hh ⊢
          rw [hh.2]
        · exact runN_room _ ([], false) st 1 (by decide) hr
theorem parse_err (s : Bs) (h : s.length ≤ 8192) : (parseB s).2.1 = 0 ∨ (parseB s).2.1 = 250 := by
  unfold parseB
  rw [if_neg (by omega)]
  cases runN ([], false) 1 (linesB s).1 with
  | inr k => exact .inr rfl
  | inl st =>
    simp only [endP]
    split
    · exact .inr rfl
    · exact .inl rfl
/-- two texts that are read, one behind the other -/
theorem parse_app {s t : Bs} (hs : (parseB s).2.1 = 0) (ht : (parseB t).2.1 = 0) (hl : (s ++ t).length ≤ 8192) :
    ((parseB s).1.length + (parseB t).1.length ≤ 64 → parseB (s ++ t) = ((parseB s).1 ++ (parseB t).1, 0, 0)) ∧ (64 < (parseB s).1.length + (parseB t).1.length → (parseB (s ++ t)).2.1 = 250) := by
  obtain ⟨_, r1, n1, l1⟩ := parse_ok hs
  obtain ⟨_, r2, n2, l2⟩ := parse_ok ht
  have hm := runN_more (parseB s).1 (linesB t).1 [] false 1 (1 + (linesB s).1.length) _ (fun h => by cases h) (by simpa using l1) n2
  rw [List.append_nil] at hm
  have e : runN ([], false) 1 (linesB (s ++ t)).1 = runN ((parseB s).1, false) (1 + (linesB s).1.length) (linesB t).1 := by
    rw [linesB_app s t r1]
    simp only
    rw [runN_app, n1]
  have e2 : (linesB (s ++ t)).2 = [] := by rw [linesB_app s t r1]; exact r2
  constructor
  · intro h
    have h1 := hm.1 h
    unfold parseB at h1 ⊢
    rw [if_neg (by omega)]
    unfold parseB at e
    rw [e, h1, e2]
    simp [endP]
  · intro h
    obtain ⟨k, h1⟩ := hm.2 h
    have : parseB (s ++ t) = ([], 250, (k : Int)) := by
      unfold parseB at h1 e ⊢
      rw [if_neg (by omega), e, h1]
      rfl
    rw [this]
end Go.Proofs.YtolbhhokpelchaaDoor
/- What is written is read, and what is read, written, is the text. Mathematics alone. -/
namespace Go.Proofs.YtolbhhokpelchaaDoor

theorem bwB_ne {c : UInt8} (h : bwB c = true) : c ≠ 10 ∧ c ≠ 9 ∧ blankB c = false ∧ c ≠ 35 ∧ c ≠ 59 := by
  have h' : 97 ≤ c.toNat ∧ c.toNat ≤ 122 ∨ 48 ≤ c.toNat ∧ c.toNat ≤ 57 ∨ c.toNat = 95 := by simpa [bwB] using h
  have ne : ∀ k : UInt8, c.toNat ≠ k.toNat → c ≠ k := fun k hk e => hk (by rw [e])
  refine ⟨ne 10 (by show c.toNat ≠ 10; omega), ne 9 (by show c.toNat ≠ 9; omega), ?_, ne 35 (by show c.toNat ≠ 35; omega), ne 59 (by show c.toNat ≠ 59; omega)⟩
  have h1 := ne 32 (by show c.toNat ≠ 32; omega)
  have h2 := ne 9 (by show c.toNat ≠ 9; omega)
  simp [blankB, h1, h2]
theorem bvB_ne {c : UInt8} (h : bvB c = true) : c ≠ 10 := by
  have h' : 32 ≤ c.toNat ∧ c.toNat ≤ 126 ∧ c.toNat ≠ 59 := by simpa [bvB] using h
  intro e
  subst e
  exact absurd h'.1 (by decide)
theorem bwC_all {s : Bs} (h : bwC s = true) : (∀ c ∈ s, bwB c = true) ∧ s ≠ [] := by
  simp only [bwC, Bool.and_eq_true, decide_eq_true_eq, List.all_eq_true] at h
  exact ⟨h.2, fun e => by rw [e] at h; simp at h⟩
theorem bvC_all {s : Bs} (h : bvC s = true) : ∀ c ∈ s, bvB c = true := by
  simp only [bvC, Bool.and_eq_true, List.all_eq_true] at h
  exact h.2

theorem keyL_of {k v : Bs} (hk : bwC k = true) (hv : bvC v = true) : keyL (9 :: (k ++ 9 :: v)) = some (k, v) := by
  have hn : ∀ c ∈ k, (!isTab c) = true := fun c hc => by
    have := (bwB_ne ((bwC_all hk).1 c hc)).2.1
    simp [isTab, this]
  have h1 : (k ++ 9 :: v).takeWhile (fun x => !isTab x) = k := by
    rw [List.takeWhile_append_of_pos (by simpa using hn)]
    simp [isTab]
  have h2 : (k ++ 9 :: v).dropWhile (fun x => !isTab x) = 9 :: v := by
    rw [List.dropWhile_append_of_pos (by simpa using hn)]
    simp [isTab]
  simp only [keyL, if_true]
  rw [h2, h1, hk]
  simp [hv]
theorem keyL_inv {l k v : Bs} (h : keyL l = some (k, v)) : l = 9 :: (k ++ 9 :: v) ∧ bwC k = true ∧ bvC v = true := by
  cases l with
  | nil => simp [keyL] at h
  | cons c t =>
    simp only [keyL] at h
    split at h
    · rename_i hc
      cases hd : t.dropWhile (fun x => !isTab x) with
      | nil => rw [hd] at h; cases h
      | cons x w =>
        rw [hd] at h
        simp only at h
        split at h
        · rename_i hh
          simp only [Option.some.injEq, Prod.mk.injEq] at h
          obtain ⟨h1, rfl⟩ := h
          have hx : isTab x = true := by
            have := List.head?_dropWhile_not (fun x => !isTab x) t
            rw [hd] at this
            simpa using this
          have hx9 : x = 9 := by simpa [isTab] using hx
          have e := List.takeWhile_append_dropWhile (p := fun x => !isTab x) (l := t)
          rw [hd, h1, hx9] at e
          simp only [Bool.and_eq_true] at hh
          rw [h1] at hh
          exact ⟨by rw [hc, e], hh.1, hh.2⟩
        · cases h
    · cases h

theorem begin_step (p : List Dfn) (k : Bs) (hk : bwC k = true) (hp : p.length < 64) : stepL (p, false) (preD ++ (k ++ [32, 123])) = some (p ++ [openD k], true) := by
  have hb : blankL (preD ++ (k ++ [32, 123])) = false := by
    unfold blankL preD
    rfl
  unfold stepL
  rw [hb, if_neg (by simp)]
  have hls : lineS (p, false) (preD ++ (k ++ [32, 123])) = match beginsL (preD ++ (k ++ [32, 123])) with | none => none | some m => if p.length < 64 then some (p ++ [openD m], true) else none := rfl
  rw [hls, (beginsL_iff _ _).2 ⟨rfl, hk⟩]
  simp only
  rw [if_pos hp]
theorem key_step (p : List Dfn) (d : Dfn) (k v : Bs) (hk : bwC k = true) (hv : bvC v = true) (hm : memB (bytesA k) d.keys = false) (h64 : d.keys.length ≠ 64) : stepL (p ++ [d], true) (9 :: (k ++ 9 :: v)) = some (p ++ [addK d k v], true) := by
  obtain ⟨ha, hne⟩ := bwC_all hk
  have hb : blankL (9 :: (k ++ 9 :: v)) = false := by
    cases k with
    | nil => exact absurd rfl hne
    | cons c k =>
      obtain ⟨_, _, h3, h4, h5⟩ := bwB_ne (ha c (by simp))
      have e : (9 :: (c :: k ++ 9 :: v)).dropWhile blankB = c :: (k ++ 9 :: v) := by
        rw [List.dropWhile_cons_of_pos (by decide), List.cons_append, List.dropWhile_cons_of_neg (by rw [h3]; simp)]
      unfold blankL
      rw [e]
      simp [blankT, h4, h5]
  unfold stepL
  rw [hb, if_neg (by simp)]
  have hls : lineS (p ++ [d], true) (9 :: (k ++ 9 :: v)) = if (9 :: (k ++ 9 :: v)) = [125] then some (p ++ [d], false) else (match keyL (9 :: (k ++ 9 :: v)) with | none => none | some kv => (match growL (p ++ [d]) kv.1 kv.2 with | none => none | some ds => some (ds, true))) := rfl
  rw [hls, if_neg (by simp), keyL_of hk hv]
  have hg : growL (p ++ [d]) k v = some (p ++ [addK d k v]) := by
    unfold growL
    rw [List.getLast?_concat]
    simp only
    rw [hm, if_neg (by simp [h64]), List.dropLast_concat]
  simp only
  rw [hg]
theorem end_step (p : List Dfn) : stepL (p, true) [125] = some (p, false) := rfl

/-- the lines of a block's keys, of a block, of blocks -/
def keyLines : List ByteArray → List ByteArray → List Bs
  | k :: ks, v :: vs => (9 :: (k.data.toList ++ 9 :: v.data.toList)) :: keyLines ks vs
  | _, _ => []
def defLines (d : Dfn) : List Bs := (preD ++ (d.kind.data.toList ++ [32, 123])) :: (keyLines d.keys d.vals ++ [[125]])
def defsLines (ds : List Dfn) : List Bs := ds.flatMap defLines
def unL (ls : List Bs) : Bs := ls.flatMap (fun l => l ++ [10])
theorem unL_app (a b : List Bs) : unL (a ++ b) = unL a ++ unL b := by simp [unL]
theorem keys_un : ∀ ks vs : List ByteArray, unL (keyLines ks vs) = keysT ks vs
  | [], _ => rfl
  | _ :: _, [] => rfl
  | k :: ks, v :: vs => by
    have ih := keys_un ks vs
    simp only [keyLines, keysT, ← ih]
    simp [unL, lineD]
theorem def_un (d : Dfn) : unL (defLines d) = defT d := by
  have e : unL (defLines d) = (preD ++ (d.kind.data.toList ++ [32, 123])) ++ [10] ++ (unL (keyLines d.keys d.vals) ++ [125, 10]) := by
    simp [defLines, unL]
  rw [e, keys_un]
  simp [defT, headT, preD]
theorem defs_un (ds : List Dfn) : unL (defsLines ds) = defsT ds := by
  induction ds with
  | nil => rfl
  | cons d ds ih =>
    have e : defsLines (d :: ds) = defLines d ++ defsLines ds := by simp [defsLines]
    rw [e, unL_app, ih, def_un]
    simp [defsT]
/-- lines that have no byte 10 inside are what a text of them has -/
theorem lines_un : ∀ ls : List Bs, (∀ l ∈ ls, ∀ c ∈ l, c ≠ 10) → linesB (unL ls) = (ls, [])
  | [], _ => rfl
  | l :: ls, h => by
    have e : unL (l :: ls) = l ++ 10 :: unL ls := by simp [unL]
    rw [e, linesB_cut _ _ (h l (by simp)), lines_un ls (fun x hx => h x (List.mem_cons_of_mem _ hx))]
theorem keyLines_mem : ∀ (ks vs : List ByteArray), ∀ l ∈ keyLines ks vs, ∃ k ∈ ks, ∃ v ∈ vs, l = 9 :: (k.data.toList ++ 9 :: v.data.toList)
  | [], _, l, h => by cases h
  | _ :: _, [], l, h => by cases h
  | k :: ks, v :: vs, l, h => by
    simp only [keyLines, List.mem_cons] at h
    rcases h with rfl | h
    · exact ⟨k, by simp, v, by simp, rfl⟩
    · obtain ⟨k', hk, v', hv, e⟩ := keyLines_mem ks vs l h
      exact ⟨k', List.mem_cons_of_mem _ hk, v', List.mem_cons_of_mem _ hv, e⟩
theorem def_words {d : Dfn} (h : defC d = true) : bwC d.kind.data.toList = true ∧ (∀ k ∈ d.keys, bwC k.data.toList = true) ∧ (∀ v ∈ d.vals, bvC v.data.toList = true) ∧ d.keys.length = d.vals.length ∧ d.keys.length ≤ 64 := by
  obtain ⟨h1, h2, h3, h4⟩ := (defC_iff d).1 h
  refine ⟨h1, fun k hk => ?_, fun v hv => ?_, h3, h2⟩
  · obtain ⟨i, hi, rfl⟩ := List.getElem_of_mem hk
    have := h4 i hi
    rw [okD_at d.keys d.vals i hi (by omega)] at this
    simp only [Bool.and_eq_true] at this
    exact this.1.1
  · obtain ⟨i, hi, rfl⟩ := List.getElem_of_mem hv
    have := h4 i (by omega)
    rw [okD_at d.keys d.vals i (by omega) hi] at this
    simp only [Bool.and_eq_true] at this
    exact this.2
theorem defLines_none {d : Dfn} (h : defC d = true) : ∀ l ∈ defLines d, ∀ c ∈ l, c ≠ 10 := by
  obtain ⟨h1, h2, h3, _⟩ := def_words h
  intro l hl c hc
  simp only [defLines, List.mem_cons, List.mem_append, List.not_mem_nil, or_false] at hl
  rcases hl with rfl | hl | rfl
  · simp only [List.mem_append, List.mem_cons, List.not_mem_nil, or_false] at hc
    rcases hc with hc | hc | hc | hc
    · simp only [preD, List.mem_cons, List.not_mem_nil, or_false] at hc
      rcases hc with rfl | rfl | rfl | rfl | rfl | rfl | rfl <;> decide
    · exact (bwB_ne ((bwC_all h1).1 c hc)).1
    · subst hc; decide
    · subst hc; decide
  · obtain ⟨k, hk, v, hv, rfl⟩ := keyLines_mem _ _ l hl
    simp only [List.mem_cons, List.mem_append] at hc
    rcases hc with rfl | hc | rfl | hc
    · decide
    · exact (bwB_ne ((bwC_all (h2 k hk)).1 c hc)).1
    · decide
    · exact bvB_ne (bvC_all (h3 v hv) c hc)
  · simp only [List.mem_singleton] at hc
    subst hc; decide
theorem keys_run (p : List Dfn) : ∀ (ks vs : List ByteArray) (d : Dfn) (n : Nat), ks.length = vs.length → (∀ k ∈ ks, bwC k.data.toList = true) → (∀ v ∈ vs, bvC v.data.toList = true) → d.keys.length + ks.length ≤ 64 → (d.keys ++ ks).Nodup →
    ∃ m, runN (p ++ [d], true) n (keyLines ks vs) = .inl (p ++ [⟨d.kind, d.keys ++ ks, d.vals ++ vs⟩], true) ∧ m = n + ks.length
  | [], [], d, n, _, _, _, _, _ => ⟨n, by simp [keyLines, runN], by simp⟩
  | [], _ :: _, _, _, h, _, _, _, _ => by simp at h
  | _ :: _, [], _, _, h, _, _, _, _ => by simp at h
  | k :: ks, v :: vs, d, n, h, hk, hv, h64, hnd => by
    have hmem : memB (bytesA k.data.toList) d.keys = false := by
      rw [← Bool.not_eq_true, memB_iff]
      intro hm
      rw [List.nodup_append] at hnd
      exact hnd.2.2 _ hm k (by simp) (bytes_ext rfl)
    have hs := key_step p d k.data.toList v.data.toList (hk k (by simp)) (hv v (by simp)) hmem (by simp at h64; omega)
    have ea : addK d k.data.toList v.data.toList = ⟨d.kind, d.keys ++ [k], d.vals ++ [v]⟩ := by
      unfold addK
      rw [show bytesA k.data.toList = k from bytes_ext rfl, show bytesA v.data.toList = v from bytes_ext rfl]
    rw [ea] at hs
    obtain ⟨m, h1, h2⟩ := keys_run p ks vs ⟨d.kind, d.keys ++ [k], d.vals ++ [v]⟩ (n + 1) (by simpa using h) (fun x hx => hk x (List.mem_cons_of_mem _ hx)) (fun x hx => hv x (List.mem_cons_of_mem _ hx)) (by simp at h64 ⊢; omega) (by simpa using hnd)
    refine ⟨n + (k :: ks).length, ?_, rfl⟩
    simp only [keyLines, runN]
    rw [hs]
    simp only
    rw [h1]
    simp
theorem keys_nodup {d : Dfn} (h : defC d = true) : d.keys.Nodup := by
  obtain ⟨_, _, h3, h4⟩ := (defC_iff d).1 h
  rw [List.nodup_iff_pairwise_ne, List.pairwise_iff_getElem]
  intro i j hi hj hij e
  have := h4 j hj
  rw [okD_at d.keys d.vals j hj (by omega)] at this
  simp only [Bool.and_eq_true, Bool.not_eq_true'] at this
  have hm : memB d.keys[j] (d.keys.take j) = true := by
    rw [memB_iff, List.mem_take_iff_getElem]
    exact ⟨i, by omega, e⟩
  rw [hm] at this
  exact absurd this.1.2 (by simp)
theorem def_run (p : List Dfn) (d : Dfn) (n : Nat) (h : defC d = true) (hp : p.length < 64) : runN (p, false) n (defLines d) = .inl (p ++ [d], false) := by
  obtain ⟨h1, h2, h3, h4, h5⟩ := def_words h
  unfold defLines
  simp only [runN]
  rw [begin_step p _ h1 hp]
  simp only
  obtain ⟨m, hk, _⟩ := keys_run p d.keys d.vals (openD d.kind.data.toList) (n + 1) h4 h2 h3 (by simpa [openD] using h5) (by simpa [openD] using keys_nodup h)
  rw [runN_app, hk]
  simp only [runN, end_step]
  have e : (⟨(openD d.kind.data.toList).kind, (openD d.kind.data.toList).keys ++ d.keys, (openD d.kind.data.toList).vals ++ d.vals⟩ : Dfn) = d := by
    cases d
    simp only [openD, List.nil_append]
    congr 1
  rw [e]
theorem defs_run : ∀ (ds p : List Dfn) (n : Nat), (∀ d ∈ ds, defC d = true) → p.length + ds.length ≤ 64 → runN (p, false) n (defsLines ds) = .inl (p ++ ds, false)
  | [], p, n, _, _ => by simp [defsLines, runN]
  | d :: ds, p, n, h, hp => by
    have e : defsLines (d :: ds) = defLines d ++ defsLines ds := by simp [defsLines]
    rw [e, runN_app, def_run p d n (h d (by simp)) (by simp at hp; omega)]
    simp only
    rw [defs_run ds (p ++ [d]) _ (fun x hx => h x (List.mem_cons_of_mem _ hx)) (by simp at hp ⊢; omega)]
    simp
/-- what is written is read -/
theorem parse_print {ds : List Dfn} (h : defsC ds = true) (hl : (defsT ds).length ≤ 8192) : parseB (defsT ds) = (ds, 0, 0) := by
  have h64 : ds.length ≤ 64 ∧ ∀ d ∈ ds, defC d = true := by simpa [defsC] using h
  have hlines : linesB (defsT ds) = (defsLines ds, []) := by
    rw [← defs_un]
    exact lines_un _ (fun l hl => by
      obtain ⟨d, hd, hl⟩ := List.mem_flatMap.1 hl
      exact defLines_none (h64.2 d hd) l hl)
  have hr := defs_run ds [] 1 h64.2 (by simpa using h64.1)
  unfold parseB
  rw [if_neg (by omega), hlines]
  simp only
  rw [hr]
  simp [endP]
theorem print_inj {ds es : List Dfn} (h : defsC ds = true) (hl : (defsT ds).length ≤ 8192) (h' : defsC es = true) (hl' : (defsT es).length ≤ 8192) (e : defsT ds = defsT es) : ds = es := by
  have h1 := parse_print h hl
  rw [e, parse_print h' hl'] at h1
  exact (Prod.mk.inj h1).1.symm
end Go.Proofs.YtolbhhokpelchaaDoor
