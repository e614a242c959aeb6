/- A line that is left out, put in anywhere between a text's lines: which node the text is read as then. Mathematics alone. -/
import Derived.Test.YtolbhhokpelchaaDoorOtlM
import Derived.Test.YtolbhhokpelchaaDoorMg2
namespace Go.Proofs.YtolbhhokpelchaaDoor

/-- a line's number, where a line is put in behind the first A -/
def bumpN (A k : Nat) : Nat := if A < k then k + 1 else k
theorem bumpN_int (A k : Nat) : ((bumpN A k : Nat) : Int) = bumpI A (k : Int) := by
  unfold bumpN bumpI
  by_cases h : A < k
  · rw [if_pos h, if_pos (by omega)]; omega
  · rw [if_neg h, if_neg (by omega)]
/-- where a reader is in a text, and where it is in the text with the line x put in behind the first A -/
def RlN (A : Nat) (x : Bs) (b : List Bs) (cur : Nat) (ls : List Bs) (cur' : Nat) (ls' : List Bs) : Prop :=
  (∃ a', ls = a' ++ b ∧ ls' = a' ++ x :: b ∧ cur' = cur ∧ cur + a'.length = A) ∨ (ls' = ls ∧ cur' = cur + 1 ∧ A < cur)
theorem RlN.cur {A : Nat} {x : Bs} {b : List Bs} {cur : Nat} {ls : List Bs} {cur' : Nat} {ls' : List Bs} (h : RlN A x b cur ls cur' ls') : cur' = bumpN A cur := by
  rcases h with ⟨a', _, _, rfl, h⟩ | ⟨_, rfl, h⟩
  · rw [bumpN, if_neg (by omega)]
  · rw [bumpN, if_pos h]
theorem RlN.len {A : Nat} {x : Bs} {b : List Bs} {cur : Nat} {ls : List Bs} {cur' : Nat} {ls' : List Bs} (h : RlN A x b cur ls cur' ls') : ls.length ≤ ls'.length := by
  rcases h with ⟨a', rfl, rfl, _, _⟩ | ⟨rfl, _, _⟩
  · simp
  · exact Nat.le_refl _
theorem nextT_shift : ∀ (ls : List Bs) (n : Nat) (r : Bs), nextT (n + 1) ls r = ((nextT n ls r).1 + 1, (nextT n ls r).2)
  | [], n, r => rfl
  | l :: ls, n, r => by
    simp only [nextT]
    cases tokR l with
    | none => exact nextT_shift ls (n + 1) r
    | some y => rfl
theorem nextT_gt : ∀ (ls : List Bs) (n : Nat) (r : Bs), n < (nextT n ls r).1
  | [], n, r => Nat.lt_succ_self n
  | l :: ls, n, r => by
    simp only [nextT]
    cases tokR l with
    | none => exact Nat.lt_trans (Nat.lt_succ_self n) (nextT_gt ls (n + 1) r)
    | some y => exact Nat.lt_succ_self n
theorem nextT_ins {A : Nat} {x : Bs} (hx : tokR x = none) {b : List Bs} (r : Bs) {cur : Nat} {ls : List Bs} {cur' : Nat} {ls' : List Bs} (h : RlN A x b cur ls cur' ls') :
    (nextT cur' ls' r).2.1 = (nextT cur ls r).2.1 ∧ RlN A x b (nextT cur ls r).1 (nextT cur ls r).2.2 (nextT cur' ls' r).1 (nextT cur' ls' r).2.2 := by
  rcases h with ⟨a', rfl, rfl, rfl, h⟩ | ⟨rfl, rfl, h⟩
  · induction a' generalizing cur' with
    | nil =>
      have e : nextT cur' (x :: b) r = nextT (cur' + 1) b r := by simp only [nextT, hx]
      simp only [List.nil_append]
      rw [e, nextT_shift]
      have := nextT_gt b cur' r
      simp only [List.length_nil] at h
      exact ⟨rfl, .inr ⟨rfl, rfl, by omega⟩⟩
    | cons l a' ih =>
      simp only [List.length_cons] at h
      simp only [List.cons_append, nextT]
      cases tokR l with
      | none => exact ih (by omega)
      | some y => exact ⟨rfl, .inl ⟨a', rfl, rfl, rfl, (show cur' + 1 + a'.length = A by omega)⟩⟩
  · rw [nextT_shift]
    have := nextT_gt ls' cur r
    exact ⟨rfl, .inr ⟨rfl, rfl, by omega⟩⟩
/-- what is read of two such texts -/
def InsR (A : Nat) (x : Bs) (b : List Bs) : RdRes → RdRes → Prop
  | .inl k, .inl k' => k' = bumpN A k
  | .inr (z, t, m, l2), .inr (z', t', m', l2') => z' = z ∧ t' = t ∧ RlN A x b m l2 m' l2'
  | _, _ => False
theorem itemsR_ins {A : Nat} {x : Bs} (hx : tokR x = none) {b : List Bs} (r : Bs) : ∀ (f : Nat) (n : Nd) (deep : Int) (y : It) (cur : Nat) (ls : List Bs) (cur' : Nat) (ls' : List Bs), RlN A x b cur ls cur' ls' →
    InsR A x b (itemsR f n deep y cur ls r) (itemsR f n deep y cur' ls' r)
  | 0, n, deep, y, cur, ls, cur', ls', h => h.cur
  | f + 1, n, deep, y, cur, ls, cur', ls', h => by
    have ih := itemsR_ins hx (A := A) (b := b) r f
    rw [itemsR, itemsR]
    by_cases hd : y.deep = deep
    · rw [if_pos hd, if_pos hd]
      by_cases hf : fitsI n y = true
      · rw [if_pos hf, if_pos hf]
        have hn := nextT_ins hx r h
        cases h1 : nextT cur ls r with
        | mk m p =>
          obtain ⟨o, l1⟩ := p
          cases h2 : nextT cur' ls' r with
          | mk m' p' =>
            obtain ⟨o', l1'⟩ := p'
            rw [h1, h2] at hn
            obtain ⟨ho, hr⟩ := hn
            simp only at ho hr
            subst ho
            cases o' with
            | none => exact hr.cur
            | some t =>
              simp only
              by_cases hk : y.node.kind = 0
              · rw [if_pos hk, if_pos hk]
                by_cases ht : t.deep = deep + 1
                · rw [if_pos ht, if_pos ht]
                  have i1 := ih (.mk t.kind ⟨#[]⟩ [] []) t.deep t m l1 m' l1' hr
                  cases e1 : itemsR f (.mk t.kind ⟨#[]⟩ [] []) t.deep t m l1 r with
                  | inl k =>
                    cases e2 : itemsR f (.mk t.kind ⟨#[]⟩ [] []) t.deep t m' l1' r with
                    | inl k' => rw [e1, e2] at i1; exact i1
                    | inr z => rw [e1, e2] at i1; exact i1.elim
                  | inr z =>
                    cases e2 : itemsR f (.mk t.kind ⟨#[]⟩ [] []) t.deep t m' l1' r with
                    | inl k' => rw [e1, e2] at i1; exact i1.elim
                    | inr z' =>
                      rw [e1, e2] at i1
                      obtain ⟨z1, z2, z3, z4⟩ := z
                      obtain ⟨y1, y2, y3, y4⟩ := z'
                      obtain ⟨rfl, rfl, i2⟩ := i1
                      simp only
                      by_cases hl : y2.deep ≤ deep
                      · rw [if_pos hl, if_pos hl]
                        exact ih _ _ _ _ _ _ _ i2
                      · rw [if_neg hl, if_neg hl]
                        exact i2.cur
                · rw [if_neg ht, if_neg ht]
                  exact hr.cur
              · rw [if_neg hk, if_neg hk]
                by_cases ht : t.deep ≤ deep
                · rw [if_pos ht, if_pos ht]
                  exact ih _ _ _ _ _ _ _ hr
                · rw [if_neg ht, if_neg ht]
                  exact hr.cur
      · rw [if_neg hf, if_neg hf]
        exact h.cur
    · rw [if_neg hd, if_neg hd]
      exact ⟨rfl, rfl, h⟩
theorem bumpI_zero (A : Nat) : bumpI A 0 = 0 := by rw [bumpI, if_neg (by omega)]
theorem notes_parseN (a b : List Bs) (x : Bs) (hx : tokR x = none) (hn : ∀ l ∈ a ++ x :: b, ∀ c ∈ l, c ≠ 10) (h1 : (unL (a ++ b)).length ≤ 8192) (h2 : (unL (a ++ x :: b)).length ≤ 8192) :
    parseN (unL (a ++ x :: b)) = ((parseN (unL (a ++ b))).1, (parseN (unL (a ++ b))).2.1, bumpI a.length (parseN (unL (a ++ b))).2.2) := by
  have e1 := lines_un (a ++ b) (fun l hl => hn l (by
    rw [List.mem_append] at hl ⊢
    rcases hl with hl | hl
    · exact .inl hl
    · exact .inr (List.mem_cons_of_mem _ hl)))
  have e2 := lines_un (a ++ x :: b) hn
  unfold parseN
  rw [if_neg (by omega), if_neg (by omega), e1, e2]
  have hr0 : RlN a.length x b 0 (a ++ b) 0 (a ++ x :: b) := .inl ⟨a, rfl, rfl, rfl, by omega⟩
  have hn := nextT_ins hx [] hr0
  simp only
  cases h1 : nextT 0 (a ++ b) [] with
  | mk m p =>
    obtain ⟨o, l1⟩ := p
    cases h2 : nextT 0 (a ++ x :: b) [] with
    | mk m' p' =>
      obtain ⟨o', l1'⟩ := p'
      rw [h1, h2] at hn
      obtain ⟨ho, hr⟩ := hn
      simp only at ho hr
      subst ho
      cases o' with
      | none =>
        simp only
        rw [hr.cur, bumpN_int]
      | some t =>
        simp only
        by_cases hd : t.deep = 0
        · rw [if_pos hd, if_pos hd]
          have i1 := itemsR_ins hx [] (l1'.length + 2) (.mk t.kind ⟨#[]⟩ [] []) 0 t m l1 m' l1' hr
          rw [itemsC_of (Int.le_refl 0) (by have := hr.len; omega)] at i1
          change InsR _ _ _ _ (itemsC (.mk t.kind ⟨#[]⟩ [] []) 0 t m' l1' []) at i1
          cases e1 : itemsC (.mk t.kind ⟨#[]⟩ [] []) 0 t m l1 [] with
          | inl k =>
            cases e2 : itemsC (.mk t.kind ⟨#[]⟩ [] []) 0 t m' l1' [] with
            | inl k' =>
              rw [e1, e2] at i1
              have i2 : k' = bumpN a.length k := i1
              simp only
              rw [i2, bumpN_int]
            | inr z => rw [e1, e2] at i1; exact i1.elim
          | inr z =>
            cases e2 : itemsC (.mk t.kind ⟨#[]⟩ [] []) 0 t m' l1' [] with
            | inl k' => rw [e1, e2] at i1; exact i1.elim
            | inr z' =>
              rw [e1, e2] at i1
              obtain ⟨z1, z2, z3, z4⟩ := z
              obtain ⟨y1, y2, y3, y4⟩ := z'
              obtain ⟨rfl, rfl, _⟩ := i1
              simp only
              rw [bumpI_zero]
        · rw [if_neg hd, if_neg hd]
          simp only
          rw [hr.cur, bumpN_int]
theorem tokR_note (n : Bs) : tokR ([32, 32, 35] ++ n) = none := by
  have e : saidT ([32, 32, 35] ++ n) = 35 :: n := by
    unfold saidT Lib.trimLeftB
    simp
  unfold tokR
  rw [e]
  simp
theorem nextT_bnd : ∀ (ls : List Bs) (n : Nat) (r : Bs), (nextT n ls r).1 + (nextT n ls r).2.2.length ≤ n + ls.length + 1 ∧ (∀ b, (nextT n ls r).2.1 = some b → b ≠ endI → (nextT n ls r).1 + (nextT n ls r).2.2.length ≤ n + ls.length)
  | [], n, r => by
    refine ⟨Nat.le_refl _, fun b hb hne => ?_⟩
    simp only [nextT] at hb
    split at hb
    · cases hb; exact absurd rfl hne
    · cases hb
  | l :: ls, n, r => by
    simp only [nextT, List.length_cons]
    cases tokR l with
    | none =>
      have ih := nextT_bnd ls (n + 1) r
      exact ⟨by have := ih.1; simp only; omega, fun b hb hne => by have := ih.2 b hb hne; simp only; omega⟩
    | some y => exact ⟨by simp only; omega, fun b hb hne => by simp only; omega⟩
/-- which numbers of lines are told -/
def BndR (B : Nat) : RdRes → Prop
  | .inl k => k ≤ B + 1
  | .inr (_, b, m, l2) => m + l2.length ≤ B ∨ b = endI ∧ m + l2.length ≤ B + 1
theorem BndR.mono {B B' : Nat} {x : RdRes} (h : BndR B x) (hB : B ≤ B') : BndR B' x := by
  cases x with
  | inl k => exact Nat.le_trans h (by omega)
  | inr z =>
    rcases h with h | ⟨h1, h2⟩
    · exact .inl (by omega)
    · exact .inr ⟨h1, by omega⟩
theorem bnd_endI {B m : Nat} {l1 : List Bs} (f : Nat) (n : Nd) (deep : Int) (r : Bs) (hd : 0 ≤ deep) (h : m + l1.length ≤ B + 1) : BndR B (itemsR f n deep endI m l1 r) := by
  cases f with
  | zero => show m ≤ B + 1; omega
  | succ f =>
    rw [itemsR, if_neg (by have : endI.deep = -1 := rfl; omega)]
    exact .inr ⟨rfl, h⟩
theorem itemsR_bnd : ∀ (f : Nat) (n : Nd) (deep : Int) (x : It) (cur : Nat) (ls : List Bs) (r : Bs), 0 ≤ deep → BndR (cur + ls.length) (itemsR f n deep x cur ls r)
  | 0, n, deep, x, cur, ls, r, hd => by show cur ≤ cur + ls.length + 1; omega
  | f + 1, n, deep, x, cur, ls, r, hd => by
    have ih := itemsR_bnd f
    rw [itemsR]
    by_cases hx : x.deep = deep
    · rw [if_pos hx]
      by_cases hf : fitsI n x = true
      · rw [if_pos hf]
        have hn := nextT_bnd ls cur r
        cases h1 : nextT cur ls r with
        | mk m p =>
          obtain ⟨o, l1⟩ := p
          rw [h1] at hn
          simp only at hn
          cases o with
          | none => show m ≤ _; omega
          | some b =>
            simp only
            have go : ∀ (b : It) (n : Nd) (m : Nat) (l1 : List Bs), (m + l1.length ≤ cur + ls.length ∨ b = endI ∧ m + l1.length ≤ cur + ls.length + 1) → BndR (cur + ls.length) (itemsR f n deep b m l1 r) := fun b n m l1 h => by
              rcases h with h | ⟨rfl, h⟩
              · exact (ih n deep b m l1 r hd).mono h
              · exact bnd_endI f n deep r hd h
            have hb : m + l1.length ≤ cur + ls.length ∨ b = endI ∧ m + l1.length ≤ cur + ls.length + 1 := by
              by_cases e : b = endI
              · exact .inr ⟨e, hn.1⟩
              · exact .inl (hn.2 b rfl e)
            by_cases hk : x.node.kind = 0
            · rw [if_pos hk]
              by_cases ht : b.deep = deep + 1
              · rw [if_pos ht]
                have hb1 : m + l1.length ≤ cur + ls.length := by
                  rcases hb with h | ⟨rfl, _⟩
                  · exact h
                  · have : endI.deep = -1 := rfl
                    omega
                have i1 := (ih (.mk b.kind ⟨#[]⟩ [] []) b.deep b m l1 r (by omega)).mono hb1
                cases e1 : itemsR f (.mk b.kind ⟨#[]⟩ [] []) b.deep b m l1 r with
                | inl k => rw [e1] at i1; exact i1
                | inr z =>
                  obtain ⟨z1, z2, z3, z4⟩ := z
                  rw [e1] at i1
                  simp only
                  by_cases hl : z2.deep ≤ deep
                  · rw [if_pos hl]
                    exact go _ _ _ _ i1
                  · rw [if_neg hl]
                    show z3 ≤ _
                    rcases i1 with h | ⟨_, h⟩ <;> omega
              · rw [if_neg ht]
                show m ≤ _
                omega
            · rw [if_neg hk]
              by_cases ht : b.deep ≤ deep
              · rw [if_pos ht]
                exact go _ _ _ _ hb
              · rw [if_neg ht]
                show m ≤ _
                omega
      · rw [if_neg hf]
        show cur ≤ _
        omega
    · rw [if_neg hx]
      exact .inl (Nat.le_refl _)
theorem parseN_at (s : Bs) : 0 ≤ (parseN s).2.2 ∧ (parseN s).2.2 ≤ (linesB s).1.length + 1 := by
  unfold parseN
  split
  · exact ⟨Int.le_refl _, by show (0 : Int) ≤ _; omega⟩
  · have hn := nextT_bnd (linesB s).1 0 (linesB s).2
    cases h1 : nextT 0 (linesB s).1 (linesB s).2 with
    | mk m p =>
      obtain ⟨o, l1⟩ := p
      rw [h1] at hn
      simp only at hn
      cases o with
      | none => simp only; omega
      | some x =>
        simp only
        split
        · rename_i hx
          have hne : x ≠ endI := fun e => by
            rw [e] at hx
            have : endI.deep = -1 := rfl
            omega
          have h2 := hn.2 x rfl hne
          have h3 : BndR (m + l1.length) (itemsC (.mk x.kind ⟨#[]⟩ [] []) 0 x m l1 (linesB s).2) := itemsR_bnd _ _ _ _ _ _ _ (Int.le_refl 0)
          cases e1 : itemsC (.mk x.kind ⟨#[]⟩ [] []) 0 x m l1 (linesB s).2 with
          | inl k =>
            rw [e1] at h3
            have h4 : k ≤ m + l1.length + 1 := h3
            simp only
            omega
          | inr z => simp only; omega
        · simp only; omega
end Go.Proofs.YtolbhhokpelchaaDoor
