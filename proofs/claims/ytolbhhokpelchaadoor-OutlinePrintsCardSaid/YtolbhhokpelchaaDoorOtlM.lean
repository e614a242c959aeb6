/- What a reader of nodes reads: words, lines, items, nodes. Mathematics alone. -/
import Derived.Test.YtolbhhokpelchaaDoorOutJ
import Derived.Test.YtolbhhokpelchaaDoorPrsM
import Derived.Lib.TrimByte
namespace Go.Proofs.YtolbhhokpelchaaDoor

/-- what a line says: how deep in it stands, the kind of what it is an item of, its name there, its node (of no kind: a header) -/
structure It where
  deep : Int
  kind : Int
  name : ByteArray
  node : Nd
def noNd : Nd := .mk 0 ⟨#[]⟩ [] []
def endI : It := ⟨-1, 0, ⟨#[]⟩, noNd⟩
def unqL : Bs → Bs
  | [] => []
  | [c] => [c]
  | c :: d :: s => if c = 92 then d :: unqL s else c :: unqL (d :: s)
def withinQ (t : Bs) : Bs := Lib.trimSuffix (Lib.trimPrefix t [34]) [34]
def unqS (t : Bs) : Bs := if Lib.hasPrefix t [34] then unqL (withinQ t) else t
/-- the node that stands behind a name, or a dash -/
def flatI (s : Bs) : Option Nd :=
  if Lib.hasPrefix s [32] then
    (if Lib.trimPrefix s [32] = [91, 93] then some (.mk 2 ⟨#[]⟩ [] [])
    else if Lib.trimPrefix s [32] = [123, 125] then some (.mk 3 ⟨#[]⟩ [] [])
    else if owC (unqS (Lib.trimPrefix s [32])) && decide (wordT (bytesA (unqS (Lib.trimPrefix s [32]))) = bytesA (Lib.trimPrefix s [32])) then some (.mk 1 (bytesA (unqS (Lib.trimPrefix s [32]))) [] []) else none)
  else none
def finI (d k : Int) (nm : ByteArray) (s : Bs) : Option It :=
  if s = [] then (if d ≤ 5 then some ⟨d, k, nm, noNd⟩ else none) else (flatI s).map fun n => ⟨d, k, nm, n⟩
def itemI (said : Bs) (blanks : Nat) : Option It :=
  if blanks % 2 = 0 then
    (if Lib.hasPrefix said [45] then finI ((blanks / 2 : Nat) : Int) 2 ⟨#[]⟩ (Lib.trimPrefix said [45])
    else if (Lib.cut said [58]).2.2 && bwC (Lib.cut said [58]).1 then finI ((blanks / 2 : Nat) : Int) 3 (bytesA (Lib.cut said [58]).1) (Lib.cut said [58]).2.1 else none)
  else none
def saidT (line : Bs) : Bs := Lib.trimLeftB line 32
/-- what a line says; none: it is left out; none within: it is not as it must be -/
def tokR (line : Bs) : Option (Option It) :=
  match saidT line with
  | [] => none
  | c :: s => if c = 35 then none else some (itemI (c :: s) (line.length - (c :: s).length))
/-- the next line that is not left out: its number, what it says, the lines behind it -/
def nextT : Nat → List Bs → Bs → Nat × Option It × List Bs
  | n, [], r => (n + 1, if r = [] then some endI else none, [])
  | n, l :: ls, r => match tokR l with
    | none => nextT (n + 1) ls r
    | some x => (n + 1, x, ls)
/-- with one item more -/
def addI (n : Nd) (x : It) (y : Nd) : Nd := .mk n.kind n.word (if n.kind = 3 then n.names ++ [x.name] else n.names) (n.items ++ [y])
def fitsI (n : Nd) (x : It) : Bool := decide (x.kind = n.kind) && (decide (n.items.length < 64) && !memB x.name n.names)
abbrev RdRes := Nat ⊕ (Nd × It × Nat × List Bs)
def itemsR : Nat → Nd → Int → It → Nat → List Bs → Bs → RdRes
  | 0, _, _, _, cur, _, _ => .inl cur
  | f + 1, n, deep, x, cur, ls, r =>
    if x.deep = deep then
      if fitsI n x = true then
        match nextT cur ls r with
        | (m, none, _) => .inl m
        | (m, some b, l1) =>
          if x.node.kind = 0 then
            if b.deep = deep + 1 then
              match itemsR f (.mk b.kind ⟨#[]⟩ [] []) b.deep b m l1 r with
              | .inl k => .inl k
              | .inr (y, b2, m2, l2) => if b2.deep ≤ deep then itemsR f (addI n x y) deep b2 m2 l2 r else .inl m2
            else .inl m
          else if b.deep ≤ deep then itemsR f (addI n x x.node) deep b m l1 r else .inl m
      else .inl cur
    else .inr (n, x, cur, ls)
theorem nextT_len : ∀ (ls : List Bs) (n : Nat) (r : Bs) (m : Nat) (b : It) (l1 : List Bs), nextT n ls r = (m, some b, l1) → (l1.length < ls.length ∨ b = endI ∧ l1 = []) ∧ n < m
  | [], n, r, m, b, l1, h => by
    simp only [nextT, Prod.mk.injEq] at h
    obtain ⟨rfl, h2, rfl⟩ := h
    split at h2
    · cases h2; exact ⟨.inr ⟨rfl, rfl⟩, by omega⟩
    · cases h2
  | l :: ls, n, r, m, b, l1, h => by
    simp only [nextT] at h
    split at h
    · have ih := nextT_len ls (n + 1) r m b l1 h
      refine ⟨?_, by omega⟩
      rcases ih.1 with h1 | h1
      · exact .inl (by rw [List.length_cons]; omega)
      · exact .inr h1
    · simp only [Prod.mk.injEq] at h
      obtain ⟨rfl, rfl, rfl⟩ := h
      exact ⟨.inl (by simp), by omega⟩
theorem itemsR_len : ∀ (f : Nat) (n : Nd) (deep : Int) (x : It) (cur : Nat) (ls : List Bs) (r : Bs) (y : Nd) (b : It) (m : Nat) (l2 : List Bs), itemsR f n deep x cur ls r = .inr (y, b, m, l2) → l2.length ≤ ls.length
  | 0, _, _, _, _, _, _, _, _, _, _, h => by cases h
  | f + 1, n, deep, x, cur, ls, r, y, b, m, l2, h => by
    have ih := itemsR_len f
    rw [itemsR] at h
    split at h
    · split at h
      · split at h
        · cases h
        · rename_i m1 b1 l1 hn
          have h1 : l1.length ≤ ls.length := by
            rcases (nextT_len _ _ _ _ _ _ hn).1 with h2 | ⟨_, h2⟩
            · omega
            · rw [h2]; simp
          split at h
          · split at h
            · split at h
              · cases h
              · rename_i y1 b2 m2 l3 hi
                have h3 := ih _ _ _ _ _ _ _ _ _ _ hi
                split at h
                · have h4 := ih _ _ _ _ _ _ _ _ _ _ h
                  omega
                · cases h
            · cases h
          · split at h
            · have h4 := ih _ _ _ _ _ _ _ _ _ _ h
              omega
            · cases h
      · cases h
    · simp only [Sum.inr.injEq, Prod.mk.injEq] at h
      obtain ⟨_, _, _, rfl⟩ := h
      exact Nat.le_refl _
theorem nextT_line : ∀ (ls : List Bs) (n : Nat) (r : Bs) (m : Nat) (b : It) (l1 : List Bs), nextT n ls r = (m, some b, l1) → b = endI ∨ m + l1.length ≤ n + ls.length
  | [], n, r, m, b, l1, h => by
    simp only [nextT, Prod.mk.injEq] at h
    obtain ⟨_, h2, _⟩ := h
    split at h2
    · cases h2; exact .inl rfl
    · cases h2
  | l :: ls, n, r, m, b, l1, h => by
    simp only [nextT] at h
    rw [List.length_cons]
    split at h
    · rcases nextT_line ls (n + 1) r m b l1 h with h1 | h1
      · exact .inl h1
      · exact .inr (by omega)
    · simp only [Prod.mk.injEq] at h
      obtain ⟨rfl, _, rfl⟩ := h
      exact .inr (by omega)
theorem itemsR_line : ∀ (f : Nat) (n : Nd) (deep : Int) (x : It) (cur : Nat) (ls : List Bs) (r : Bs) (y : Nd) (b : It) (m : Nat) (l2 : List Bs), 0 ≤ deep → itemsR f n deep x cur ls r = .inr (y, b, m, l2) → b = endI ∨ m + l2.length ≤ cur + ls.length
  | 0, _, _, _, _, _, _, _, _, _, _, _, h => by cases h
  | f + 1, n, deep, x, cur, ls, r, y, b, m, l2, hd, h => by
    have ih := itemsR_line f
    rw [itemsR] at h
    split at h
    · split at h
      · split at h
        · cases h
        · rename_i m1 b1 l1 hn
          have h1 := nextT_line _ _ _ _ _ _ hn
          split at h
          · split at h
            · rename_i hb1
              have h1' : m1 + l1.length ≤ cur + ls.length := by
                rcases h1 with h1 | h1
                · rw [h1] at hb1
                  have : endI.deep = -1 := rfl
                  omega
                · exact h1
              split at h
              · cases h
              · rename_i y1 b2 m2 l3 hi
                have h3 := ih _ _ _ _ _ _ _ _ _ _ (by omega) hi
                split at h
                · have h4 := ih _ _ _ _ _ _ _ _ _ _ hd h
                  rcases h3 with h3 | h3
                  · subst h3
                    cases f with
                    | zero => cases h
                    | succ f =>
                      have he : (endI.deep = deep) = False := by
                        have : endI.deep = -1 := rfl
                        simp only [eq_iff_iff, iff_false]
                        omega
                      rw [itemsR, if_neg (by rw [he]; exact id)] at h
                      simp only [Sum.inr.injEq, Prod.mk.injEq] at h
                      exact .inl h.2.1.symm
                  · rcases h4 with h4 | h4
                    · exact .inl h4
                    · exact .inr (by omega)
                · cases h
            · cases h
          · split at h
            · have h4 := ih _ _ _ _ _ _ _ _ _ _ hd h
              rcases h1 with h1 | h1
              · subst h1
                cases f with
                | zero => cases h
                | succ f =>
                  have he : (endI.deep = deep) = False := by
                    have : endI.deep = -1 := rfl
                    simp only [eq_iff_iff, iff_false]
                    omega
                  rw [itemsR, if_neg (by rw [he]; exact id)] at h
                  simp only [Sum.inr.injEq, Prod.mk.injEq] at h
                  exact .inl h.2.1.symm
              · rcases h4 with h4 | h4
                · exact .inl h4
                · exact .inr (by omega)
            · cases h
      · cases h
    · simp only [Sum.inr.injEq, Prod.mk.injEq] at h
      obtain ⟨_, _, rfl, rfl⟩ := h
      exact .inr (Nat.le_refl _)
/-- more than enough is enough -/
theorem itemsR_fuel : ∀ (f : Nat) (n : Nd) (deep : Int) (x : It) (cur : Nat) (ls : List Bs) (r : Bs), 0 ≤ deep → (x.deep = deep → ls.length + 2 ≤ f) → 1 ≤ f → itemsR (f + 1) n deep x cur ls r = itemsR f n deep x cur ls r
  | 0, _, _, _, _, _, _, _, _, h => by omega
  | f + 1, n, deep, x, cur, ls, r, hd, hf, _ => by
    have ih := itemsR_fuel f
    rw [itemsR]
    conv => rhs; rw [itemsR]
    split
    · rename_i hx
      have hf := hf hx
      split
      · cases hn : nextT cur ls r with
        | mk m p =>
          obtain ⟨o, l1⟩ := p
          cases o with
          | none => rfl
          | some b =>
            have h1 := (nextT_len _ _ _ _ _ _ hn).1
            have hb : b.deep = deep ∨ b.deep = deep + 1 → l1.length + 2 ≤ f := fun e => by
              rcases h1 with h2 | ⟨h2, _⟩
              · omega
              · rw [h2] at e
                have : endI.deep = -1 := rfl
                omega
            simp only
            split
            · split
              · rename_i hb1
                rw [ih _ _ _ _ _ _ (by omega) (fun _ => hb (.inr hb1)) (by omega)]
                cases hi : itemsR f (.mk b.kind ⟨#[]⟩ [] []) b.deep b m l1 r with
                | inl k => rfl
                | inr t =>
                  obtain ⟨y1, b2, m2, l3⟩ := t
                  have h3 := itemsR_len _ _ _ _ _ _ _ _ _ _ _ hi
                  have h4 := hb (.inr hb1)
                  simp only
                  split
                  · exact ih _ _ _ _ _ _ hd (fun _ => by omega) (by omega)
                  · rfl
              · rfl
            · split
              · exact ih _ _ _ _ _ _ hd (fun e => hb (.inl e)) (by omega)
              · rfl
      · rfl
    · rfl
theorem itemsR_more {f g : Nat} {n : Nd} {deep : Int} {x : It} {cur : Nat} {ls : List Bs} {r : Bs} (hd : 0 ≤ deep) (hf : ls.length + 2 ≤ f) (hg : f ≤ g) : itemsR g n deep x cur ls r = itemsR f n deep x cur ls r := by
  obtain ⟨k, rfl⟩ := Nat.exists_eq_add_of_le hg
  clear hg
  induction k with
  | zero => rfl
  | succ k ih => rw [← Nat.add_assoc, itemsR_fuel (f + k) _ _ _ _ _ _ hd (fun _ => by omega) (by omega), ih]
/-- what is read from the first item on -/
def itemsC (n : Nd) (deep : Int) (x : It) (cur : Nat) (ls : List Bs) (r : Bs) : RdRes := itemsR (ls.length + 2) n deep x cur ls r
theorem itemsC_of {f : Nat} {n : Nd} {deep : Int} {x : It} {cur : Nat} {ls : List Bs} {r : Bs} (hd : 0 ≤ deep) (hf : ls.length + 2 ≤ f) : itemsR f n deep x cur ls r = itemsC n deep x cur ls r := itemsR_more hd (Nat.le_refl _) hf
theorem itemsC_end {n : Nd} {deep : Int} {x : It} {cur : Nat} {ls : List Bs} {r : Bs} (h : x.deep ≠ deep) : itemsC n deep x cur ls r = .inr (n, x, cur, ls) := by
  rw [itemsC, itemsR, if_neg h]
theorem itemsR_endI {f : Nat} (hf : 1 ≤ f) {n : Nd} {deep : Int} (_hd : 0 ≤ deep) {x : It} (hx : x.deep ≠ deep) {cur : Nat} {ls : List Bs} {r : Bs} : itemsR f n deep x cur ls r = itemsC n deep x cur ls r := by
  rw [itemsC_end hx]
  obtain ⟨g, rfl⟩ : ∃ g, f = g + 1 := ⟨f - 1, by omega⟩
  rw [itemsR, if_neg hx]
theorem itemsC_eq {n : Nd} {deep : Int} {x : It} {cur : Nat} {ls : List Bs} {r : Bs} (hd : 0 ≤ deep) (hx : x.deep = deep) : itemsC n deep x cur ls r =
    if fitsI n x = true then
      match nextT cur ls r with
      | (m, none, _) => .inl m
      | (m, some b, l1) =>
        if x.node.kind = 0 then
          if b.deep = deep + 1 then
            match itemsC (.mk b.kind ⟨#[]⟩ [] []) b.deep b m l1 r with
            | .inl k => .inl k
            | .inr (y, b2, m2, l2) => if b2.deep ≤ deep then itemsC (addI n x y) deep b2 m2 l2 r else .inl m2
          else .inl m
        else if b.deep ≤ deep then itemsC (addI n x x.node) deep b m l1 r else .inl m
    else .inl cur := by
  rw [itemsC, itemsR, if_pos hx]
  split
  · cases hn : nextT cur ls r with
    | mk m p =>
      obtain ⟨o, l1⟩ := p
      cases o with
      | none => rfl
      | some b =>
        have h1 := (nextT_len _ _ _ _ _ _ hn).1
        have hb : b.deep = deep ∨ b.deep = deep + 1 → l1.length + 2 ≤ ls.length + 1 := fun e => by
          rcases h1 with h2 | ⟨h2, _⟩
          · omega
          · rw [h2] at e
            have : endI.deep = -1 := rfl
            omega
        simp only
        split
        · split
          · rename_i hb1
            rw [itemsC_of (by omega) (hb (.inr hb1))]
            cases hi : itemsC (.mk b.kind ⟨#[]⟩ [] []) b.deep b m l1 r with
            | inl k => rfl
            | inr t =>
              obtain ⟨y1, b2, m2, l3⟩ := t
              have h3 := itemsR_len _ _ _ _ _ _ _ _ _ _ _ hi
              have h4 := hb (.inr hb1)
              simp only
              split
              · exact itemsC_of hd (by omega)
              · rfl
          · rfl
        · split
          · by_cases e : b.deep = deep
            · exact itemsC_of hd (hb (.inl e))
            · exact itemsR_endI (by omega) hd e
          · rfl
  · rfl
/-- what a text is read as: the node, the error, the line -/
def parseN (s : Bs) : Nd × Int × Int :=
  if s.length > 8192 then (noNd, 2, 0) else
  match nextT 0 (linesB s).1 (linesB s).2 with
  | (m, none, _) => (noNd, 250, m)
  | (m, some x, l1) => if x.deep = 0 then (match itemsC (.mk x.kind ⟨#[]⟩ [] []) 0 x m l1 (linesB s).2 with
    | .inl k => (noNd, 250, k)
    | .inr (n, _, _, _) => (n, 0, 0)) else (noNd, 250, m)
end Go.Proofs.YtolbhhokpelchaaDoor
