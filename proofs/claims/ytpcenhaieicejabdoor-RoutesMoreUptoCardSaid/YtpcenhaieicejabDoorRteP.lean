/- Where labels lead, further along: paths, and routes within another one. -/
import Derived.Test.YtpcenhaieicejabDoorRteF
namespace Go.Proofs.YtpcenhaieicejabDoor

mutual
theorem Rt.find_shift (L : List Lab) (s : Bs) : ∀ (n : Rt) (p : Bs), n.find L (s ++ p) = (n.find L p).map fun t => (s ++ t.1, t.2)
  | .mk r m b a e pp u o xs, p => by
    have h := findRs_shift L s xs p 0
    simp only [Rt.find]
    rw [h]
    cases findRs L p 0 xs <;> simp
theorem findRs_shift (L : List Lab) (s : Bs) : ∀ (xs : List Rt) (p : Bs) (i : Nat), findRs L (s ++ p) i xs = (findRs L p i xs).map fun t => (s ++ t.1, t.2)
  | [], p, i => by simp [findRs]
  | x :: xs, p, i => by
    have h1 := Rt.find_shift L s x (p ++ 46 :: Lib.decDigits i)
    have h2 := findRs_shift L s xs p (i + 1)
    simp only [findRs, List.append_assoc] at *
    rw [h1, h2]
    split
    · split <;> simp
    · rfl
end
theorem Rt.find_some (L : List Lab) (p : Bs) (n : Rt) : n.find L p ≠ [] := by
  rw [Rt.find_eq]
  cases findRs L p 0 n.kids <;> simp
mutual
theorem Rt.find_path (L : List Lab) : ∀ (n : Rt) (d : Nat) (p : Bs), rightRt d n = true → ∀ t ∈ n.find L p, t.1.length ≤ p.length + 3 * d
  | .mk r m b a e pp u o xs, d, p, h, t, ht => by
    obtain ⟨h1, h2⟩ := rightRt_kid h
    have h16 := (alone_kids h1).1
    simp only [Rt.kids] at h2 h16
    have hx : ∀ x ∈ xs, rightRt (d - 1) x = true := fun x hx => by
      obtain ⟨k, hk, rfl⟩ := List.getElem_of_mem hx
      exact (h2 k hk).1
    have hr := findRs_path L xs (d - 1) p 0 hx (by omega)
    simp only [Rt.find] at ht
    cases hq : findRs L p 0 xs with
    | nil =>
      rw [hq] at ht
      simp only [List.mem_singleton] at ht
      subst ht
      show p.length ≤ _
      omega
    | cons t0 ts =>
      rw [hq] at ht hr
      have h3 := hr t ht
      have hd : 1 ≤ d := by
        cases d with
        | zero => cases h
        | succ d => omega
      omega
theorem findRs_path (L : List Lab) : ∀ (xs : List Rt) (d : Nat) (p : Bs) (i : Nat), (∀ x ∈ xs, rightRt d x = true) → i + xs.length ≤ 100 → ∀ t ∈ findRs L p i xs, t.1.length ≤ p.length + 3 + 3 * d
  | [], _, _, _, _, _, t, ht => by simp [findRs] at ht
  | x :: xs, d, p, i, hx, hi, t, ht => by
    have h1 := Rt.find_path L x d (p ++ 46 :: Lib.decDigits i) (hx x (by simp))
    have h2 := findRs_path L xs d p (i + 1) (fun y hy => hx y (by simp [hy])) (by simp only [List.length_cons] at hi; omega)
    have hl := decDigits_len i (by simp only [List.length_cons] at hi; omega)
    simp only [findRs] at ht
    split at ht
    · rcases List.mem_append.1 ht with h | h
      · have := h1 t h
        simp only [List.length_append, List.length_cons] at this
        omega
      · split at h
        · exact h2 t h
        · cases h
    · exact h2 t ht
end
mutual
theorem Rt.find_bare (L : List Lab) : ∀ (n : Rt) (p : Bs), ∀ t ∈ n.find L p, t.2.kids = []
  | .mk r m b a e pp u o xs, p, t, ht => by
    have hr := findRs_bare L xs p 0
    simp only [Rt.find] at ht
    cases hq : findRs L p 0 xs with
    | nil =>
      rw [hq] at ht
      simp only [List.mem_singleton] at ht
      subst ht
      rfl
    | cons t0 ts =>
      rw [hq] at ht hr
      exact hr t ht
theorem findRs_bare (L : List Lab) : ∀ (xs : List Rt) (p : Bs) (i : Nat), ∀ t ∈ findRs L p i xs, t.2.kids = []
  | [], _, _, t, ht => by simp [findRs] at ht
  | x :: xs, p, i, t, ht => by
    have h1 := Rt.find_bare L x (p ++ 46 :: Lib.decDigits i)
    have h2 := findRs_bare L xs p (i + 1)
    simp only [findRs] at ht
    split at ht
    · rcases List.mem_append.1 ht with h | h
      · exact h1 t h
      · split at h
        · exact h2 t h
        · cases h
    · exact h2 t ht
end
/-- without matchers -/
def Rt.noMs : Rt → Rt | .mk r _ b a e p u o k => .mk r [] b a e p u o k
theorem noMs_is (n : Rt) : n.noMs.recv = n.recv ∧ n.noMs.ms = [] ∧ n.noMs.bys = n.bys ∧ n.noMs.wait = n.wait ∧ n.noMs.every = n.every ∧ n.noMs.rep = n.rep ∧ n.noMs.mute = n.mute ∧ n.noMs.on = n.on ∧ n.noMs.kids = n.kids := by cases n; exact ⟨rfl, rfl, rfl, rfl, rfl, rfl, rfl, rfl, rfl⟩
theorem noMs_count (n : Rt) : n.noMs.count = n.count := by rw [Rt.count_eq, Rt.count_eq, (noMs_is n).2.2.2.2.2.2.2.2]
theorem leads_none {L : List Lab} (h : rightC L = true) {n : Rt} (hm : n.ms = []) : leadsTo L n = true := by
  unfold leadsTo holdsL
  rw [hm, if_pos h]
  simp
/-- one that holds of all, alone within another one -/
theorem find_within {L : List Lab} (h : rightC L = true) {n o : Rt} (hm : n.ms = []) (hk : o.kids = [n]) : o.find L [] = (n.find L []).map fun t => ([46, 48] ++ t.1, t.2) := by
  have h0 : Lib.decDigits 0 = [48] := by rw [Lib.decDigits, dif_pos (by omega)]; rfl
  have hs := Rt.find_shift L [46, 48] n []
  rw [List.append_nil] at hs
  rw [Rt.find_eq, hk]
  have e : findRs L [] 0 [n] = n.find L [46, 48] := by
    simp only [findRs, leads_none h hm, if_true, List.nil_append, h0]
    split <;> simp
  rw [e, ← hs]
  have hne := Rt.find_some L [46, 48] n
  cases hq : n.find L [46, 48] with
  | nil => exact absurd hq hne
  | cons t ts => rfl
end Go.Proofs.YtpcenhaieicejabDoor
