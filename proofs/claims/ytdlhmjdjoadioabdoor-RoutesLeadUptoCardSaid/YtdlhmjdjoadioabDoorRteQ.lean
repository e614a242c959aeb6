/- Paths, gone along: mathematics alone. -/
import Derived.Test.YtdlhmjdjoadioabDoorRteP
namespace Go.Proofs.YtdlhmjdjoadioabDoor

/-- a step that is told whole is taken -/
def closeS (a : Rt) (n : Nat) (op : Bool) : Option Rt := if op then a.kids[n]? else some a
/-- what comes of the rest of a path, from a route on, with a number begun -/
def finish : Rt → Nat → Bool → Bs → Option Rt
  | a, n, op, [] => closeS a n op
  | a, n, op, c :: r => if c.toNat = 46 then (match closeS a n op with | some b => finish b 0 false r | none => none) else if 48 ≤ c.toNat ∧ c.toNat ≤ 57 then finish a (10 * n + (c.toNat - 48)) true r else none
theorem dig_byte {k : Nat} (h : k < 10) : (UInt8.ofNat (48 + k)).toNat = 48 + k := by
  rw [UInt8.toNat_ofNat']; omega
theorem finish_dig (a : Rt) (n : Nat) (op : Bool) (k : Nat) (h : k < 10) (r : Bs) : finish a n op (UInt8.ofNat (48 + k) :: r) = finish a (10 * n + k) true r := by
  have e := dig_byte h
  simp only [finish]
  rw [if_neg (by omega), if_pos (by omega), e]
  congr 1
  omega
theorem finish_num (a : Rt) (i : Nat) (h : i < 100) (r : Bs) : finish a 0 false (Lib.decDigits i ++ r) = finish a i true r := by
  rw [Lib.decDigits]
  split
  · rename_i hi
    rw [List.singleton_append, finish_dig a 0 false i hi]
    congr 1
    omega
  · rename_i hi
    rw [Lib.decDigits, dif_pos (by omega), List.append_assoc, List.singleton_append, List.singleton_append, finish_dig a 0 false (i / 10) (by omega), finish_dig a _ true (i % 10) (by omega)]
    congr 1
    omega
mutual
theorem Rt.find_walk (L : List Lab) : ∀ (n : Rt) (d : Nat) (p : Bs), rightRt d n = true → ∀ t ∈ n.find L p, ∃ s, t.1 = p ++ s ∧ ∀ (a : Rt) (k : Nat) (op : Bool), closeS a k op = some n → ∃ m, finish a k op s = some m ∧ m.bare = t.2
  | .mk r m b a e pp u o xs, d, p, h, t, ht => by
    obtain ⟨h1, h2⟩ := rightRt_kid h
    have h16 := (alone_kids h1).1
    simp only [Rt.kids] at h2 h16
    have hx : ∀ x ∈ xs, rightRt (d - 1) x = true := fun x hx => by
      obtain ⟨k, hk, rfl⟩ := List.getElem_of_mem hx
      exact (h2 k hk).1
    have hr := findRs_walk L xs (d - 1) p 0 (.mk r m b a e pp u o xs) hx (by omega) (fun j hj => by rw [Nat.zero_add]; exact List.getElem?_eq_getElem hj)
    simp only [Rt.find] at ht
    cases hq : findRs L p 0 xs with
    | nil =>
      rw [hq] at ht
      simp only [List.mem_singleton] at ht
      subst ht
      exact ⟨[], by simp, fun a' k op hc => ⟨_, by simp only [finish]; exact hc, rfl⟩⟩
    | cons t0 ts =>
      rw [hq] at ht hr
      obtain ⟨s, e1, m', e2, e3⟩ := hr t ht
      refine ⟨46 :: s, e1, fun a' k op hc => ⟨m', ?_, e3⟩⟩
      simp only [finish]
      rw [if_pos (by decide), hc]
      exact e2
theorem findRs_walk (L : List Lab) : ∀ (xs : List Rt) (d : Nat) (p : Bs) (i : Nat) (N : Rt), (∀ x ∈ xs, rightRt d x = true) → i + xs.length ≤ 100 → (∀ j (h : j < xs.length), N.kids[i + j]? = some xs[j]) → ∀ t ∈ findRs L p i xs, ∃ s, t.1 = p ++ 46 :: s ∧ ∃ m, finish N 0 false s = some m ∧ m.bare = t.2
  | [], _, _, _, _, _, _, _, t, ht => by simp [findRs] at ht
  | x :: xs, d, p, i, N, hx, hi, hN, t, ht => by
    have h1 := Rt.find_walk L x d (p ++ 46 :: Lib.decDigits i) (hx x (by simp))
    have h2 := findRs_walk L xs d p (i + 1) N (fun y hy => hx y (by simp [hy])) (by simp only [List.length_cons] at hi; omega) (fun j hj => by
      have := hN (j + 1) (by simp only [List.length_cons]; omega)
      rw [show i + 1 + j = i + (j + 1) by omega, this]
      rfl)
    have hx0 := hN 0 (by simp)
    have hi100 : i < 100 := by simp only [List.length_cons] at hi; omega
    simp only [findRs] at ht
    split at ht
    · rcases List.mem_append.1 ht with h | h
      · obtain ⟨s, e1, e2⟩ := h1 t h
        obtain ⟨m, e3, e4⟩ := e2 N i true (by simp only [closeS, if_true]; simpa using hx0)
        exact ⟨Lib.decDigits i ++ s, by rw [e1]; simp, m, by rw [finish_num N i hi100]; exact e3, e4⟩
      · split at h
        · exact h2 t h
        · cases h
    · exact h2 t ht
end
theorem walk_root {L : List Lab} {n : Rt} {d : Nat} (h : rightRt d n = true) {t : Tgt} (ht : t ∈ n.find L []) : ∃ m, finish n 0 false t.1 = some m ∧ m.bare = t.2 := by
  obtain ⟨s, e1, e2⟩ := Rt.find_walk L n d [] h t ht
  rw [List.nil_append] at e1
  rw [e1]
  exact e2 n 0 false rfl
/-- one round of it -/
theorem finish_at (a : Rt) (n : Nat) (op : Bool) (s : Bs) (i : Nat) (h : i < s.length) {M : Rt} (hf : finish a n op (s.drop i) = some M) :
    (s[i].toNat = 46 ∧ ∃ b, closeS a n op = some b ∧ finish b 0 false (s.drop (i + 1)) = some M) ∨ (s[i].toNat ≠ 46 ∧ 48 ≤ s[i].toNat ∧ s[i].toNat ≤ 57 ∧ finish a (10 * n + (s[i].toNat - 48)) true (s.drop (i + 1)) = some M) := by
  rw [List.drop_eq_getElem_cons h] at hf
  simp only [finish] at hf
  split at hf
  · rename_i h46
    refine .inl ⟨h46, ?_⟩
    cases hc : closeS a n op with
    | none => rw [hc] at hf; cases hf
    | some b => rw [hc] at hf; exact ⟨b, rfl, hf⟩
  · rename_i h46
    split at hf
    · rename_i hd
      exact .inr ⟨h46, hd.1, hd.2, hf⟩
    · cases hf
/-- with other words and times -/
def Rt.chg : Rt → Rt | .mk r m _ _ _ p _ o k => .mk r m [] 0 1 p [] o k
theorem chg_is (n : Rt) : n.chg.recv = n.recv ∧ n.chg.ms = n.ms ∧ n.chg.bys = [] ∧ n.chg.wait = 0 ∧ n.chg.every = 1 ∧ n.chg.rep = n.rep ∧ n.chg.mute = [] ∧ n.chg.on = n.on ∧ n.chg.kids = n.kids := by cases n; exact ⟨rfl, rfl, rfl, rfl, rfl, rfl, rfl, rfl, rfl⟩
theorem chg_right {n : Rt} (h : rteC n = true) : rteC n.chg = true := by
  obtain ⟨e0, e1, e2, e3, e4, e5, e6, e7, e8⟩ := chg_is n
  unfold rteC at *
  simp only [rightRt, aloneC, timesC, Bool.and_eq_true] at h
  simp only [rightRt, aloneC, timesC, e0, e1, e2, e3, e4, e5, e6, e8, Bool.and_eq_true]
  exact ⟨⟨h.1.1, h.1.2.1, by decide, ⟨by decide, by decide, h.1.2.2.2.1.2.2⟩, by decide, h.1.2.2.2.2.2⟩, h.2⟩
theorem chg_count (n : Rt) : n.chg.count = n.count := by rw [Rt.count_eq, Rt.count_eq, (chg_is n).2.2.2.2.2.2.2.2]
theorem chg_find (L : List Lab) (n : Rt) : (n.chg.find L []).length = (n.find L []).length := by
  rw [Rt.find_eq, Rt.find_eq, (chg_is n).2.2.2.2.2.2.2.2]
  cases findRs L [] 0 n.kids <;> rfl
end Go.Proofs.YtdlhmjdjoadioabDoor
