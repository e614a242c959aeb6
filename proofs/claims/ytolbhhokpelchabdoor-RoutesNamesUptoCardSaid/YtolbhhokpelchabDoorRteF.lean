/- Where labels lead: lemmas of the mathematics. -/
import Derived.Test.YtolbhhokpelchabDoorRteM
namespace Go.Proofs.YtolbhhokpelchabDoor

theorem Rt.find_eq (L : List Lab) (p : Bs) (n : Rt) : n.find L p = match findRs L p 0 n.kids with | [] => [(p, n.bare)] | t :: ts => t :: ts := by
  cases n; simp only [Rt.find, Rt.kids, Rt.bare]; rfl
mutual
theorem Rt.find_len (L : List Lab) (p : Bs) : ∀ (n : Rt), (n.find L p).length ≤ n.count
  | .mk r m b a e pp u o xs => by
    have h := findRs_len L p 0 xs
    simp only [Rt.find, Rt.count]
    split
    · simp
    · rename_i t ts e; rw [e] at h; omega
theorem findRs_len (L : List Lab) (p : Bs) (i : Nat) : ∀ (xs : List Rt), (findRs L p i xs).length ≤ countRs xs
  | [] => by simp [findRs, countRs]
  | x :: xs => by
    have h1 := Rt.find_len L (p ++ 46 :: Lib.decDigits i) x
    have h2 := findRs_len L p (i + 1) xs
    simp only [findRs, countRs]
    split
    · rw [List.length_append]
      split <;> simp <;> omega
    · omega
end
theorem findRs_drop (L : List Lab) (p : Bs) (xs : List Rt) (k : Nat) (h : k < xs.length) : findRs L p k (xs.drop k) =
    if leadsTo L xs[k] then xs[k].find L (p ++ 46 :: Lib.decDigits k) ++ (if xs[k].on then findRs L p (k + 1) (xs.drop (k + 1)) else []) else findRs L p (k + 1) (xs.drop (k + 1)) := by
  rw [List.drop_eq_getElem_cons h]; simp only [findRs]
theorem countRs_drop (xs : List Rt) (k : Nat) (h : k < xs.length) : countRs (xs.drop k) = xs[k].count + countRs (xs.drop (k + 1)) := by
  rw [List.drop_eq_getElem_cons h]; simp only [countRs]
theorem rightRt_kid {d : Nat} {n : Rt} (h : rightRt d n = true) : aloneC n = true ∧ ∀ k (hk : k < n.kids.length), rightRt (d - 1) n.kids[k] = true ∧ 1 ≤ d - 1 := by
  cases d with
  | zero => cases h
  | succ d =>
    simp only [rightRt, Bool.and_eq_true, List.all_eq_true] at h
    refine ⟨h.1, fun k hk => ?_⟩
    have h1 := h.2 _ (List.getElem_mem hk)
    refine ⟨h1, ?_⟩
    cases d with
    | zero => cases h1
    | succ d => show 1 ≤ d + 1; omega
theorem alone_ms {n : Rt} (h : aloneC n = true) : n.ms.all rightM = true := by
  simp only [aloneC, matchC, Bool.and_eq_true] at h
  exact h.2.1.2
theorem holdsL_right {L : List Lab} {ms : List Mat} (h1 : rightC L = true) (h2 : ms.all rightM = true) : (holdsL L ms).2 = 0 := by
  unfold holdsL
  rw [if_pos h1, if_pos h2]
theorem decDigits_len (i : Nat) (h : i < 100) : (Lib.decDigits i).length ≤ 2 := by
  rw [Lib.decDigits]
  split
  · simp
  · rw [List.length_append, Lib.decDigits, dif_pos (by omega)]
    simp
end Go.Proofs.YtolbhhokpelchabDoor
