/- Where labels lead: how often, to which paths, and to what. Mathematics alone. -/
import Derived.Test.YtdlhmjdjoadioabDoorRteQ
import Derived.Test.YtdlhmjdjoadioabDoorRteR
namespace Go.Proofs.YtdlhmjdjoadioabDoor

/-- is any route within it On? -/
def onAny (xs : List Rt) : Bool := (allRs xs).any Rt.on
theorem onAny_cons (x : Rt) (xs : List Rt) : onAny (x :: xs) = (x.on || onAny x.kids || onAny xs) := by
  unfold onAny
  simp only [allRs, List.any_append, Rt.all_eq, List.any_cons]
mutual
theorem Rt.find_one (L : List Lab) (p : Bs) : ∀ (n : Rt), onAny n.kids = false → (n.find L p).length = 1
  | .mk r m b a e pp u o xs, h => by
    have h1 := findRs_one L p 0 xs h
    simp only [Rt.find]
    cases hq : findRs L p 0 xs with
    | nil => rfl
    | cons t ts =>
      rw [hq] at h1
      simp only [List.length_cons] at *
      omega
theorem findRs_one (L : List Lab) (p : Bs) (i : Nat) : ∀ (xs : List Rt), onAny xs = false → (findRs L p i xs).length ≤ 1
  | [], _ => by simp [findRs]
  | x :: xs, h => by
    rw [onAny_cons, Bool.or_eq_false_iff, Bool.or_eq_false_iff] at h
    have h1 := Rt.find_one L (p ++ 46 :: Lib.decDigits i) x h.1.2
    have h2 := findRs_one L p (i + 1) xs h.2
    simp only [findRs, h.1.1]
    split
    · simp [h1]
    · exact h2
end
mutual
theorem Rt.find_leads (L : List Lab) : ∀ (n : Rt) (p : Bs), ∀ t ∈ n.find L p, (leadsTo L n = true → leadsTo L t.2 = true) ∧ p.length ≤ t.1.length
  | .mk r m b a e pp u o xs, p, t, ht => by
    have hr := findRs_leads L xs p 0
    simp only [Rt.find] at ht
    cases hq : findRs L p 0 xs with
    | nil =>
      rw [hq] at ht
      simp only [List.mem_singleton] at ht
      subst ht
      exact ⟨id, Nat.le_refl _⟩
    | cons t0 ts =>
      rw [hq] at ht hr
      have := hr t ht
      exact ⟨fun _ => this.1, Nat.le_of_lt this.2⟩
theorem findRs_leads (L : List Lab) : ∀ (xs : List Rt) (p : Bs) (i : Nat), ∀ t ∈ findRs L p i xs, leadsTo L t.2 = true ∧ p.length < t.1.length
  | [], _, _, t, ht => by simp [findRs] at ht
  | x :: xs, p, i, t, ht => by
    have h1 := Rt.find_leads L x (p ++ 46 :: Lib.decDigits i)
    have h2 := findRs_leads L xs p (i + 1)
    simp only [findRs] at ht
    split at ht
    · rename_i hx
      rcases List.mem_append.1 ht with h | h
      · have := h1 t h
        simp only [List.length_append, List.length_cons] at this
        exact ⟨this.1 hx, by omega⟩
      · split at h
        · exact h2 t h
        · cases h
    · exact h2 t ht
end
/-- the empty path is the only one, if it is one -/
theorem root_path {L : List Lab} {n : Rt} {t : Tgt} (ht : t ∈ n.find L []) : (t.1 = [] → (n.find L []).length = 1) ∧ (t.1 ≠ [] → leadsTo L t.2 = true) := by
  rw [Rt.find_eq] at *
  have hr := findRs_leads L n.kids [] 0
  cases hq : findRs L [] 0 n.kids with
  | nil =>
    rw [hq] at ht
    simp only [List.mem_singleton] at ht
    subst ht
    exact ⟨fun _ => rfl, fun h => absurd rfl h⟩
  | cons t0 ts =>
    rw [hq] at ht hr
    have := hr t ht
    refine ⟨fun e => ?_, fun _ => this.1⟩
    rw [e] at this
    exact absurd this.2 (by simp)
theorem bareIs (n : Rt) : n.bare.recv = n.recv ∧ n.bare.ms = n.ms ∧ n.bare.bys = n.bys ∧ n.bare.wait = n.wait ∧ n.bare.every = n.every ∧ n.bare.rep = n.rep ∧ n.bare.mute = n.mute ∧ n.bare.on = n.on ∧ n.bare.kids = [] := by cases n; exact ⟨rfl, rfl, rfl, rfl, rfl, rfl, rfl, rfl, rfl⟩
theorem bare_right {n : Rt} (h : aloneC n = true) : rteC n.bare = true := by
  obtain ⟨e0, e1, e2, e3, e4, e5, e6, e7, e8⟩ := bareIs n
  unfold rteC
  simp only [aloneC, timesC, Bool.and_eq_true] at h
  simp only [rightRt, aloneC, timesC, e0, e1, e2, e3, e4, e5, e6, e8, Bool.and_eq_true]
  exact ⟨⟨h.1, h.2.1, h.2.2.1, h.2.2.2.1, h.2.2.2.2.1, by decide⟩, by simp⟩
mutual
theorem Rt.find_right (L : List Lab) : ∀ (n : Rt) (d : Nat) (p : Bs), rightRt d n = true → ∀ t ∈ n.find L p, rteC t.2 = true
  | .mk r m b a e pp u o xs, d, p, h, t, ht => by
    obtain ⟨h1, h2⟩ := rightRt_kid h
    simp only [Rt.kids] at h2
    have hx : ∀ x ∈ xs, rightRt (d - 1) x = true := fun x hx => by
      obtain ⟨k, hk, rfl⟩ := List.getElem_of_mem hx
      exact (h2 k hk).1
    have hr := findRs_right L xs (d - 1) p 0 hx
    simp only [Rt.find] at ht
    cases hq : findRs L p 0 xs with
    | nil =>
      rw [hq] at ht
      simp only [List.mem_singleton] at ht
      subst ht
      exact bare_right h1
    | cons t0 ts =>
      rw [hq] at ht hr
      exact hr t ht
theorem findRs_right (L : List Lab) : ∀ (xs : List Rt) (d : Nat) (p : Bs) (i : Nat), (∀ x ∈ xs, rightRt d x = true) → ∀ t ∈ findRs L p i xs, rteC t.2 = true
  | [], _, _, _, _, t, ht => by simp [findRs] at ht
  | x :: xs, d, p, i, hx, t, ht => by
    have h1 := Rt.find_right L x d (p ++ 46 :: Lib.decDigits i) (hx x (by simp))
    have h2 := findRs_right L xs d p (i + 1) (fun y hy => hx y (by simp [hy]))
    simp only [findRs] at ht
    split at ht
    · rcases List.mem_append.1 ht with h | h
      · exact h1 t h
      · split at h
        · exact h2 t h
        · cases h
    · exact h2 t ht
end

/-! ### No path twice -/
def pathT : List Nat → Bs
  | [] => []
  | i :: s => 46 :: (Lib.decDigits i ++ pathT s)
/-- the numbers of a path -/
def rdP : Bs → Nat → List Nat
  | [], n => [n]
  | c :: r, n => if c.toNat = 46 then n :: rdP r 0 else rdP r (10 * n + (c.toNat - 48))
theorem rdP_dig (n k : Nat) (h : k < 10) (r : Bs) : rdP (UInt8.ofNat (48 + k) :: r) n = rdP r (10 * n + k) := by
  have e := dig_byte h
  simp only [rdP]
  rw [if_neg (by omega), e]
  congr 1
  omega
theorem rdP_num (i : Nat) (h : i < 100) (r : Bs) : rdP (Lib.decDigits i ++ r) 0 = rdP r i := by
  rw [Lib.decDigits]
  split
  · rename_i hi
    rw [List.singleton_append, rdP_dig 0 i hi]
    congr 1
    omega
  · rename_i hi
    rw [Lib.decDigits, dif_pos (by omega), List.append_assoc, List.singleton_append, List.singleton_append, rdP_dig 0 (i / 10) (by omega), rdP_dig _ (i % 10) (by omega)]
    congr 1
    omega
theorem rdP_path : ∀ (s : List Nat) (n : Nat), (∀ i ∈ s, i < 100) → rdP (pathT s) n = n :: s
  | [], n, _ => rfl
  | i :: s, n, h => by
    simp only [pathT, rdP]
    rw [if_pos (by decide), rdP_num i (h i (by simp)), rdP_path s i (fun j hj => h j (by simp [hj]))]
mutual
theorem Rt.find_seq (L : List Lab) : ∀ (n : Rt) (d : Nat) (p : Bs), rightRt d n = true → ∃ ks : List (List Nat), (n.find L p).map (·.1) = ks.map (fun k => p ++ pathT k) ∧ ks.Nodup ∧ ∀ k ∈ ks, ∀ i ∈ k, i < 100
  | .mk r m b a e pp u o xs, d, p, h => by
    obtain ⟨h1, h2⟩ := rightRt_kid h
    have h16 := (alone_kids h1).1
    simp only [Rt.kids] at h2 h16
    have hx : ∀ x ∈ xs, rightRt (d - 1) x = true := fun x hx => by
      obtain ⟨k, hk, rfl⟩ := List.getElem_of_mem hx
      exact (h2 k hk).1
    obtain ⟨ks, e1, e2, e3, _⟩ := findRs_seq L xs (d - 1) p 0 hx (by omega)
    simp only [Rt.find]
    cases hq : findRs L p 0 xs with
    | nil => exact ⟨[[]], by simp [pathT], by simp, fun k hk i hi => by rw [List.mem_singleton] at hk; rw [hk] at hi; cases hi⟩
    | cons t0 ts =>
      rw [hq] at e1
      exact ⟨ks, e1, e2, e3⟩
theorem findRs_seq (L : List Lab) : ∀ (xs : List Rt) (d : Nat) (p : Bs) (i : Nat), (∀ x ∈ xs, rightRt d x = true) → i + xs.length ≤ 100 →
    ∃ ks : List (List Nat), (findRs L p i xs).map (·.1) = ks.map (fun k => p ++ pathT k) ∧ ks.Nodup ∧ (∀ k ∈ ks, ∀ j ∈ k, j < 100) ∧ ∀ k ∈ ks, ∃ j s, k = j :: s ∧ i ≤ j
  | [], _, _, _, _, _ => ⟨[], by simp [findRs], List.nodup_nil, fun k hk => (by cases hk), fun k hk => (by cases hk)⟩
  | x :: xs, d, p, i, hx, hi => by
    simp only [List.length_cons] at hi
    obtain ⟨k1, a1, a2, a3⟩ := Rt.find_seq L x d (p ++ 46 :: Lib.decDigits i) (hx x (by simp))
    obtain ⟨k2, b1, b2, b3, b4⟩ := findRs_seq L xs d p (i + 1) (fun y hy => hx y (by simp [hy])) (by omega)
    have hm : k1.map (fun k => (p ++ 46 :: Lib.decDigits i) ++ pathT k) = (k1.map (fun k => i :: k)).map (fun k => p ++ pathT k) := by
      rw [List.map_map]
      refine List.map_congr_left fun k _ => ?_
      simp [pathT]
    have hn : (k1.map (fun k => i :: k)).Nodup := by
      rw [List.Nodup, List.pairwise_map]
      exact a2.imp (fun h e => h (by simpa using e))
    have hb : ∀ k ∈ k1.map (fun k => i :: k), ∀ j ∈ k, j < 100 := fun k hk j hj => by
      obtain ⟨k', hk', rfl⟩ := List.mem_map.1 hk
      rcases List.mem_cons.1 hj with rfl | hj
      · omega
      · exact a3 k' hk' j hj
    have hh : ∀ k ∈ k1.map (fun k => i :: k), ∃ j s, k = j :: s ∧ i ≤ j := fun k hk => by
      obtain ⟨k', _, rfl⟩ := List.mem_map.1 hk
      exact ⟨i, k', rfl, Nat.le_refl _⟩
    have b5 : ∀ k ∈ k2, ∃ j s, k = j :: s ∧ i ≤ j := fun k hk => by
      obtain ⟨j, s, e, h⟩ := b4 k hk
      exact ⟨j, s, e, by omega⟩
    simp only [findRs]
    split
    · split
      · refine ⟨k1.map (fun k => i :: k) ++ k2, by rw [List.map_append, List.map_append, a1, hm, b1], ?_, ?_, ?_⟩
        · rw [List.nodup_append]
          refine ⟨hn, b2, fun x hx y hy e => ?_⟩
          obtain ⟨k', _, rfl⟩ := List.mem_map.1 hx
          obtain ⟨j, s, e2, hj⟩ := b4 y hy
          rw [e2] at e
          simp only [List.cons.injEq] at e
          omega
        · intro k hk
          rcases List.mem_append.1 hk with h | h
          · exact hb k h
          · exact b3 k h
        · intro k hk
          rcases List.mem_append.1 hk with h | h
          · exact hh k h
          · exact b5 k h
      · exact ⟨k1.map (fun k => i :: k), by rw [List.append_nil, a1, hm], hn, hb, hh⟩
    · exact ⟨k2, b1, b2, b3, b5⟩
end
theorem find_nodup {L : List Lab} {n : Rt} {d : Nat} (h : rightRt d n = true) : ((n.find L []).map (·.1)).Nodup := by
  obtain ⟨ks, e1, e2, e3⟩ := Rt.find_seq L n d [] h
  rw [e1, List.Nodup, List.pairwise_map]
  refine (List.Pairwise.and_mem.1 e2).imp fun {a b} hab e => hab.2.2 ?_
  simp only [List.nil_append] at e
  have h1 := rdP_path a 0 (e3 a hab.1)
  have h2 := rdP_path b 0 (e3 b hab.2.1)
  rw [e, h2] at h1
  simpa using h1.symm
end Go.Proofs.YtdlhmjdjoadioabDoor
