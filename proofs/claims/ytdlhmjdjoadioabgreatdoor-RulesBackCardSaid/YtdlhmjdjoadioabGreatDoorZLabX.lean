/- Sets laid over one another, and what is kept of names: mathematics alone. -/
import Derived.Test.YtdlhmjdjoadioabGreatDoorZLabV
namespace Go.Proofs.YtdlhmjdjoadioabGreatDoor

/-- no name is there twice -/
def Dis (ls : List Lab) : Prop := ls.Pairwise fun a b => a.1 ≠ b.1
theorem Asc.dis {ls : List Lab} (h : Asc ls) : Dis ls := h.imp fun h => ltL_ne h
theorem Dis.perm {ls ms : List Lab} (h : Dis ls) (hp : ls.Perm ms) : Dis ms := (hp.pairwise_iff (fun h => Ne.symm h)).1 h
theorem Dis.asc {ls : List Lab} (h : Dis ls) (hw : WS ls) : Asc ls := by
  refine List.Pairwise.imp₂ (fun a b (h1 : a.1 ≠ b.1) (h2 : ltL b a = false) => ?_) h hw
  cases e : ltL a b with
  | true => rfl
  | false => exact absurd (ltL_tri e h2) h1
theorem dis_right {ls : List Lab} (h : Dis ls) (hl : ∀ l ∈ ls, labC l = true) (h8 : ls.length ≤ 8) : rightC (sortL ls) = true := by
  refine (rightC_iff _).2 ⟨by rw [(sortL_perm ls).length_eq]; exact h8, fun l hm => hl l ((sortL_perm ls).subset hm), ?_⟩
  exact (h.perm (sortL_perm ls).symm).asc (sortL_ws ls)
theorem newP_dis {ls : List Lab} (h : Dis ls) (hl : ∀ l ∈ ls, labC l = true) : newP ls = if ls.length ≤ 8 then (sortL ls, 0) else ([], 2) := by
  by_cases h8 : ls.length ≤ 8
  · rw [newP, if_pos h8, if_pos (List.all_eq_true.2 hl), if_pos (dis_right h hl h8), if_pos h8]
  · rw [newP, if_neg h8, if_neg h8]
theorem newP_perm {ls ms : List Lab} (hp : ls.Perm ms) : newP ls = newP ms := by
  by_cases h8 : ls.length ≤ 8
  · have h8' : ms.length ≤ 8 := by rw [← hp.length_eq]; exact h8
    cases hall : ls.all labC with
    | false =>
      have hall' : ms.all labC = false := by
        rw [← Bool.not_eq_true, List.all_eq_true] at hall ⊢
        exact fun h => hall fun l hl => h l (hp.subset hl)
      rw [newP_bad h8 hall, newP_bad h8' hall']
    | true =>
      have hall' : ms.all labC = true := by
        rw [List.all_eq_true] at hall ⊢
        exact fun l hl => hall l (hp.symm.subset hl)
      have hpp := (sortL_perm ls).trans hp
      cases hr : rightC (sortL ls) with
      | true => rw [newP_ok h8 hall (sortL_perm ls) (sortL_ws ls) hr, newP_ok h8' hall' hpp (sortL_ws ls) hr]
      | false => rw [newP_twice h8 hall (sortL_perm ls) (sortL_ws ls) hr, newP_twice h8' hall' hpp (sortL_ws ls) hr]
  · have h8' : ¬ ms.length ≤ 8 := by rw [← hp.length_eq]; exact h8
    rw [newP, if_neg h8, newP, if_neg h8']
theorem newP_right {ls : List Lab} (h : rightC ls = true) : newP ls = (ls, 0) := by
  obtain ⟨h1, h2, h3⟩ := (rightC_iff ls).1 h
  exact newP_ok h1 (List.all_eq_true.2 h2) (List.Perm.refl _) (WS.of_asc h3) h
theorem newP_cases (ls : List Lab) : (∃ out, newP ls = (out, 0) ∧ out.Perm ls ∧ rightC out = true) ∨ ∃ n : Int, newP ls = ([], n) ∧ n ≠ 0 := by
  unfold newP
  split
  · split
    · split
      · exact .inl ⟨_, rfl, sortL_perm ls, by assumption⟩
      · exact .inr ⟨10, rfl, by decide⟩
    · exact .inr ⟨1, rfl, by decide⟩
  · exact .inr ⟨2, rfl, by decide⟩

theorem over_dis {ls ms : List Lab} (h : rightC ls = true) (h' : rightC ms = true) : Dis (restL ls ms ++ ms) ∧ ∀ l ∈ restL ls ms ++ ms, labC l = true := by
  obtain ⟨_, a2, a3⟩ := (rightC_iff ls).1 h
  obtain ⟨_, b2, b3⟩ := (rightC_iff ms).1 h'
  refine ⟨List.pairwise_append.2 ⟨(a3.dis).sublist List.filter_sublist, b3.dis, fun l hl m hm e => ?_⟩, fun l hl => ?_⟩
  · have := (List.mem_filter.1 hl).2
    rw [(hasN_iff ms l.1).2 ⟨m, hm, e.symm⟩] at this
    cases this
  · rcases List.mem_append.1 hl with hl | hl
    · exact a2 l (List.mem_filter.1 hl).1
    · exact b2 l hl
theorem withP_cases (ls ms : List Lab) : (∃ out, withP ls ms = (out, 0) ∧ rightC ls = true ∧ rightC ms = true ∧ out.Perm (restL ls ms ++ ms) ∧ rightC out = true) ∨ withP ls ms = ([], 1) ∨ withP ls ms = ([], 2) := by
  cases hr : rightC ls with
  | false => exact .inr (.inl (by rw [withP, if_neg (by rw [hr]; simp)]))
  | true =>
    cases hr' : rightC ms with
    | false => exact .inr (.inl (by rw [withP, if_pos hr, if_neg (by rw [hr']; simp)]))
    | true =>
      obtain ⟨hd, hl⟩ := over_dis hr hr'
      have e : withP ls ms = newP (restL ls ms ++ ms) := by rw [withP, if_pos hr, if_pos hr']
      rw [e, newP_dis hd hl]
      split
      · exact .inl ⟨_, rfl, rfl, rfl, sortL_perm _, dis_right hd hl (by assumption)⟩
      · exact .inr (.inr rfl)
theorem getL_mem {ls : List Lab} (h : Dis ls) {l : Lab} (hl : l ∈ ls) : getL ls l.1 = l.2 := by
  rcases get_cases ls l.1 with ⟨j, hj, h1, h2, h3⟩ | ⟨h1, _⟩
  · obtain ⟨i, hi, rfl⟩ := List.getElem_of_mem hl
    have hij : j = i := by
      rcases Nat.lt_trichotomy j i with h4 | h4 | h4
      · exact absurd h1 (List.pairwise_iff_getElem.1 h j i hj hi h4)
      · exact h4
      · exact absurd h1.symm (List.pairwise_iff_getElem.1 h i j hi hj h4)
    subst hij
    exact h3
  · obtain ⟨i, hi, rfl⟩ := List.getElem_of_mem hl
    exact absurd rfl (h1 i hi)
theorem getL_none {ls : List Lab} {s : ByteArray} (h : ∀ l ∈ ls, l.1 ≠ s) : getL ls s = ⟨#[]⟩ := by
  rcases get_cases ls s with ⟨j, hj, h1, _⟩ | ⟨_, h2⟩
  · exact absurd h1 (h _ (List.getElem_mem hj))
  · exact h2
theorem val_ne {l : Lab} (h : labC l = true) : l.2 ≠ ⟨#[]⟩ := by
  intro e
  unfold labC at h
  rw [e] at h
  simp [valC] at h
theorem getL_has {ls : List Lab} (hd : Dis ls) (hl : ∀ l ∈ ls, labC l = true) (s : ByteArray) : getL ls s = ⟨#[]⟩ ↔ hasN ls s = false := by
  constructor
  · intro h
    rw [← Bool.not_eq_true, hasN_iff]
    rintro ⟨m, hm, rfl⟩
    rw [getL_mem hd hm] at h
    exact val_ne (hl m hm) h
  · intro h
    refine getL_none fun l hm e => ?_
    rw [(hasN_iff ls s).2 ⟨l, hm, e⟩] at h
    cases h
theorem getL_perm {ls ms : List Lab} (hp : ls.Perm ms) (hd : Dis ls) (s : ByteArray) : getL ls s = getL ms s := by
  by_cases h : ∃ l ∈ ls, l.1 = s
  · obtain ⟨l, hl, rfl⟩ := h
    rw [getL_mem hd hl, getL_mem (hd.perm hp) (hp.subset hl)]
  · have h1 : ∀ l ∈ ls, l.1 ≠ s := fun l hl e => h ⟨l, hl, e⟩
    rw [getL_none h1, getL_none (fun l hl => h1 l (hp.symm.subset hl))]
theorem getL_over {ls ms out : List Lab} (h : rightC ls = true) (h' : rightC ms = true) (hp : out.Perm (restL ls ms ++ ms)) (s : ByteArray) :
    getL out s = if getL ms s = ⟨#[]⟩ then getL ls s else getL ms s := by
  obtain ⟨hd, hl⟩ := over_dis h h'
  obtain ⟨_, a2, a3⟩ := (rightC_iff ls).1 h
  obtain ⟨_, b2, b3⟩ := (rightC_iff ms).1 h'
  rw [getL_perm hp (hd.perm hp.symm)]
  cases hq : hasN ms s with
  | true =>
    obtain ⟨m, hm, rfl⟩ := (hasN_iff ms s).1 hq
    rw [getL_mem hd (List.mem_append_right _ hm), getL_mem b3.dis hm, if_neg (val_ne (b2 m hm))]
  | false =>
    rw [if_pos ((getL_has b3.dis b2 s).2 hq)]
    by_cases h1 : ∃ l ∈ ls, l.1 = s
    · obtain ⟨l, hl1, rfl⟩ := h1
      rw [getL_mem a3.dis hl1]
      exact getL_mem hd (List.mem_append_left _ (List.mem_filter.2 ⟨hl1, by rw [hq]; rfl⟩))
    · have h2 : ∀ l ∈ ls, l.1 ≠ s := fun l hl e => h1 ⟨l, hl, e⟩
      rw [getL_none h2]
      refine getL_none fun l hl e => ?_
      rcases List.mem_append.1 hl with hl | hl
      · exact h2 l (List.mem_filter.1 hl).1 e
      · rw [(hasN_iff ms s).2 ⟨l, hl, e⟩] at hq; cases hq

theorem keepL_all (ls : List Lab) (ns : List ByteArray) (h : ∀ l ∈ ls, l.1 ∈ ns) : keepL ls ns = ls := List.filter_eq_self.2 fun l hl => (inB_iff _ _).2 (h l hl)
theorem keepL_nil (ls : List Lab) : keepL ls [] = [] := by
  rw [keepL, List.filter_eq_nil_iff]
  intro l _
  simp [inB]
theorem keepL_right {ls : List Lab} (h : rightC ls = true) (ns : List ByteArray) : rightC (keepL ls ns) = true := by
  obtain ⟨h1, h2, h3⟩ := (rightC_iff ls).1 h
  exact (rightC_iff _).2 ⟨Nat.le_trans (keepL_len ls ns) h1, keepL_sub ls ns _ h2, h3.sublist List.filter_sublist⟩
theorem keepL_keepL (ls : List Lab) (ns : List ByteArray) : keepL (keepL ls ns) ns = keepL ls ns := by
  rw [keepL, List.filter_eq_self]
  intro l hl
  exact (List.mem_filter.1 hl).2
theorem keepP_right {ls : List Lab} (h : rightC ls = true) (ns : List ByteArray) : keepP ls ns = (keepL ls ns, 0) := by rw [keepP, if_pos h]
end Go.Proofs.YtdlhmjdjoadioabGreatDoor
