/- The labels of an alert, against what the document lays over one another: mathematics alone. -/
import Derived.Test.YtjigdmmlgddgpabRulM
import Derived.Test.YtjigdmmlgddgpabLabX
namespace Go.Proofs.Ytjigdmmlgddgpab

theorem lays_over {ls ms out : List Lab} (h : rightC ls = true) (h' : rightC ms = true) (hp : out.Perm (ms ++ restL ls ms)) (hs : WS out) :
    (withP ls ms = if out.length ≤ 8 then (out, 0) else ([], 2)) ∧ (out.length ≤ 8 → rightC out = true) := by
  obtain ⟨hd, hl⟩ := over_dis h h'
  have hpp : out.Perm (restL ls ms ++ ms) := hp.trans List.perm_append_comm
  refine ⟨?_, fun h8 => ?_⟩
  · rw [withP, if_pos h, if_pos h', newP_dis hd hl, hpp.length_eq]
    split
    · rename_i h8
      obtain ⟨h1, h2⟩ := sort_right hpp hs hl h8
      rw [h2 (by rw [h1]; exact dis_right hd hl h8)]
    · rfl
  · rw [hpp.length_eq] at h8
    obtain ⟨h1, h2⟩ := sort_right hpp hs hl h8
    rw [h1]; exact dis_right hd hl h8
theorem bw_val {s : Bs} (h : bwC s = true) : valC s = true := by
  simp only [bwC, valC, Bool.and_eq_true, decide_eq_true_eq, List.all_eq_true] at h ⊢
  refine ⟨h.1, fun c hc => ?_⟩
  have := h.2 c hc
  simp only [bwB, visC, decide_eq_true_eq] at this ⊢
  omega
theorem name_right {n : ByteArray} (h : bwC n.data.toList = true) : rightC [(aName, n)] = true := by
  refine (rightC_iff _).2 ⟨by simp, fun l hl => ?_, List.pairwise_singleton _ _⟩
  obtain rfl := List.mem_singleton.1 hl
  simp only [labC, Bool.and_eq_true]
  exact ⟨by decide, bw_val h⟩
theorem rul_labs {r : Rul} (h : rulC r = true) : rightC r.labels = true ∧ hasN r.labels aName = false ∧ r.labels.length ≤ 4 ∧ bwC r.name.data.toList = true := by
  obtain ⟨h1, _, _, _, _, _, _, h8⟩ := (rulC_iff r).1 h
  obtain ⟨g1, g2, g3⟩ := (rlabsC_iff _).1 h8
  exact ⟨g2, g3, g1, h1⟩
theorem alabs_want {r : Rul} {ls first want : List Lab} (hr : rulC r = true) (hl : rightC ls = true) (hp : first.Perm (r.labels ++ restL ls r.labels)) (hs : WS first)
    (hp2 : want.Perm ([(aName, r.name)] ++ restL first [(aName, r.name)])) (hs2 : WS want) :
    alabsP r ls = if first.length ≤ 8 then if want.length ≤ 8 then (want, 0) else ([], 2) else ([], 2) := by
  obtain ⟨g1, g2, g3, g4⟩ := rul_labs hr
  obtain ⟨h1, h2⟩ := lays_over hl g1 hp hs
  unfold alabsP
  rw [if_pos hr, h1]
  by_cases h8 : first.length ≤ 8
  · rw [if_pos h8, if_pos h8]
    simp only
    rw [if_pos trivial]
    exact (lays_over (h2 h8) (name_right g4) hp2 hs2).1
  · rw [if_neg h8, if_neg h8]
    simp
theorem alabs_bad {r : Rul} {ls : List Lab} (h : rulC r = false ∨ rightC ls = false) : alabsP r ls = ([], 1) := by
  unfold alabsP
  cases hr : rulC r with
  | false => rfl
  | true =>
    rw [hr] at h
    have hl := h.resolve_left (by simp)
    have : withP ls r.labels = ([], 1) := by rw [withP, if_neg (by rw [hl]; simp)]
    rw [if_pos rfl, this]; rfl
end Go.Proofs.Ytjigdmmlgddgpab
