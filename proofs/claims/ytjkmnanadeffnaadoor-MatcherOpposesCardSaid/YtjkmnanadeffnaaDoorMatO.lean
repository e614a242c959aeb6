/- A matcher and its opposite; some that may be, picked one after another. Mathematics alone. -/
import Derived.Test.YtjkmnanadeffnaaDoorMatI
import Derived.Test.YtjkmnanadeffnaaDoorMatD
namespace Go.Proofs.YtjkmnanadeffnaaDoor

def oppH (how : Int) : Int := if how % 2 = 1 then how + 1 else how - 1
def oppM (m : Mat) : Mat := { m with how := oppH m.how }
theorem oppM_right {m : Mat} (h : rightM m = true) : rightM (oppM m) = true := by
  obtain ⟨h1, h2, h3, h4, h5, h6, h7⟩ := (rightM_iff m).1 h
  refine (rightM_iff (oppM m)).2 ?_
  have e : (oppM m).how = oppH m.how := rfl
  have en : (oppM m).name = m.name := rfl
  have ew : (oppM m).words = m.words := rfl
  rw [e, en, ew]
  unfold oppH
  refine ⟨h1, ?_, ?_, h4, h5, h6, ?_⟩
  · split <;> omega
  · split <;> omega
  · rcases h7 with h7 | h7
    · left; split <;> omega
    · exact .inr h7
theorem oppM_holds {m : Mat} (h : rightM m = true) (v : ByteArray) : holdsM v (oppM m) = !holdsM v m := by
  obtain ⟨_, h2, h3, _⟩ := (rightM_iff m).1 h
  unfold holdsM
  have e : (oppM m).how = oppH m.how := rfl
  have ew : (oppM m).words = m.words := rfl
  rw [e, ew]
  have eo : onesC (oppH m.how) = !onesC m.how := by
    rcases (by omega : m.how = 1 ∨ m.how = 2 ∨ m.how = 3 ∨ m.how = 4) with q | q | q | q <;> rw [q] <;> decide
  rw [eo]
  generalize getW m.words v = a
  generalize onesC m.how = b
  cases a <;> cases b <;> rfl
theorem holds1_is (ls : List Lab) (A : Mat) : holdsL ls [A] = if rightC ls = true then (if rightM A = true then (holdsM (getL ls A.name) A, 0) else (false, 1)) else (false, 1) := by
  unfold holdsL
  split
  · by_cases h : rightM A = true
    · rw [if_pos (by simp [h]), if_pos h]; simp
    · rw [if_neg (by simpa using h), if_neg h]
  · rfl
/-- those that may be, cut -/
def pickM (ms : List Mat) : List Mat := (ms.map cutM).filter rightM
theorem pickM_snoc (ms : List Mat) (m : Mat) : pickM (ms ++ [m]) = if rightM (cutM m) = true then pickM ms ++ [cutM m] else pickM ms := by
  unfold pickM
  rw [List.map_append, List.filter_append]
  by_cases h : rightM (cutM m) = true
  · rw [if_pos h]; simp [h]
  · rw [if_neg h]; simp [h]
theorem pickM_len (ms : List Mat) : (pickM ms).length ≤ ms.length := by
  have := List.length_filter_le rightM (ms.map cutM)
  rw [List.length_map] at this
  exact this
theorem pickM_right (ms : List Mat) : (pickM ms).all rightM = true := by
  unfold pickM
  simp
/-- all of some hold just if each does -/
theorem holdsL_all {ls : List Lab} (hl : rightC ls = true) {ms : List Mat} (hm : ms.all rightM = true) : holdsL ls ms = (ms.all (fun m => holdsM (getL ls m.name) m), 0) := by
  unfold holdsL
  rw [if_pos hl, if_pos hm]
end Go.Proofs.YtjkmnanadeffnaaDoor
