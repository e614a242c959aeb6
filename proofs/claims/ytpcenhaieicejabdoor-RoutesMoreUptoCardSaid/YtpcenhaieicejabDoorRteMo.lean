/- Where labels lead, with one more route: one that holds of nothing, put last; one that holds of all, put first. Mathematics alone. -/
import Derived.Test.YtpcenhaieicejabDoorRteP
namespace Go.Proofs.YtpcenhaieicejabDoor

def Rt.with : Rt → List Rt → Rt | .mk r m b a e p u o _, xs => .mk r m b a e p u o xs
theorem with_is (n : Rt) (xs : List Rt) : (n.with xs).recv = n.recv ∧ (n.with xs).ms = n.ms ∧ (n.with xs).bys = n.bys ∧ (n.with xs).wait = n.wait ∧ (n.with xs).every = n.every ∧ (n.with xs).rep = n.rep ∧ (n.with xs).mute = n.mute ∧ (n.with xs).on = n.on ∧ (n.with xs).kids = xs := by cases n; exact ⟨rfl, rfl, rfl, rfl, rfl, rfl, rfl, rfl, rfl⟩
theorem findRs_never {L : List Lab} {x : Rt} (hx : leadsTo L x = false) : ∀ (xs : List Rt) (p : Bs) (i : Nat), findRs L p i (xs ++ [x]) = findRs L p i xs
  | [], p, i => by simp [findRs, hx]
  | y :: xs, p, i => by
    have ih := findRs_never hx xs p (i + 1)
    simp only [List.cons_append, findRs, ih]
theorem find_more {L : List Lab} {x : Rt} (hx : leadsTo L x = false) (n : Rt) (p : Bs) : (n.with (n.kids ++ [x])).find L p = n.find L p := by
  cases n
  simp only [Rt.with, Rt.kids, Rt.find, findRs_never hx]
theorem find_first {L : List Lab} {x : Rt} (hx : leadsTo L x = true) (ho : x.on = false) (n : Rt) (p : Bs) : (n.with (x :: n.kids)).find L p = x.find L (p ++ [46, 48]) := by
  have h0 : Lib.decDigits 0 = [48] := by rw [Lib.decDigits, dif_pos (by omega)]; rfl
  have hne := Rt.find_some L (p ++ [46, 48]) x
  cases n
  simp only [Rt.with, Rt.kids, Rt.find, findRs, hx, ho, h0, if_true, List.append_nil, Bool.false_eq_true, if_false]
  cases hq : x.find L (p ++ [46, 48]) with
  | nil => exact absurd hq hne
  | cons t ts => rfl
def neverM : Mat := ⟨⟨#[122, 122]⟩, 1, [⟨#[110, 101, 118, 101, 114]⟩]⟩
def neverR : Rt := .mk ⟨#[120]⟩ [neverM] [] 0 1 1 [] false []
def firstR : Rt := .mk ⟨#[102, 105, 114, 115, 116]⟩ [] [] 0 1 1 [] false []
theorem never_right : rightRt 3 neverR = true := by decide +kernel
theorem first_right : rightRt 3 firstR = true := by decide +kernel
theorem never_leads {L : List Lab} (h : ∀ l ∈ L, l.1 ≠ ⟨#[122, 122]⟩) : leadsTo L neverR = false := by
  unfold leadsTo holdsL
  split
  · have hg : getL L ⟨#[122, 122]⟩ = ⟨#[]⟩ := by
      rcases get_cases L ⟨#[122, 122]⟩ with ⟨j, hj, h1, _⟩ | ⟨_, h2⟩
      · exact absurd h1 (h _ (List.getElem_mem hj))
      · exact h2
    have hr : ([neverM].all rightM) = true := by decide +kernel
    show (if ([neverM].all rightM) = true then (([neverM].all fun m => holdsM (getL L m.name) m), (0 : Int)) else (false, 1)).1 = false
    rw [if_pos hr]
    show (holdsM (getL L ⟨#[122, 122]⟩) neverM && true) = false
    rw [hg]
    decide +kernel
  · rfl
theorem right_with {n : Rt} {xs : List Rt} (h : rightRt 4 n = true) (hx : xs.all (rightRt 3) = true) (hk : xs.length ≤ 16) : rightRt 4 (n.with xs) = true := by
  cases n
  simp only [Rt.with, rightRt, aloneC, Bool.and_eq_true, Rt.recv, Rt.ms, Rt.bys, Rt.mute, Rt.kids, timesC, Rt.wait, Rt.every, Rt.rep] at h ⊢
  obtain ⟨⟨h1, h2, h3, h4, h5, _⟩, _⟩ := h
  exact ⟨⟨h1, h2, h3, h4, h5, decide_eq_true hk⟩, hx⟩
theorem right_kids {n : Rt} (h : rightRt 4 n = true) : n.kids.all (rightRt 3) = true := by
  simp only [rightRt, Bool.and_eq_true] at h
  exact h.2
theorem find_firstR {L : List Lab} (h : rightC L = true) (n : Rt) : (n.with (firstR :: n.kids)).find L [] = [([46, 48], firstR)] := by
  rw [find_first (leads_none h rfl) rfl]
  rfl
end Go.Proofs.YtpcenhaieicejabDoor
