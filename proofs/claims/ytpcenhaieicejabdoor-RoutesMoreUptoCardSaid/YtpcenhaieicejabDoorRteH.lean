/- The contract of 'alive' of layer 9, and of the document's own Like of two routes that hold none. -/
import Derived.Test.YtpcenhaieicejabDoorFndB
namespace Go.Proofs.YtpcenhaieicejabDoor
open Go.RowKit

def opsR : RtAt := ⟨.mk ⟨#[111, 112, 115]⟩ [] [] 0 1 1 [] false [], none, 0, none, 0, none, 0, none, 0⟩
theorem ops_ok (w : World) : opsR.ok w :=
  .flat _ ⟨⟨HasMats.nil w none 0 (by unfold maxLen; omega), HasStrs.nil w none 0 (Nat.zero_le _), HasStrs.nil w none 0 (Nat.zero_le _), by decide, ⟨by decide, by decide, by decide⟩, by decide, by decide, by decide⟩, Nat.le_refl _, by show 0 ≤ maxLen; omega⟩ rfl
theorem ops_find : opsR.n.find [] [] = [([], opsR.n)] := by
  simp [opsR, Rt.find, findRs]
theorem proj_one {ts : List TgtAt} {p : Bs} {n : Rt} (h : proj ts = [(p, n)]) : ∃ t, ts = [t] ∧ t.1.data.toList = p ∧ t.2.n = n := by
  match ts, h with
  | [t], h => simp [proj] at h; exact ⟨t, rfl, by simpa using h.1, h.2⟩
set_option maxHeartbeats 3200000 in
set_option maxRecDepth 100000 in
theorem alive_any (w : World) : Calls Tryd.prog 8 #[] w (BoolB true w) := by
  have hf := find_any opsR none 0 [] w (ops_ok w) (HasLabs.nil w none 0 (by unfold maxLen; omega)) (by decide)
  have hf2 : Calls Tryd.prog 9 #[.agg #[.string ⟨#[111, 112, 115]⟩, .slice none 0 0, .slice none 0 0, .int .i64 0, .int .i64 1, .int .i64 1, .slice none 0 0, .bool false, .slice none 0 0], .slice none 0 0] w
      (fun e w' => ∃ b off c', e = .returned (.tuple #[.slice (some ⟨b, off, none⟩) 1 c', .int .i64 0]) ∧ w'.cell? ⟨b, off, none⟩ = some (.string ⟨#[]⟩) ∧ w'.cell? ⟨b, off + 1, none⟩ = some (.string ⟨#[111, 112, 115]⟩) ∧ Below w.heap.size w w') := by
    refine hf.mono ?_
    rintro e w' (⟨h1, _⟩ | ⟨_, a', c', ts, rfl, hp, ht, hb⟩)
    · exact absurd h1 (by decide)
    · rw [ops_find] at hp
      obtain ⟨t, rfl, h1, h2⟩ := proj_one hp
      obtain ⟨_, _, _, h3 | ⟨b, off, rfl, _, hc⟩⟩ := ht
      · cases h3
      · have hl := hc 0 (by simp)
        have l1 := hl.1
        have l2 := hl.2.1
        simp only [List.getElem_cons_zero, Nat.zero_mul, Nat.add_zero] at l1 l2
        have e1 : t.1 = ⟨#[]⟩ := bytes_ext h1
        rw [e1] at l1
        rw [h2] at l2
        exact ⟨b, off, c', rfl, l1, l2, hb⟩
  have HF := Lib.hid hf2
  clear hf hf2
  go_enter Tryd.func8, Tryd.ntmps8
  go_wp2_with (go_at_call 9; refine HF.out.mono ?_; rintro e w2 ⟨b, off, c', rfl, l1, l2, hb2⟩)
  go_ret
  exact ⟨rfl, hb2⟩
end Go.Proofs.YtpcenhaieicejabDoor
