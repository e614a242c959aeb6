/- The contracts of block.Get, and of 'alive' of the statements of layer 6. -/
import Derived.Test.YthodifgohdaedabDoorBlkP
namespace Go.Proofs.YthodifgohdaedabDoor
open Go.RowKit

def getT (d : Dfn) (k : ByteArray) : ByteArray := match getV d k with | some v => v | none => ⟨#[]⟩
def getE (d : Dfn) (k : ByteArray) : Int := match getV d k with | some _ => 0 | none => 9
def GetP (d : Dfn) (k : ByteArray) (w : World) (e : Ending) (w' : World) : Prop := e = .returned (.tuple #[.string (getT d k), .int .i64 (getE d k)]) ∧ Below w.heap.size w w'

set_option maxHeartbeats 1600000 in
set_option maxRecDepth 100000 in
theorem bGet_any (q : DefAt) (k : ByteArray) (w : World) (h : q.ok w) : Calls Tryd.prog 22 #[.agg (dCells q), .string k] w (GetP q.d k w) := by
  obtain ⟨d, ka, kc, va, vc⟩ := q
  obtain ⟨hk, hv, _⟩ := h
  simp only at hk hv ⊢
  have hb := (Below.refl w.heap.size w).alloc (Nat.le_refl _) (.cells #[.string d.kind, .slice ka d.keys.length kc, .slice va d.vals.length vc] 44)
  have hB := Blk.new w 44 #[.string d.kind, .slice ka d.keys.length kc, .slice va d.vals.length vc]
  have hi := index_any ka kc d.keys k _ (hk.call hb)
  have hv' := hv.call hb
  have l1 : d.keys.length ≤ kc := hk.1
  have l2 := hk.2.1
  have l3 : d.vals.length ≤ vc := hv.1
  have l4 := hv.2.1
  unfold maxLen at l2 l4
  obtain ⟨_, h1 | ⟨i, hil, h1⟩⟩ := memB_key d.keys k
  · have e1 : getT d k = ⟨#[]⟩ := by simp [getT, getV, h1]
    have e2 : getE d k = 9 := by simp [getE, getV, h1]
    unfold GetP
    rw [e1, e2]
    rw [h1] at hi
    have HI := Lib.hid hi
    clear e1 e2 h1 hi hk hv hv'
    go_enter Tryd.func22, Tryd.ntmps22
    go_upto_region 1 with fail
    generalize w.alloc (.cells #[.string d.kind, .slice ka d.keys.length kc, .slice va d.vals.length vc] 44) = wx at *
    obtain ⟨x0, x1, x2⟩ := hB.cells3
    go_wp2_with (go_at_call 39; refine HI.out.mono ?_; rintro e w2 ⟨rfl, rfl⟩)
    go_ret2
    exact ⟨rfl, hb⟩
  by_cases hiv : i < d.vals.length
  case neg =>
    have e1 : getT d k = ⟨#[]⟩ := by simp [getT, getV, h1, hiv]
    have e2 : getE d k = 9 := by simp [getE, getV, h1, hiv]
    unfold GetP
    rw [e1, e2]
    rw [h1] at hi
    have HI := Lib.hid (show Calls Tryd.prog 39 #[.slice ka d.keys.length kc, .string k] (w.alloc (.cells #[.string d.kind, .slice ka d.keys.length kc, .slice va d.vals.length vc] 44)) (IntS (i : Int) _) from hi)
    have hge : (d.vals.length : Int) ≤ (i : Int) := by omega
    clear e1 e2 h1 hi hk hv hv'
    go_enter Tryd.func22, Tryd.ntmps22
    go_upto_region 1 with fail
    generalize w.alloc (.cells #[.string d.kind, .slice ka d.keys.length kc, .slice va d.vals.length vc] 44) = wx at *
    obtain ⟨x0, x1, x2⟩ := hB.cells3
    go_wp2_with (go_at_call 39; refine HI.out.mono ?_; rintro e w2 ⟨rfl, rfl⟩)
    go_ret2
    exact ⟨rfl, hb⟩
  have e1 : getT d k = d.vals[i] := by simp [getT, getV, h1, hiv]
  have e2 : getE d k = 0 := by simp [getE, getV, h1, hiv]
  unfold GetP
  rw [e1, e2]
  rw [h1] at hi
  have HI := Lib.hid (show Calls Tryd.prog 39 #[.slice ka d.keys.length kc, .string k] (w.alloc (.cells #[.string d.kind, .slice ka d.keys.length kc, .slice va d.vals.length vc] 44)) (IntS (i : Int) _) from hi)
  obtain ⟨b1, o1, rfl⟩ : ∃ b1 o1, va = some ⟨b1, o1, none⟩ := by
    rcases hv.2.2.2 with h | ⟨b1, o1, h, _⟩
    · rw [h] at hiv; simp at hiv
    · exact ⟨b1, o1, h⟩
  have c1 := hv'.at i hiv
  generalize d.vals[i] = Y at *
  clear e1 e2 h1 hi hk hv hv'
  go_enter Tryd.func22, Tryd.ntmps22
  go_upto_region 1 with fail
  generalize w.alloc (.cells #[.string d.kind, .slice ka d.keys.length kc, .slice (some ⟨b1, o1, none⟩) d.vals.length vc] 44) = wx at *
  obtain ⟨x0, x1, x2⟩ := hB.cells3
  go_wp2_with (go_at_call 39; refine HI.out.mono ?_; rintro e w2 ⟨rfl, rfl⟩)
  go_ret2
  exact ⟨rfl, hb⟩

/-- the known block -/
def knownD : Dfn := ⟨⟨#[104, 111, 115, 116]⟩, [⟨#[110, 97, 109, 101]⟩], [⟨#[97, 32, 98]⟩]⟩
theorem known_print : printT [knownD] = ⟨#[100, 101, 102, 105, 110, 101, 32, 104, 111, 115, 116, 32, 123, 10, 9, 110, 97, 109, 101, 9, 97, 32, 98, 10, 125, 10]⟩ ∧ printE [knownD] = 0 := by decide +kernel

theorem hasDefs_one (W : World) (q : DefAt) (h : q.ok W) : HasDefs (W.alloc (.cells (dCells q) 44)) (some ⟨W.heap.size, 0, none⟩) 1 [q.d] := by
  refine ⟨Nat.le_refl _, by unfold maxLen; omega, .inr ⟨W.heap.size, 0, rfl, by simp, fun i hi => ?_⟩⟩
  obtain rfl : i = 0 := by simpa using hi
  exact ⟨q, rfl, ⟨World.cell?_alloc_mark W _ _ (0, 0) 0, World.cell?_alloc_mark W _ _ (0, 0) 1, World.cell?_alloc_mark W _ _ (0, 0) 2⟩, h.call ((Below.refl _ _).alloc (Nat.le_refl _) _)⟩
theorem hasStrs_one (W : World) (s : ByteArray) (T : TypeId) (h : s.size ≤ maxLen) : HasStrs (W.alloc (.cells #[.string s] T)) (some ⟨W.heap.size, 0, none⟩) 1 [s] := by
  refine ⟨Nat.le_refl _, by unfold maxLen; omega, (fun x hx => by rw [List.mem_singleton] at hx; subst hx; exact h), .inr ⟨W.heap.size, 0, rfl, by simp, fun i hi => ?_⟩⟩
  obtain rfl : i = 0 := by simpa using hi
  exact World.cell?_alloc_mark W _ _ (0, 0) 0

set_option maxHeartbeats 1600000 in
set_option maxRecDepth 100000 in
theorem alive_any (w : World) : Calls Tryd.prog 10 #[] w (BoolW true w) := by
  have hW1 := (Below.refl w.heap.size w).alloc (Nat.le_refl _) (.cells #[.string ⟨#[110, 97, 109, 101]⟩] 9)
  have hW2 := hW1.alloc hW1.size (.cells #[.string ⟨#[97, 32, 98]⟩] 9)
  have hW3 := hW2.alloc hW2.size (.cells #[.string ⟨#[104, 111, 115, 116]⟩, .slice (some ⟨w.heap.size, 0, none⟩) 1 1, .slice (some ⟨w.heap.size + 1, 0, none⟩) 1 1] 44)
  have k1 := (hasStrs_one w ⟨#[110, 97, 109, 101]⟩ 9 (by unfold maxLen; decide)).call ((Below.refl _ _).alloc (Nat.le_refl _) (.cells #[.string ⟨#[97, 32, 98]⟩] 9))
  have k2 := hasStrs_one (w.alloc (.cells #[.string ⟨#[110, 97, 109, 101]⟩] 9)) ⟨#[97, 32, 98]⟩ 9 (by unfold maxLen; decide)
  have e1 : (w.alloc (.cells #[.string ⟨#[110, 97, 109, 101]⟩] 9)).heap.size = w.heap.size + 1 := by simp
  have e2 : ((w.alloc (.cells #[.string ⟨#[110, 97, 109, 101]⟩] 9)).alloc (.cells #[.string ⟨#[97, 32, 98]⟩] 9)).heap.size = w.heap.size + 2 := by simp
  rw [e1] at k2
  have hd := hasDefs_one _ ⟨knownD, some ⟨w.heap.size, 0, none⟩, 1, some ⟨w.heap.size + 1, 0, none⟩, 1⟩ ⟨k1, k2, by show knownD.kind.size ≤ maxLen; unfold maxLen; decide⟩
  have hp := bPrint_any _ _ _ _ hd
  unfold PrintP at hp
  rw [show (DefAt.d ⟨knownD, some ⟨w.heap.size, 0, none⟩, 1, some ⟨w.heap.size + 1, 0, none⟩, 1⟩) = knownD from rfl, known_print.1, known_print.2, e2] at hp
  have hp2 : Calls Tryd.prog 13 #[.slice (some ⟨w.heap.size + 2, 0, none⟩) 1 1] (((w.alloc (.cells #[.string ⟨#[110, 97, 109, 101]⟩] 9)).alloc (.cells #[.string ⟨#[97, 32, 98]⟩] 9)).alloc (.cells #[.string ⟨#[104, 111, 115, 116]⟩, .slice (some ⟨w.heap.size, 0, none⟩) 1 1, .slice (some ⟨w.heap.size + 1, 0, none⟩) 1 1] 44)) fun e w' => e = .returned (.tuple #[.string ⟨#[100, 101, 102, 105, 110, 101, 32, 104, 111, 115, 116, 32, 123, 10, 9, 110, 97, 109, 101, 9, 97, 32, 98, 10, 125, 10]⟩, .int .i64 0]) ∧ Below (((w.alloc (.cells #[.string ⟨#[110, 97, 109, 101]⟩] 9)).alloc (.cells #[.string ⟨#[97, 32, 98]⟩] 9)).alloc (.cells #[.string ⟨#[104, 111, 115, 116]⟩, .slice (some ⟨w.heap.size, 0, none⟩) 1 1, .slice (some ⟨w.heap.size + 1, 0, none⟩) 1 1] 44)).heap.size (((w.alloc (.cells #[.string ⟨#[110, 97, 109, 101]⟩] 9)).alloc (.cells #[.string ⟨#[97, 32, 98]⟩] 9)).alloc (.cells #[.string ⟨#[104, 111, 115, 116]⟩, .slice (some ⟨w.heap.size, 0, none⟩) 1 1, .slice (some ⟨w.heap.size + 1, 0, none⟩) 1 1] 44)) w' := hp
  have HP := Lib.hid hp2
  have HW := Lib.hid hW3
  clear hp hp2 hd k1 k2 e1 e2 hW1 hW2 hW3
  go_enter Tryd.func10, Tryd.ntmps10
  go_wp2_with (go_at_call 13; refine HP.out.mono ?_; rintro e w5 ⟨rfl, hb5⟩)
  go_ret
  exact ⟨rfl, bthen HW.out hb5⟩
end Go.Proofs.YthodifgohdaedabDoor
