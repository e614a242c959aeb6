/- The contract of 'alive' of the statements of layer 4. -/
import Derived.Test.YtjkmnanadeffnaaDoorMatE
import Derived.Test.YtjkmnanadeffnaaDoorMatQ
namespace Go.Proofs.YtjkmnanadeffnaaDoor
open Go.RowKit Go.Maps

def knownT : ByteArray := ⟨#[97, 61, 126, 34, 98, 124, 99, 34]⟩
def knownM : Mat := ⟨⟨#[97]⟩, 3, [⟨#[98]⟩, ⟨#[99]⟩]⟩
theorem known_parse : parseM knownT.data.toList = some knownM := by kernel_rfl
theorem known_holds : holdsL [(⟨#[97]⟩, ⟨#[98]⟩)] [knownM] = (true, 0) := by kernel_rfl

theorem known_any (W : World) : Calls Tryd.prog 38 #[.string ⟨(pHead knownT.data.toList).toArray⟩, .string ⟨#[61, 33]⟩] W fun e w' => e = .returned (.int .i64 (pAt knownT.data.toList)) ∧ Below W.heap.size W w' :=
  Tryd.strings_IndexAny_laid ⟨(pHead knownT.data.toList).toArray⟩ ⟨#[61, 33]⟩ W (by decide) (by decide) (fun j b hb => by
    have h : (pHead knownT.data.toList) = [97, 61, 126] := by decide
    have hb' : ([97, 61, 126] : Bs)[j]? = some b := by rw [← h]; exact hb
    have hm := List.mem_of_getElem? hb'
    simp only [List.mem_cons, List.not_mem_nil, or_false] at hm
    rcases hm with rfl | rfl | rfl <;> decide) (fun j b hb => by
    have hm : b ∈ ([61, 33] : Bs) := List.mem_of_getElem? hb
    simp only [List.mem_cons, List.not_mem_nil, or_false] at hm
    rcases hm with rfl | rfl <;> decide)

theorem hasLabs_one (w : World) (x y : ByteArray) (h1 : x.size ≤ maxLen) (h2 : y.size ≤ maxLen) : HasLabs (w.alloc (.cells #[.string x, .string y] 49)) (some ⟨w.heap.size, 0, none⟩) 1 [(x, y)] := by
  refine ⟨Nat.le_refl _, by unfold maxLen; omega, ?_, .inr ⟨w.heap.size, 0, rfl, by simp, fun i hi => ?_⟩⟩
  · intro l hl
    rw [List.mem_singleton] at hl
    subst hl
    exact ⟨h1, h2⟩
  · obtain rfl : i = 0 := by simpa using hi
    exact ⟨World.cell?_alloc_mark w _ _ (0, 0) 0, World.cell?_alloc_mark w _ _ (0, 0) 1⟩
/-- a slice of one matcher that has just been laid -/
theorem hasMats_one (w : World) (a : Option Addr) (c : Nat) (m : Mat) (hs : HasStrs w a c m.words) (h1 : m.name.size ≤ maxLen) (h2 : (Lit.int .i64 m.how).wf = true) : HasMats (w.alloc (.cells (matCells a c m) 25)) (some ⟨w.heap.size, 0, none⟩) 1 [m] := by
  refine ⟨Nat.le_refl _, by unfold maxLen; omega, .inr ⟨w.heap.size, 0, rfl, by simp, fun i hi => ?_⟩⟩
  obtain rfl : i = 0 := by simpa using hi
  exact ⟨a, c, ⟨World.cell?_alloc_mark w _ _ (0, 0) 0, World.cell?_alloc_mark w _ _ (0, 0) 1, World.cell?_alloc_mark w _ _ (0, 0) 2⟩, hs.call ((Below.refl _ _).alloc (Nat.le_refl _) _), h1, h2⟩

set_option maxHeartbeats 1600000 in
set_option maxRecDepth 100000 in
theorem alive_any (w : World) (hm : MaxC w) : Calls Tryd.prog 16 #[] w (BoolB true w) := by
  have hp := parse_of knownT w hm (by decide) known_any
  rw [known_parse] at hp
  have hp2 : Calls Tryd.prog 20 #[.string ⟨#[97, 61, 126, 34, 98, 124, 99, 34]⟩] w fun e w' => (∃ a c, e = .returned (.tuple #[.agg #[.string ⟨#[97]⟩, .int .i64 3, .slice a 2 c], .int .i64 0]) ∧ HasStrs w' a c [⟨#[98]⟩, ⟨#[99]⟩]) ∧ Below w.heap.size w w' := hp
  have HP := Lib.hid hp2
  clear hp hp2 hm
  go_enter Tryd.func16, Tryd.ntmps16
  go_upto_region 2 with (go_at_call 20; refine HP.out.mono ?_; rintro e w2 ⟨⟨a, c, rfl, hs⟩, hb2⟩)
  have HB := Lib.hid (Blk.new w2 25 #[.string ⟨#[97]⟩, .int .i64 3, .slice a 2 c])
  have HS := Lib.hid (hs.call ((Below.refl _ _).alloc (Nat.le_refl _) (.cells #[.string ⟨#[97]⟩, .int .i64 3, .slice a 2 c] 25)))
  have HB2 := Lib.hid (hb2.alloc hb2.size (.cells #[.string ⟨#[97]⟩, .int .i64 3, .slice a 2 c] 25))
  clear hs hb2
  generalize w2.alloc (.cells #[.string ⟨#[97]⟩, .int .i64 3, .slice a 2 c] 25) = wx at *
  have hL := hasLabs_one wx ⟨#[97]⟩ ⟨#[98]⟩ (by unfold maxLen; decide) (by unfold maxLen; decide)
  have hbl := (Below.refl _ wx).alloc (Nat.le_refl _) (.cells #[.string ⟨#[97]⟩, .string ⟨#[98]⟩] 49)
  obtain ⟨c0, c1, c2⟩ := HB.out.cells3
  obtain ⟨d0, d1, d2⟩ := (HB.out.alloc (.cells #[.string ⟨#[97]⟩, .string ⟨#[98]⟩] 49)).cells3
  have hM := hasMats_one (wx.alloc (.cells #[.string ⟨#[97]⟩, .string ⟨#[98]⟩] 49)) a c knownM (HS.out.call hbl) (by unfold maxLen; decide) (by decide)
  have hL2 := hL.call ((Below.refl _ _).alloc (Nat.le_refl _) (.cells (matCells a c knownM) 25))
  have hh := holds_any _ _ _ _ _ _ _ hL2 hM (by decide)
  have hh2 : Calls Tryd.prog 11 #[.slice (some ⟨wx.heap.size, 0, none⟩) 1 1, .slice (some ⟨wx.heap.size + 1, 0, none⟩) 1 1] ((wx.alloc (.cells #[.string ⟨#[97]⟩, .string ⟨#[98]⟩] 49)).alloc (.cells #[.string ⟨#[97]⟩, .int .i64 3, .slice a 2 c] 25)) fun e w' => e = .returned (.tuple #[.bool true, .int .i64 0]) ∧ Below ((wx.alloc (.cells #[.string ⟨#[97]⟩, .string ⟨#[98]⟩] 49)).alloc (.cells #[.string ⟨#[97]⟩, .int .i64 3, .slice a 2 c] 25)).heap.size ((wx.alloc (.cells #[.string ⟨#[97]⟩, .string ⟨#[98]⟩] 49)).alloc (.cells #[.string ⟨#[97]⟩, .int .i64 3, .slice a 2 c] 25)) w' := by
    have e1 : (wx.alloc (.cells #[.string ⟨#[97]⟩, .string ⟨#[98]⟩] 49)).heap.size = wx.heap.size + 1 := by simp
    unfold HoldsPost at hh
    rw [known_holds, e1] at hh
    exact hh
  have HH := Lib.hid hh2
  have HBE := Lib.hid ((HB2.out.alloc HB2.out.size (.cells #[.string ⟨#[97]⟩, .string ⟨#[98]⟩] 49)).alloc (HB2.out.alloc HB2.out.size _).size (.cells #[.string ⟨#[97]⟩, .int .i64 3, .slice a 2 c] 25))
  clear hh hh2 hL hL2 hM hbl HS
  have HK := Lib.hid ((HB.out.alloc (.cells #[.string ⟨#[97]⟩, .string ⟨#[98]⟩] 49)).alloc (.cells #[.string ⟨#[97]⟩, .int .i64 3, .slice a 2 c] 25))
  go_wp2_with (go_at_call 11; refine HH.out.mono ?_; rintro e w5 ⟨rfl, hb5⟩; obtain ⟨x0, x1, x2⟩ := (HK.out.call hb5).cells3)
  go_ret
  exact ⟨rfl, bthen HBE.out hb5⟩
end Go.Proofs.YtjkmnanadeffnaaDoor
