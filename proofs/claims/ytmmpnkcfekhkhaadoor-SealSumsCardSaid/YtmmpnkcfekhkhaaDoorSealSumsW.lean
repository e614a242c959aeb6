/- The walk of SealSums. -/
import Derived.Test.YtmmpnkcfekhkhaaDoorIntRoots
import Derived.Test.YtmmpnkcfekhkhaaDoorIntM
import Derived.Test.YtmmpnkcfekhkhaaDoorShaF
import Derived.Test.YtmmpnkcfekhkhaaDoorTabs
import Derived.Deep.RegionHeld3
import Derived.WalkLawsBesides
import Derived.WalkSpells
namespace Go.Proofs.YtmmpnkcfekhkhaaDoor
open Go.ChangeShapes Go.WideShapes Go.ChangeAt Go.RowKit

def cut300 (s : ByteArray) : ByteArray := if s.size ≤ 300 then s else s.extract 0 300
theorem cut300_ext (s : ByteArray) : s.extract 0 (min s.size 300) = cut300 s := by
  unfold cut300
  split
  · rw [Nat.min_eq_left (by assumption)]; simp
  · rw [Nat.min_eq_right (by omega)]
theorem cut300_size (s : ByteArray) : (cut300 s).size ≤ 300 := by
  unfold cut300; split
  · assumption
  · simp; omega
theorem run_min300 {P : Program} (w : World) (ts : Array TypeId) (t : TypeId) (x : Nat) : (Builtin.min_ ts t #[.int .i64 (x : Int), .int .i64 300]).run P w = .ok (.int .i64 ((min x 300 : Nat) : Int)) w := by
  simp [Builtin.min_, Builtin.min2]
  repeat' split
  all_goals omega
theorem run_cut300 {P : Program} (w : World) (t : TypeId) (s : ByteArray) (h : P.underlying t = some .string) :
    (Instr.slice t (.string s) none (some (.int .i64 ((min s.size 300 : Nat) : Int))) none).run P w = .ok (.string (cut300 s)) w := by
  have hj : (0 : Int) ≤ ((min s.size 300 : Nat) : Int) ∧ ((min s.size 300 : Nat) : Int) ≤ (s.size : Int) := ⟨by omega, by omega⟩
  rw [← cut300_ext]
  simp [Instr.slice, run_underlying h, hj, go_sem]

set_option maxHeartbeats 6400000 in
set_option maxRecDepth 100000 in
theorem sealSums_walk {w : World} (a0 : ByteArray) (_w0 : a0.size ≤ maxLen) (hT : Tabs w) :
    Calls Tryd.prog 3 #[.string a0] w fun e w' => e = .returned (.bool true) ∧ Below w.heap.size w w' := by
  have HT := Lib.hid (fun W (h : Below w.heap.size w W) => Tabs.after hT h)
  clear hT
  have hm := fun W (t : TypeId) (ts : Array TypeId) => run_min300 (P := Tryd.prog) W ts t a0.size
  have hc := fun W => run_cut300 (P := Tryd.prog) W 9 a0 Tryd.underlying9
  have hs := cut300_size a0
  obtain ⟨S, hS⟩ : ∃ S, cut300 a0 = S := ⟨_, rfl⟩
  rw [hS] at hs
  simp only [hS] at hc
  have h4 : S.size ≤ 400000000 := by omega
  have hs1 := fun W hW => sum_any S W h4 hW
  have hs2 := fun W => rsum_any S W h4
  have hs3 := fun W hW => mark_any S W h4 hW
  have hs4 := fun W => rmark_any S W h4
  obtain ⟨X, hX⟩ : ∃ X : ByteArray, X = ⟨(shaL S.data.toList).toArray⟩ := ⟨_, rfl⟩
  obtain ⟨Y, hY⟩ : ∃ Y : ByteArray, Y = ⟨(markL S.data.toList).toArray⟩ := ⟨_, rfl⟩
  rw [← hX] at hs1 hs2
  rw [← hY] at hs3 hs4
  have H1 := Lib.hid hs1
  have H2 := Lib.hid hs2
  have H3 := Lib.hid hs3
  have H4 := Lib.hid hs4
  clear hs1 hs2 hs3 hs4 hX hY hS h4 hs
  go_enter Tryd.func3, Tryd.ntmps3
  go_upto_region 2 with fail
  go_wp2_with (first
    | ((with_reducible refine (alive_any _ (HT.out _ (Below.refl _ _))).mono ?_); rintro e w1 ⟨rfl, hb1⟩)
    | ((with_reducible refine (H1.out _ (HT.out _ hb1)).mono ?_); rintro e w2 ⟨rfl, hb2⟩)
    | ((with_reducible refine (H2.out _).mono ?_); rintro e w3 ⟨rfl, hb3⟩)
    | ((with_reducible refine (H3.out _ (HT.out _ (bthen (bthen hb1 hb2) hb3))).mono ?_); rintro e w4 ⟨rfl, hb4⟩)
    | ((with_reducible refine (H4.out _).mono ?_); rintro e w5 ⟨rfl, hb5⟩)
    | ((with_reducible refine (keys64 _).mono ?_); rintro e w6 ⟨g1, c1, rfl, hk1, hb6⟩)
    | ((with_reducible refine (roots_keys _).mono ?_); rintro e w7 ⟨g2, c2, rfl, hk2, hb7⟩)
    | ((with_reducible refine (rsame_any KK 64 g1 c1 g2 c2 _ KK_len (hk1.call hb7) hk2 (by omega)).mono ?_); rintro e w8 ⟨rfl, hb8⟩)
    | ((with_reducible refine (first8 _).mono ?_); rintro e w9 ⟨g3, c3, rfl, hk3, hb9⟩)
    | ((with_reducible refine (roots_first _).mono ?_); rintro e w10 ⟨g4, c4, rfl, hk4, hb10⟩)
    | ((with_reducible refine (rsame_any HH 8 g3 c3 g4 c4 _ HH_len (hk3.call hb10) hk4 (by omega)).mono ?_); rintro e w11 ⟨rfl, hb11⟩))
  go_ret
  exact ⟨rfl, bthen (bthen (bthen (bthen (bthen (bthen (bthen (bthen (bthen (bthen hb1 hb2) hb3) hb4) hb5) hb6) hb7) hb8) hb9) hb10) hb11⟩
end Go.Proofs.YtmmpnkcfekhkhaaDoor
