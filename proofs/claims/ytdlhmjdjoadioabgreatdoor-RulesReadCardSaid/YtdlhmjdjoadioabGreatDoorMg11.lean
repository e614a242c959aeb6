/- The contracts of rules.howOf, number, Read. -/
import Derived.Test.YtdlhmjdjoadioabGreatDoorZRulX
import Derived.Test.YtdlhmjdjoadioabGreatDoorZLabPP
import Derived.Test.YtdlhmjdjoadioabGreatDoorMg10
import Derived.Lib.AtoiErrMem
namespace Go.Proofs.YtdlhmjdjoadioabGreatDoor
open Go.RowKit

/-- what the listed variables hold -/
def RW (w : World) : Prop := TabW w ∧ MaxC w ∧ (∃ t p, w.cell? ⟨1, 0, none⟩ = some (.iface t p)) ∧ (∃ t p, w.cell? ⟨2, 0, none⟩ = some (.iface t p))
theorem RW.call {w w1 : World} (h : RW w) (hb : Below w.heap.size w w1) : RW w1 := by
  obtain ⟨h1, h2, ⟨t, p, h3⟩, ⟨t', p', h4⟩⟩ := h
  have k : ∀ a v, w.cell? a = some v → w1.cell? a = some v := fun a v hv => (hb.cell (World.block_lt_of_cell? _ _ hv)).trans hv
  exact ⟨h1.call hb, h2.call hb, ⟨t, p, k _ _ h3⟩, ⟨t', p', k _ _ h4⟩⟩
def AtoiP (s : Bs) (w : World) (e : Ending) (w' : World) : Prop :=
  (∃ v ev, e = .returned (.tuple #[.int .i64 v, ev]) ∧ ((Lib.atoiAll s = .ok v ∧ ev = .nilIface) ∨ ((∀ u, Lib.atoiAll s ≠ .ok u) ∧ ∃ t p, ev = .iface t p))) ∧ Below w.heap.size w w'
theorem atoi_any (s : ByteArray) (w : World) (hw : RW w) (hs : s.size ≤ 100000) : Calls Tryz.prog 49 #[.string s] w (AtoiP s.data.toList w) := by
  obtain ⟨_, _, ⟨t, p, h3⟩, ⟨t', p', h4⟩⟩ := hw
  cases h : Lib.atoiAll s.data.toList
  · rename_i v
    refine (Tryz.strconv_Atoi_ok s (by omega) v h w).mono ?_
    rintro e w' ⟨rfl, hw'⟩
    refine ⟨⟨v, _, rfl, .inl ⟨h, rfl⟩⟩, ?_⟩
    rcases hw' with rfl | ⟨t, rfl⟩
    · exact Below.refl _ _
    · exact Lib.bytesWorld_below _ _ _
  · refine (Any.strconv_Atoi_syntax Tryz.laysC172 s (by omega) h _ w h3 (.inr ⟨t, p, rfl⟩)).mono ?_
    rintro e w' ⟨N, rfl, _, _, hb⟩
    exact ⟨⟨_, _, rfl, .inr ⟨fun u hu => (by rw [h] at hu; cases hu), _, _, rfl⟩⟩, hb⟩
  · refine (Tryz.strconv_Atoi_range s (by omega) h _ w h4 (.inr ⟨t', p', rfl⟩)).mono ?_
    rintro e w' ⟨N, rfl, _, _, hb⟩
    exact ⟨⟨_, _, rfl, .inr ⟨fun u hu => (by rw [h] at hu; cases hu), _, _, rfl⟩⟩, hb⟩
end Go.Proofs.YtdlhmjdjoadioabGreatDoor
/- The contracts of rules.howOf and number. -/
namespace Go.Proofs.YtdlhmjdjoadioabGreatDoor
open Go.RowKit

def IntZ (n : Int) (w : World) (e : Ending) (w' : World) : Prop := e = .returned (.int .i64 n) ∧ Below w.heap.size w w'
theorem howL_at (s : ByteArray) : (s = ⟨#[]⟩ → howL s = 0) ∧ (s = ⟨#[62]⟩ → howL s = 1) ∧ (s = ⟨#[62, 61]⟩ → howL s = 2) ∧ (s = ⟨#[60]⟩ → howL s = 3) ∧ (s = ⟨#[60, 61]⟩ → howL s = 4) ∧ (s = ⟨#[61, 61]⟩ → howL s = 5) := by
  refine ⟨?_, ?_, ?_, ?_, ?_, ?_⟩ <;> (rintro rfl; decide +kernel)
theorem howL_no {s : ByteArray} (h1 : s ≠ ⟨#[62]⟩) (h2 : s ≠ ⟨#[62, 61]⟩) (h3 : s ≠ ⟨#[60]⟩) (h4 : s ≠ ⟨#[60, 61]⟩) (h5 : s ≠ ⟨#[61, 61]⟩) : howL s = 0 := by
  unfold howL; rw [if_neg h1, if_neg h2, if_neg h3, if_neg h4, if_neg h5]
set_option maxHeartbeats 3200000 in
set_option maxRecDepth 100000 in
theorem howOf_any (s : ByteArray) (w : World) : Calls Tryz.prog 22 #[.string s] w (IntZ (howL s) w) := by
  obtain ⟨R, hR⟩ : ∃ R, howL s = R := ⟨_, rfl⟩
  rw [hR]
  have HAT := Lib.hid (hR ▸ howL_at s)
  have HNO : Hid (s ≠ ⟨#[62]⟩ → s ≠ ⟨#[62, 61]⟩ → s ≠ ⟨#[60]⟩ → s ≠ ⟨#[60, 61]⟩ → s ≠ ⟨#[61, 61]⟩ → R = 0) := Lib.hid (fun a b c d e => by rw [← hR]; exact howL_no a b c d e)
  clear hR
  go_enter Tryz.func22, Tryz.ntmps22
  go_upto_region 2 with (go_at_call 19; refine (hows_any _).mono ?_; rintro e w2 ⟨x, y, rfl, hx, hy, hb2⟩)
  clear hx hy
  have i0 := fun (x y : Nat) (W : World) => (show (Instr.index 48 (.agg (howsV x y)) (.int .i64 0)).run Tryz.prog W = .ok (.agg #[.string ⟨#[]⟩, .nilFunc]) W by kernel_rfl)
  have i1 := fun (x y : Nat) (W : World) => (show (Instr.index 48 (.agg (howsV x y)) (.int .i64 1)).run Tryz.prog W = .ok (.agg #[.string ⟨#[62]⟩, .func (.func 41) #[] #[]]) W by kernel_rfl)
  have i2 := fun (x y : Nat) (W : World) => (show (Instr.index 48 (.agg (howsV x y)) (.int .i64 2)).run Tryz.prog W = .ok (.agg #[.string ⟨#[62, 61]⟩, .func (.func 60) #[] #[.pointer (some ⟨x, 0, none⟩)]]) W by kernel_rfl)
  have i3 := fun (x y : Nat) (W : World) => (show (Instr.index 48 (.agg (howsV x y)) (.int .i64 3)).run Tryz.prog W = .ok (.agg #[.string ⟨#[60]⟩, .func (.func 42) #[] #[]]) W by kernel_rfl)
  have i4 := fun (x y : Nat) (W : World) => (show (Instr.index 48 (.agg (howsV x y)) (.int .i64 4)).run Tryz.prog W = .ok (.agg #[.string ⟨#[60, 61]⟩, .func (.func 60) #[] #[.pointer (some ⟨y, 0, none⟩)]]) W by kernel_rfl)
  have i5 := fun (x y : Nat) (W : World) => (show (Instr.index 48 (.agg (howsV x y)) (.int .i64 5)).run Tryz.prog W = .ok (.agg #[.string ⟨#[61, 61]⟩, .func (.func 43) #[] #[]]) W by kernel_rfl)
  go_loopg [6] 6 (fun gg kv wr => ∃ k : Nat, k + gg = 6 ∧ kv = .int .i64 k ∧ Hid ((1 < k → s ≠ ⟨#[62]⟩) ∧ (2 < k → s ≠ ⟨#[62, 61]⟩) ∧ (3 < k → s ≠ ⟨#[60]⟩) ∧ (4 < k → s ≠ ⟨#[60, 61]⟩) ∧ (5 < k → s ≠ ⟨#[61, 61]⟩)) ∧ Below w.heap.size w wr)
  case atStart => exact ⟨0, by omega, rfl, Lib.hid ⟨(fun h => absurd h (by omega)), (fun h => absurd h (by omega)), (fun h => absurd h (by omega)), (fun h => absurd h (by omega)), fun h => absurd h (by omega)⟩, hb2⟩
  case round =>
    obtain ⟨k, hkg, rfl, HN, hbr⟩ := hrel
    clear hb2
    cases gk with
    | zero =>
      obtain rfl : k = 6 := by omega
      obtain rfl : R = 0 := HNO.out (HN.out.1 (by omega)) (HN.out.2.1 (by omega)) (HN.out.2.2.1 (by omega)) (HN.out.2.2.2.1 (by omega)) (HN.out.2.2.2.2 (by omega))
      go_wp2_with fail
      go_ret
      exact ⟨rfl, hbr⟩
    | succ gg =>
      have hk : k = 0 ∨ k = 1 ∨ k = 2 ∨ k = 3 ∨ k = 4 ∨ k = 5 := by omega
      have HBR := Lib.hid hbr
      clear hbr
      rcases hk with rfl | rfl | rfl | rfl | rfl | rfl
      · have hB := fun f : Value => Blk.new wr 47 #[.string ⟨#[]⟩, f]
        have z0 := fun f : Value => (hB f).cell 0
        have z1 := fun f : Value => (hB f).cell 1
        have hbn := fun f : Value => (Below.refl wr.heap.size wr).alloc (Nat.le_refl _) (.cells #[.string ⟨#[]⟩, f] 47)
        have HBN := Lib.hid hbn
        have q1 : ([] == s.toList) = decide (s = ⟨#[]⟩) := by
          have h := toList_eq_iff ⟨#[]⟩ s
          rw [show (⟨#[]⟩ : ByteArray).toList = [] by rw [ByteArray.toList_eq]] at h
          rw [h, Bool.eq_iff_iff, decide_eq_true_iff, decide_eq_true_iff]
          exact ⟨Eq.symm, Eq.symm⟩
        clear hB hbn
        by_cases hq : s = ⟨#[]⟩
        · obtain rfl : R = 0 := HAT.out.1 hq
          rw [decide_eq_true hq] at q1
          clear hq
          go_wp2_with fail
          go_ret
          exact ⟨rfl, bthen HBR.out (HBN.out _)⟩
        · rw [decide_eq_false hq] at q1
          have HQ := Lib.hid hq
          clear hq
          go_wp2_with fail
          go_roundg gg
          case measure => omega
          case rel => exact ⟨0 + 1, by omega, by go_num, Lib.hid ⟨(fun h => absurd h (by omega)), (fun h => absurd h (by omega)), (fun h => absurd h (by omega)), (fun h => absurd h (by omega)), (fun h => absurd h (by omega))⟩, bthen HBR.out (HBN.out _)⟩
      · have hB := fun f : Value => Blk.new wr 47 #[.string ⟨#[62]⟩, f]
        have z0 := fun f : Value => (hB f).cell 0
        have z1 := fun f : Value => (hB f).cell 1
        have hbn := fun f : Value => (Below.refl wr.heap.size wr).alloc (Nat.le_refl _) (.cells #[.string ⟨#[62]⟩, f] 47)
        have HBN := Lib.hid hbn
        have q1 : ([62] == s.toList) = decide (s = ⟨#[62]⟩) := by
          have h := toList_eq_iff ⟨#[62]⟩ s
          rw [show (⟨#[62]⟩ : ByteArray).toList = [62] by rw [ByteArray.toList_eq]] at h
          rw [h, Bool.eq_iff_iff, decide_eq_true_iff, decide_eq_true_iff]
          exact ⟨Eq.symm, Eq.symm⟩
        clear hB hbn
        by_cases hq : s = ⟨#[62]⟩
        · obtain rfl : R = 1 := HAT.out.2.1 hq
          rw [decide_eq_true hq] at q1
          clear hq
          go_wp2_with fail
          go_ret
          exact ⟨rfl, bthen HBR.out (HBN.out _)⟩
        · rw [decide_eq_false hq] at q1
          have HQ := Lib.hid hq
          clear hq
          go_wp2_with fail
          go_roundg gg
          case measure => omega
          case rel => exact ⟨1 + 1, by omega, by go_num, Lib.hid ⟨(fun _ => HQ.out), (fun h => absurd h (by omega)), (fun h => absurd h (by omega)), (fun h => absurd h (by omega)), (fun h => absurd h (by omega))⟩, bthen HBR.out (HBN.out _)⟩
      · have hB := fun f : Value => Blk.new wr 47 #[.string ⟨#[62, 61]⟩, f]
        have z0 := fun f : Value => (hB f).cell 0
        have z1 := fun f : Value => (hB f).cell 1
        have hbn := fun f : Value => (Below.refl wr.heap.size wr).alloc (Nat.le_refl _) (.cells #[.string ⟨#[62, 61]⟩, f] 47)
        have HBN := Lib.hid hbn
        have q1 : ([62, 61] == s.toList) = decide (s = ⟨#[62, 61]⟩) := by
          have h := toList_eq_iff ⟨#[62, 61]⟩ s
          rw [show (⟨#[62, 61]⟩ : ByteArray).toList = [62, 61] by rw [ByteArray.toList_eq]] at h
          rw [h, Bool.eq_iff_iff, decide_eq_true_iff, decide_eq_true_iff]
          exact ⟨Eq.symm, Eq.symm⟩
        clear hB hbn
        by_cases hq : s = ⟨#[62, 61]⟩
        · obtain rfl : R = 2 := HAT.out.2.2.1 hq
          rw [decide_eq_true hq] at q1
          clear hq
          go_wp2_with fail
          go_ret
          exact ⟨rfl, bthen HBR.out (HBN.out _)⟩
        · rw [decide_eq_false hq] at q1
          have HQ := Lib.hid hq
          clear hq
          go_wp2_with fail
          go_roundg gg
          case measure => omega
          case rel => exact ⟨2 + 1, by omega, by go_num, Lib.hid ⟨(fun _ => HN.out.1 (by omega)), (fun _ => HQ.out), (fun h => absurd h (by omega)), (fun h => absurd h (by omega)), (fun h => absurd h (by omega))⟩, bthen HBR.out (HBN.out _)⟩
      · have hB := fun f : Value => Blk.new wr 47 #[.string ⟨#[60]⟩, f]
        have z0 := fun f : Value => (hB f).cell 0
        have z1 := fun f : Value => (hB f).cell 1
        have hbn := fun f : Value => (Below.refl wr.heap.size wr).alloc (Nat.le_refl _) (.cells #[.string ⟨#[60]⟩, f] 47)
        have HBN := Lib.hid hbn
        have q1 : ([60] == s.toList) = decide (s = ⟨#[60]⟩) := by
          have h := toList_eq_iff ⟨#[60]⟩ s
          rw [show (⟨#[60]⟩ : ByteArray).toList = [60] by rw [ByteArray.toList_eq]] at h
          rw [h, Bool.eq_iff_iff, decide_eq_true_iff, decide_eq_true_iff]
          exact ⟨Eq.symm, Eq.symm⟩
        clear hB hbn
        by_cases hq : s = ⟨#[60]⟩
        · obtain rfl : R = 3 := HAT.out.2.2.2.1 hq
          rw [decide_eq_true hq] at q1
          clear hq
          go_wp2_with fail
          go_ret
          exact ⟨rfl, bthen HBR.out (HBN.out _)⟩
        · rw [decide_eq_false hq] at q1
          have HQ := Lib.hid hq
          clear hq
          go_wp2_with fail
          go_roundg gg
          case measure => omega
          case rel => exact ⟨3 + 1, by omega, by go_num, Lib.hid ⟨(fun _ => HN.out.1 (by omega)), (fun _ => HN.out.2.1 (by omega)), (fun _ => HQ.out), (fun h => absurd h (by omega)), (fun h => absurd h (by omega))⟩, bthen HBR.out (HBN.out _)⟩
      · have hB := fun f : Value => Blk.new wr 47 #[.string ⟨#[60, 61]⟩, f]
        have z0 := fun f : Value => (hB f).cell 0
        have z1 := fun f : Value => (hB f).cell 1
        have hbn := fun f : Value => (Below.refl wr.heap.size wr).alloc (Nat.le_refl _) (.cells #[.string ⟨#[60, 61]⟩, f] 47)
        have HBN := Lib.hid hbn
        have q1 : ([60, 61] == s.toList) = decide (s = ⟨#[60, 61]⟩) := by
          have h := toList_eq_iff ⟨#[60, 61]⟩ s
          rw [show (⟨#[60, 61]⟩ : ByteArray).toList = [60, 61] by rw [ByteArray.toList_eq]] at h
          rw [h, Bool.eq_iff_iff, decide_eq_true_iff, decide_eq_true_iff]
          exact ⟨Eq.symm, Eq.symm⟩
        clear hB hbn
        by_cases hq : s = ⟨#[60, 61]⟩
        · obtain rfl : R = 4 := HAT.out.2.2.2.2.1 hq
          rw [decide_eq_true hq] at q1
          clear hq
          go_wp2_with fail
          go_ret
          exact ⟨rfl, bthen HBR.out (HBN.out _)⟩
        · rw [decide_eq_false hq] at q1
          have HQ := Lib.hid hq
          clear hq
          go_wp2_with fail
          go_roundg gg
          case measure => omega
          case rel => exact ⟨4 + 1, by omega, by go_num, Lib.hid ⟨(fun _ => HN.out.1 (by omega)), (fun _ => HN.out.2.1 (by omega)), (fun _ => HN.out.2.2.1 (by omega)), (fun _ => HQ.out), (fun h => absurd h (by omega))⟩, bthen HBR.out (HBN.out _)⟩
      · have hB := fun f : Value => Blk.new wr 47 #[.string ⟨#[61, 61]⟩, f]
        have z0 := fun f : Value => (hB f).cell 0
        have z1 := fun f : Value => (hB f).cell 1
        have hbn := fun f : Value => (Below.refl wr.heap.size wr).alloc (Nat.le_refl _) (.cells #[.string ⟨#[61, 61]⟩, f] 47)
        have HBN := Lib.hid hbn
        have q1 : ([61, 61] == s.toList) = decide (s = ⟨#[61, 61]⟩) := by
          have h := toList_eq_iff ⟨#[61, 61]⟩ s
          rw [show (⟨#[61, 61]⟩ : ByteArray).toList = [61, 61] by rw [ByteArray.toList_eq]] at h
          rw [h, Bool.eq_iff_iff, decide_eq_true_iff, decide_eq_true_iff]
          exact ⟨Eq.symm, Eq.symm⟩
        clear hB hbn
        by_cases hq : s = ⟨#[61, 61]⟩
        · obtain rfl : R = 5 := HAT.out.2.2.2.2.2 hq
          rw [decide_eq_true hq] at q1
          clear hq
          go_wp2_with fail
          go_ret
          exact ⟨rfl, bthen HBR.out (HBN.out _)⟩
        · rw [decide_eq_false hq] at q1
          have HQ := Lib.hid hq
          clear hq
          go_wp2_with fail
          go_roundg gg
          case measure => omega
          case rel => exact ⟨5 + 1, by omega, by go_num, Lib.hid ⟨(fun _ => HN.out.1 (by omega)), (fun _ => HN.out.2.1 (by omega)), (fun _ => HN.out.2.2.1 (by omega)), (fun _ => HN.out.2.2.2.1 (by omega)), (fun _ => HQ.out)⟩, bthen HBR.out (HBN.out _)⟩

def NumP (s : ByteArray) (w : World) (e : Ending) (w' : World) : Prop := ∃ n : Int, e = .returned (.int .i64 n) ∧ (∀ v, Lib.atoiAll s.data.toList = .ok v → n = v) ∧ Below w.heap.size w w'
set_option maxHeartbeats 1600000 in
theorem number_any (s : ByteArray) (w : World) (hw : RW w) (hs : s.size ≤ 100000) : Calls Tryz.prog 23 #[.string s] w (NumP s w) := by
  have HA := Lib.hid (atoi_any s w hw hs)
  clear hw
  go_enter Tryz.func23, Tryz.ntmps23
  go_upto_region 2 with (go_at_call 49; refine HA.out.mono ?_; rintro e w2 ⟨⟨v1, e1, rfl, hv1⟩, hb2⟩)
  have hv : ∀ v, Lib.atoiAll s.data.toList = .ok v → v1 = v := fun v h => by
    rcases hv1 with ⟨g1, _⟩ | ⟨g1, _⟩
    · rw [g1] at h; injection h
    · exact absurd h (g1 v)
  have HV := Lib.hid hv
  clear hv hv1
  go_wp2_with fail
  go_ret
  exact ⟨v1, rfl, HV.out, hb2⟩
end Go.Proofs.YtdlhmjdjoadioabGreatDoor
