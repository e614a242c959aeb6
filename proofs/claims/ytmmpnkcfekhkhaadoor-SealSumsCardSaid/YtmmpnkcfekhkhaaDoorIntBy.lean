/- The contracts of the document's own by and over: the digits of a product; whether a number is more than another one. -/
import Derived.Test.YtmmpnkcfekhkhaaDoorIntR
import Derived.Deep.LoopGhost
import Derived.RegionTactic
import Derived.Deep.DeepCutAuto
import Derived.Deep.CutBlock
import Derived.IntWalk
namespace Go.Proofs.YtmmpnkcfekhkhaaDoor
open Go.RowKit

set_option maxHeartbeats 1600000 in
set_option maxRecDepth 100000 in
theorem over_any (X : List Nat) (g c p n : Nat) (w : World) (hX : HasIs w g X) (hlen : X.length ≤ 100) (_hc : X.length ≤ c) :
    Calls Tryd.prog 50 #[.slice (some ⟨g, 0, none⟩) X.length c, .int .i64 (p : Int), .int .i64 (n : Int)] w fun e w' => e = .returned (.bool (overF X p n X.length)) ∧ w = w' := by
  obtain ⟨N, hN⟩ : ∃ N, X.length = N := ⟨_, rfl⟩
  have hcell := fun j (hj : j < N) => hX.cell j (by omega)
  rw [hN] at hlen ⊢
  have HC := Lib.hid hcell
  have hov : ∀ i, overF X p n (i + 1) = if X.getD i 0 = (if i = n then p else 0) then overF X p n i else decide ((if i = n then p else 0) < X.getD i 0) := fun i => rfl
  have HOV := Lib.hid hov
  have h0 : overF X p n 0 = false := rfl
  have H0 := Lib.hid h0
  clear hX hcell hov h0 hN
  go_enter Tryd.func50, Tryd.ntmps50
  go_wp2
  go_loopg [7] N (fun gg iv wr => iv = .int .i64 ((gg : Int) - 1) ∧ gg ≤ N ∧ overF X p n gg = overF X p n N ∧ w = wr)
  case atStart => exact ⟨rfl, Nat.le_refl _, rfl, rfl⟩
  case round =>
    obtain ⟨rfl, hgl, ho, rfl⟩ := hrel
    have HO := Lib.hid ho
    clear ho
    cases gk with
    | zero =>
      have hneg : ¬ (0 : Int) ≤ ((0 : Nat) : Int) - 1 := by omega
      go_wp2
      go_ret
      exact ⟨by rw [← HO.out, H0.out]; rfl, rfl⟩
    | succ i =>
      have hx := HC.out i (by omega)
      generalize hXi : X.getD i 0 = x at *
      have hi0 : (((i + 1 : Nat) : Int) - 1) = (i : Int) := by omega
      rw [hi0]
      have hov := HOV.out i
      rw [hXi, HO.out] at hov
      have HV := Lib.hid hov
      clear hi0 hov hXi
      by_cases hin : i = n
      · rw [if_pos hin] at HV
        have t1 : ((i : Int) == (n : Int)) = true := by rw [beq_iff_eq]; omega
        by_cases hxp : x = p
        · rw [if_pos hxp] at HV
          have t2 : ((x : Int) != (p : Int)) = false := by rw [bne_eq_false_iff_eq]; omega
          clear hin hxp
          go_wp2
          go_roundg i
          case measure => omega
          case rel => exact ⟨by first | rfl | go_num, by omega, HV.out.symm, rfl⟩
        · rw [if_neg hxp] at HV
          have t2 : ((x : Int) != (p : Int)) = true := by rw [bne_iff_ne]; omega
          have hd : decide ((p : Int) < (x : Int)) = decide (p < x) := by simp
          have HD := Lib.hid hd
          clear hin hxp hd
          go_wp2
          go_ret
          exact ⟨by rw [HV.out]; simp, rfl⟩
      · rw [if_neg hin] at HV
        have t1 : ((i : Int) == (n : Int)) = false := by rw [beq_eq_false_iff_ne]; omega
        by_cases hxp : x = 0
        · rw [if_pos hxp] at HV
          have t2 : ((x : Int) != 0) = false := by rw [bne_eq_false_iff_eq]; omega
          clear hin hxp
          go_wp2
          go_roundg i
          case measure => omega
          case rel => exact ⟨by first | rfl | go_num, by omega, HV.out.symm, rfl⟩
        · rw [if_neg hxp] at HV
          have t2 : ((x : Int) != 0) = true := by rw [bne_iff_ne]; omega
          clear hin hxp
          go_wp2
          go_ret
          exact ⟨by rw [HV.out]; simp, rfl⟩

def IsPost (X : List Nat) (w : World) (e : Ending) (w' : World) : Prop := ∃ g, e = .returned (.slice (some ⟨g, 0, none⟩) X.length X.length) ∧ w.heap.size ≤ g ∧ HasIs w' g X ∧ Below w.heap.size w w'

set_option maxHeartbeats 6400000 in
set_option maxRecDepth 100000 in
theorem by_any (A B : List Nat) (ga ca gb cb : Nat) (w : World) (hA : HasIs w ga A) (hB : HasIs w gb B) (hla : A.length ≤ 10) (hlb : B.length ≤ 10) (_hca : A.length ≤ ca) (_hcb : B.length ≤ cb) (ha : Upto A 2097152) (hb : Upto B 2097152) :
    Calls Tryd.prog 49 #[.slice (some ⟨ga, 0, none⟩) A.length ca, .slice (some ⟨gb, 0, none⟩) B.length cb] w (IsPost (byL A B) w) := by
  obtain ⟨i0, hi, hz0, hz1, hz2⟩ := info_partsI Tryd.infoInt
  have hmk := fun W => run_make (P := Tryd.prog) W 53 3 i0 (.int .i64 0) Tryd.underlying53 hi hz0 .i64 .i64 ((A.length : Int) + (B.length : Int) + 1) ((A.length : Int) + (B.length : Int) + 1) (by omega) (Int.le_refl _) (by rw [hz2]; omega) (by omega)
  have hnn : ((A.length : Int) + (B.length : Int) + 1).toNat = A.length + B.length + 1 := by omega
  rw [hz1, hnn, Nat.mul_one] at hmk
  have hup : ∀ i, i ≤ A.length → Upto (convAt A B i) 439804651110400 := fun i hi => (upto_conv ha hb i hi).mono (by
    have h1 : B.length * (2097152 * 2097152) ≤ 10 * (2097152 * 2097152) := Nat.mul_le_mul_right _ hlb
    have h2 : i * (B.length * (2097152 * 2097152)) ≤ 10 * (10 * (2097152 * 2097152)) := Nat.mul_le_mul (by omega) h1
    omega)
  have hrowu : ∀ i j, i < A.length → j ≤ B.length → Upto (rowAt (convAt A B i) i (A.getD i 0) B j) 483785116221440 := fun i j hi hj => (upto_row (hup i (by omega)) hb j (by rw [convAt_len]; omega)).mono (by
    have h1 : A.getD i 0 * 2097152 ≤ 2097152 * 2097152 := Nat.mul_le_mul_right _ (ha i)
    have h2 : j * (A.getD i 0 * 2097152) ≤ 10 * (2097152 * 2097152) := Nat.mul_le_mul (by omega) h1
    omega)
  have HA := Lib.hid hA
  have HB := Lib.hid hB
  have HUA := Lib.hid ha
  have HUB := Lib.hid hb
  have HUP := Lib.hid hup
  have HRU := Lib.hid hrowu
  have hla2 := hA.lt
  have hlb2 := hB.lt
  have hl1 := convAt_len A B
  have HCL := Lib.hid hl1
  unfold IsPost
  rw [byL_len]
  clear hA hB ha hb hup hrowu hnn hl1
  go_enter Tryd.func49, Tryd.ntmps49
  go_upto_region 2 with fail
  have hx0 : HasIs (w.alloc (.cells (madeCells #[Value.int .i64 0] (A.length + B.length + 1)) 3)) w.heap.size (convAt A B 0) := HasIs.zeros w (A.length + B.length + 1) 3
  have hb0 := (Below.refl w.heap.size w).alloc (Nat.le_refl _) (.cells (madeCells #[Value.int .i64 0] (A.length + B.length + 1)) 3)
  generalize w.alloc (.cells (madeCells #[Value.int .i64 0] (A.length + B.length + 1)) 3) = wx at *
  have HX0 := Lib.hid hx0
  have HB0 := Lib.hid hb0
  clear hx0 hb0 hmk
  go_upto_block 0 with fail
  go_cut [5] (fun v wy => v = .slice (some ⟨w.heap.size, 0, none⟩) (A.length + B.length + 1) (A.length + B.length + 1) ∧ HasIs wy w.heap.size (convAt A B A.length) ∧ Below w.heap.size w wy)
  case first =>
    go_wp2_with fail
    go_loopg [19] A.length (fun gg iv wr => ∃ i : Nat, i + gg = A.length ∧ iv = .int .i64 (i : Int) ∧ HasIs wr w.heap.size (convAt A B i) ∧ Below w.heap.size w wr)
    case atStart => exact ⟨0, by omega, rfl, HX0.out, HB0.out⟩
    case round =>
      obtain ⟨i, hig, rfl, hx, hb⟩ := hrel
      cases gk with
      | zero =>
        obtain rfl : i = A.length := by omega
        have HX := Lib.hid hx
        clear hx
        go_wp2_with fail
        go_meet
        exact ⟨rfl, HX.out, hb⟩
      | succ gg =>
        have hia : i < A.length := by omega
        have HX := Lib.hid hx
        have HB1 := Lib.hid hb
        clear hx hb
        go_wp2_with fail
        go_loopg [24] B.length (fun gj jv wj => ∃ j : Nat, j + gj = B.length ∧ jv = .int .i64 (j : Int) ∧ HasIs wj w.heap.size (rowAt (convAt A B i) i (A.getD i 0) B j) ∧ Below w.heap.size w wj)
        case atStart => exact ⟨0, by omega, rfl, HX.out, HB1.out⟩
        case round =>
          obtain ⟨j, hjg, rfl, hx, hb⟩ := hrel
          cases gk with
          | zero =>
            obtain rfl : j = B.length := by omega
            have HX2 := Lib.hid hx
            clear hx
            go_wp2_with fail
            go_roundg gg
            case measure => omega
            case rel => exact ⟨i + 1, by omega, by go_num, HX2.out, hb⟩
          | succ gj =>
            have hjb : j < B.length := by omega
            have hrl : (rowAt (convAt A B i) i (A.getD i 0) B j).length = A.length + B.length + 1 := by rw [rowAt_len, HCL.out]
            have hc1 := hx.cell (i + j) (by omega)
            have hf1 := hx.free (i + j)
            have hc2 := (HA.out.below hb hla2).cell i hia
            have hc3 := (HB.out.below hb hlb2).cell j hjb
            have hu1 := HRU.out i j hia (by omega) (i + j)
            have hu2 := HUA.out i
            have hu3 := HUB.out j
            have hnx : rowAt (convAt A B i) i (A.getD i 0) B (j + 1) = (rowAt (convAt A B i) i (A.getD i 0) B j).set (i + j) ((rowAt (convAt A B i) i (A.getD i 0) B j).getD (i + j) 0 + A.getD i 0 * B.getD j 0) := rfl
            have hset := fun v => hx.set (i + j) v (by omega)
            have HNX := Lib.hid hnx
            have HST := Lib.hid hset
            clear hx hnx hset hrl
            generalize rowAt (convAt A B i) i (A.getD i 0) B j = X at *
            generalize X.getD (i + j) 0 = x at *
            generalize A.getD i 0 = a at *
            generalize B.getD j 0 = b at *
            have hab : a * b ≤ 2097152 * 2097152 := Nat.mul_le_mul hu2 hu3
            have q1 : IntKind.i64.wrap ((a : Int) * (b : Int)) = ((a * b : Nat) : Int) := by rw [← Int.natCast_mul]; exact IntWalk.i64_in _ (by omega)
            have q2 : IntKind.i64.wrap ((x : Int) + ((a * b : Nat) : Int)) = ((x + a * b : Nat) : Int) := by rw [← Int.natCast_add]; exact IntWalk.i64_in _ (by omega)
            have q3 : IntKind.i64.wrap ((i : Int) + (j : Int)) = (i : Int) + (j : Int) := IntWalk.i64_in _ (by omega)
            have q4 : ((i : Int) + (j : Int)).toNat = i + j := by omega
            have q5 : (0 : Int) ≤ (i : Int) + (j : Int) := by omega
            have q6 : (i : Int) + (j : Int) < (A.length : Int) + (B.length : Int) + 1 := by omega
            have HQ := Lib.hid (show wrap64 ((x : Int) + (a : Int) * (b : Int)) = ((x + a * b : Nat) : Int) by rw [← Int.natCast_mul, ← Int.natCast_add]; exact IntWalk.wrap64_in _ (by omega))
            clear hu1 hu2 hu3 hab
            go_upto_region 8 with fail
            go_region
            all_goals
              go_wp2
              go_roundg gj
              case measure => omega
              case rel => exact ⟨j + 1, by omega, by go_num, by rw [HNX.out, HQ.out]; exact (HST.out _).drew, (hb.setCell (Nat.le_refl _) _).drew⟩
  case rest =>
    obtain ⟨rfl, hx, hb⟩ := hcut
    have hN := HCL.out A.length
    have hu := carAt_upto (HUP.out A.length (Nat.le_refl _)) (by omega)
    have hby : byL A B = (carAt (convAt A B A.length) (A.length + B.length + 1)).1 := by rw [byL, hN]
    have HBY := Lib.hid hby
    have HU := Lib.hid hu
    have hcl := fun i => (carAt_len (convAt A B A.length) i).trans hN
    have HCAR := Lib.hid hcl
    have hcr : ∀ i, carAt (convAt A B A.length) (i + 1) = ((carAt (convAt A B A.length) i).1.set i (((carAt (convAt A B A.length) i).2 + (carAt (convAt A B A.length) i).1.getD i 0) % 65536), ((carAt (convAt A B A.length) i).2 + (carAt (convAt A B A.length) i).1.getD i 0) / 65536) := fun i => rfl
    have HCR := Lib.hid hcr
    have hx1 : HasIs wc w.heap.size (carAt (convAt A B A.length) 0).1 := hx
    have hr0 : (carAt (convAt A B A.length) 0).2 = 0 := rfl
    have HR0 := Lib.hid hr0
    clear hN hu hby hcl hcr hx hr0 HX0 HB0 HUP HRU HUA HUB HCL HA HB
    generalize carAt (convAt A B A.length) = K at *
    go_wp2_with fail
    go_loopg [8, 52] (A.length + B.length + 1) (fun gg rv iv wr => ∃ i : Nat, i + gg = A.length + B.length + 1 ∧ iv = .int .i64 (i : Int) ∧ rv = .int .i64 ((K i).2 : Int) ∧ HasIs wr w.heap.size (K i).1 ∧ Below w.heap.size w wr)
    case atStart => exact ⟨0, by omega, rfl, by rw [HR0.out]; rfl, hx1, hb⟩
    case round =>
      obtain ⟨i, hig, rfl, rfl, hx, hb⟩ := hrel
      cases gk with
      | zero =>
        obtain rfl : i = A.length + B.length + 1 := by omega
        have HX := Lib.hid hx
        clear hx hx1
        go_wp2_with fail
        go_ret
        exact ⟨w.heap.size, rfl, Nat.le_refl _, by rw [HBY.out]; exact HX.out, hb⟩
      | succ gg =>
        have hiN : i < A.length + B.length + 1 := by omega
        have hl := HCAR.out i
        have hc := hx.cell i (by omega)
        have hf := hx.free i
        obtain ⟨u1, u2⟩ := HU.out i
        have u1 := u1 i
        have hnx := HCR.out i
        have hst := hx.set i (((K i).2 + (K i).1.getD i 0) % 65536) (by omega)
        generalize (K i).1.getD i 0 = x at *
        generalize (K i).2 = r at *
        obtain ⟨T, hT⟩ : ∃ T, r + x = T := ⟨_, rfl⟩
        have hTs : (r : Int) + (x : Int) = (T : Int) := by omega
        rw [hT] at hnx hst
        rw [show ((T % 65536 : Nat) : Int) = (T : Int) % 65536 from Int.natCast_emod _ _] at hst
        have hd : ((T / 65536 : Nat) : Int) = (T : Int) / 65536 := Int.natCast_ediv _ _
        have HST := Lib.hid hst
        have HNX := Lib.hid hnx
        have HD := Lib.hid hd
        have hT0 : (0 : Int) ≤ (T : Int) := by omega
        have hT9 : (T : Int) ≤ 900000000000000 := by omega
        clear hx hnx hst hd hT hl hx1 u1 u2
        go_wp2_with fail
        go_roundg gg
        case measure => omega
        case rel => exact ⟨i + 1, by omega, by go_num, by rw [HNX.out]; show _ = Value.int .i64 ((T / 65536 : Nat) : Int); rw [HD.out], by rw [HNX.out]; exact HST.out, hb.setCell (Nat.le_refl _) _⟩
end Go.Proofs.YtmmpnkcfekhkhaaDoor
