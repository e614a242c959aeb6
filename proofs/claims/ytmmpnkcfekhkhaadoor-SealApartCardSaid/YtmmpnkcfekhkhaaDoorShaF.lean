/- The contracts of package seal's Mark, and of the laws' guard. -/
import Derived.Test.YtmmpnkcfekhkhaaDoorShaE
import Derived.Deep.RegionLaw
namespace Go.Proofs.YtmmpnkcfekhkhaaDoor
open Go.RowKit

def digits : ByteArray := ⟨#[48, 49, 50, 51, 52, 53, 54, 55, 56, 57, 97, 98, 99, 100, 101, 102]⟩
theorem hex_index (d : Nat) (hd : d < 16) (w : World) :
    (Instr.index 9 (.string ⟨#[48, 49, 50, 51, 52, 53, 54, 55, 56, 57, 97, 98, 99, 100, 101, 102]⟩) (.int .u8 (d : Int))).run Tryd.prog w = .ok (.int .u8 ((hexD d).toNat : Int)) w := by
  rw [run_index_string _ _ _ _ _ Tryd.underlying9, dif_pos ⟨by omega, by show (d : Int) < 16; omega⟩]
  match d, hd with
  | 0, _ => rfl
  | 1, _ => rfl
  | 2, _ => rfl
  | 3, _ => rfl
  | 4, _ => rfl
  | 5, _ => rfl
  | 6, _ => rfl
  | 7, _ => rfl
  | 8, _ => rfl
  | 9, _ => rfl
  | 10, _ => rfl
  | 11, _ => rfl
  | 12, _ => rfl
  | 13, _ => rfl
  | 14, _ => rfl
  | 15, _ => rfl
  | n + 16, hd => exact absurd hd (by omega)
theorem and15 (x : Nat) (h : x < 256) : bits .and .u8 (x : Int) 15 = ((x % 16 : Nat) : Int) := by
  have := u8_and_nat x 15 (by omega) (by omega)
  rw [show (15 : Nat) = 2 ^ 4 - 1 by rfl, Nat.and_two_pow_sub_one_eq_mod] at this
  exact this

set_option maxHeartbeats 1600000 in
set_option maxRecDepth 100000 in
theorem mark_any (s : ByteArray) (w : World) (hs : s.size ≤ 400000000) (hT : Tabs w) :
    Calls Tryd.prog 12 #[.string s] w fun e w' => e = .returned (.string ⟨(markL s.data.toList).toArray⟩) ∧ Below w.heap.size w w' := by
  obtain ⟨i0, hi, hz0, hz1, hz2⟩ := info_parts Tryd.infoB
  have hsum := fun W hW => sum_any s W hs hW
  have hml := markL_len s.data.toList
  have hmd : markL s.data.toList = ((shaL s.data.toList).take 8).flatMap fun b => [hexD (b.toNat / 16), hexD (b.toNat % 16)] := rfl
  obtain ⟨S, hS⟩ : ∃ S : ByteArray, S = ⟨(shaL s.data.toList).toArray⟩ := ⟨_, rfl⟩
  have hS32 : S.size = 32 := by rw [hS]; show (shaL s.data.toList).toArray.size = 32; rw [List.size_toArray, shaL_len]
  have hSl : S.data.toList = shaL s.data.toList := by rw [hS]
  rw [← hS] at hsum
  rw [← hSl] at hmd
  have HSU := Lib.hid hsum
  have HMD := Lib.hid hmd
  have HML := Lib.hid hml
  have HT := Lib.hid hT
  have hs1 : 32 ≤ S.size := by omega
  have hs2 : S.size ≤ 32 := by omega
  clear hsum hml hmd hS hSl hS32
  go_enter Tryd.func12, Tryd.ntmps12
  go_wp2_with ((with_reducible refine (HSU.out _ HT.out).mono ?_); rintro e w1 ⟨rfl, hb1⟩)
  go_loopw [4, 8] (fun v i wr => ∃ k : Nat, k ≤ 8 ∧ i = .int .i64 k ∧ OwnsM wr w.heap.size 5 1 v (2 * k) (bytesV ((S.data.toList.take k).flatMap fun b => [hexD (b.toNat / 16), hexD (b.toNat % 16)])) ∧ Below w.heap.size w wr) (fun _ i _ => 8 - (intOf i).toNat)
  case atStart => exact ⟨0, by omega, rfl, OwnsM.nil _ _ _ _, hb1⟩
  case round =>
    clear hb1
    obtain ⟨k, hk, rfl, hown, hB⟩ := hrel
    by_cases hlt : k < 8
    · have hkS : k < S.size := by omega
      have htk : (S.data.toList.take (k + 1)).flatMap (fun b => [hexD (b.toNat / 16), hexD (b.toNat % 16)]) = (S.data.toList.take k).flatMap (fun b => [hexD (b.toNat / 16), hexD (b.toNat % 16)]) ++ [hexD (S[k].toNat / 16), hexD (S[k].toNat % 16)] := by
        rw [List.take_succ_eq_append_getElem (by simpa using hkS), List.flatMap_append]
        simp; exact ⟨rfl, rfl⟩
      have HTK := Lib.hid htk
      have hx := S[k].toNat_lt
      have h15 := and15 S[k].toNat hx
      have d1 := hex_index (S[k].toNat / 16) (by omega)
      have d2 := hex_index (S[k].toNat % 16) (by omega)
      rw [show ((S[k].toNat / 16 : Nat) : Int) = (S[k].toNat : Int) / 16 from rfl] at d1
      obtain ⟨m, hm⟩ : ∃ m, m = S[k].toNat % 16 := ⟨_, rfl⟩
      rw [← hm] at h15 d2
      have HMM := Lib.hid hm
      clear hm
      have hs := hB.size
      clear htk
      go_wp2_with fail
      go_region_law (refine step_pushM wr.drew rfl (.tmp 11) (.tmp 22) 41 rfl w.heap.size 5 i0 (.int .u8 0) 1 Tryd.underlying41 hi hz0 hz1 hz2 rfl u4 (2 * k) (bytesV ((S.data.toList.take k).flatMap fun b => [hexD (b.toNat / 16), hexD (b.toNat % 16)])) (by simp [Act.eval, Act.put]) hown.drew [.int .u8 ((hexD (S[k].toNat / 16)).toNat : Int), .int .u8 ((hexD m).toNat : Int)] wr.heap.size (by simp [Act.eval, Act.put]) rfl (by simp [Value.oneCell']) (by unfold maxLen; simp; omega) (by simp; omega) hs ?_; intro v2 w2 hown2 hg2)
      all_goals
       have hg3 : wr.grownBy w2 u4.ownBlock := ⟨hg2.os, hg2.tape, hg2.output, hg2.size, hg2.block⟩
       go_wp2
       go_roundw
       case rel => exact ⟨k + 1, by omega, by go_num, by rw [HTK.out, bytesV_app, ← HMM.out]; exact hown2, hB.grown hg3 hs (fun k hk => (hown.lt k hk).1)⟩
       case measure => simp [intOf]; omega
    · have hall : (S.data.toList.take k).flatMap (fun b => [hexD (b.toNat / 16), hexD (b.toNat % 16)]) = markL s.data.toList := by rw [HMD.out, show k = 8 by omega]
      have hlen : 2 * k = (markL s.data.toList).length := by rw [HML.out]; omega
      rw [hall, hlen] at hown
      have hcv := OwnsM.str (P := Tryd.prog) (src := 41) (dst := 9) hown Tryd.underlying41 Tryd.underlying5 Tryd.underlying9
      clear hall hlen hown
      go_wp2
      go_ret
      exact ⟨rfl, hB⟩

theorem mark_known (w : World) (hT : Tabs w) : Calls Tryd.prog 12 #[.string ⟨#[97, 98, 99]⟩] w fun e w' => e = .returned (.string ⟨#[98, 97, 55, 56, 49, 54, 98, 102, 56, 102, 48, 49, 99, 102, 101, 97]⟩) ∧ Below w.heap.size w w' := by
  have h := mark_any ⟨#[97, 98, 99]⟩ w (by decide) hT
  simp only [] at h
  rw [mark_abc] at h
  exact h
theorem alive_any (w : World) (hT : Tabs w) : Calls Tryd.prog 9 #[] w fun e w' => e = .returned (.bool true) ∧ Below w.heap.size w w' := by
  go_enter Tryd.func9, Tryd.ntmps9
  go_wp2_with ((with_reducible refine (mark_known _ hT).mono ?_); rintro e w2 ⟨rfl, hb2⟩)
  go_ret
  exact ⟨rfl, hb2⟩
end Go.Proofs.YtmmpnkcfekhkhaaDoor
