/- The contracts of package seal's rounds. -/
import Derived.Test.YtmmpnkcfekhkhaaDoorShaA
import Derived.Test.YtmmpnkcfekhkhaaDoorWords
import Derived.Test.YtmmpnkcfekhkhaaDoorMath3
import Derived.Deep.RegionHeld3
import Derived.Deep.DeepCutAuto
import Derived.StillTailTactics
namespace Go.Proofs.YtmmpnkcfekhkhaaDoor
open Go.RowKit

theorem zeros64 : (#[Value.int .u32 0] : Array Value).toList ++ [] = [u32V 0] := rfl

set_option maxHeartbeats 800000 in
set_option maxRecDepth 100000 in
theorem spread_any (s : ByteArray) (w : World) (hs : s.size = 64) :
    Calls Tryd.prog 57 #[.string s] w fun e w' => e = .returned (.agg (wordsV (schedN s.data.toList 64)).toArray) ∧ Below w.heap.size w w' := by
  have hs1 : 64 ≤ s.size := by omega
  have hs2 : s.size ≤ 64 := by omega
  have HS := Lib.hid hs
  clear hs
  go_enter Tryd.func57, Tryd.ntmps57
  go_wp2
  go_loopw [5] (fun i wr => ∃ t : Nat, t ≤ 64 ∧ i = .int .i64 t ∧ IsRow wr (w.heap.size + 1) 71 (wordsV (schedN s.data.toList t ++ List.replicate (64 - t) 0)) ∧ IsRow wr w.heap.size 71 (wordsV (List.replicate 64 0)) ∧ Below w.heap.size w wr) (fun i _ => 64 - (intOf i).toNat)
  case atStart =>
    refine ⟨0, by omega, rfl, ?_, ?_, ?_⟩
    · have h := IsRow.new (w.alloc (.cells (wordsV (List.replicate 64 0)).toArray 71)) 71 (wordsV (List.replicate 64 0))
      rw [World.size_alloc] at h
      exact h
    · exact (IsRow.new w _ (wordsV (List.replicate 64 0))).alloc _
    · exact ((Below.refl _ _).alloc (Nat.le_refl _) _).alloc (by simp) _
  case round =>
    obtain ⟨t, ht, rfl, hrow, hres, hb⟩ := hrel
    have hlen := schedN_len s.data.toList t
    by_cases h64 : t < 64
    · have hfill := words_fill (schedN s.data.toList t) (if t < 16 then wordN s.data.toList t else nextN (schedN s.data.toList t) t) 64 t hlen h64
      have hsch : schedN s.data.toList (t + 1) = schedN s.data.toList t ++ [if t < 16 then wordN s.data.toList t else nextN (schedN s.data.toList t) t] := rfl
      rw [← hsch] at hfill
      by_cases h16 : t < 16
      · rw [if_pos h16] at hfill
        have hw : wordN (s.extract (4 * t) s.size).data.toList 0 = wordN s.data.toList t := by
          rw [extract_list, List.take_of_length_le (by simp)]
          exact accN_drop _ _ 4
        have hwr := fun W => readWord_any (s.extract (4 * t) s.size) W (by simp [ByteArray.size_extract]; omega) (by unfold maxLen; simp [ByteArray.size_extract]; omega)
        rw [hw] at hwr
        have hc := hrow.cell t (.int .u32 ((((schedN s.data.toList t ++ List.replicate (64 - t) 0).getD t 0) : Nat) : Int)) (word_at _ t (by simp [hlen]; omega))
        have hf := hrow.free t
        have HF := Lib.hid hfill
        have HW := Lib.hid hwr
        clear hfill hwr hw hsch hlen
        go_wp2_with ((with_reducible refine (HW.out _).mono ?_); rintro e w2 ⟨rfl, rfl⟩)
        go_roundw
        case rel => exact ⟨t + 1, by omega, by go_num, by rw [← HF.out]; exact hrow.set _ _, hres.other (Nat.succ_ne_self _) _, hb.setCell (Nat.le_succ _) _⟩
        case measure => simp [intOf]; omega
      · rw [if_neg h16] at hfill
        have hX : ∀ i, i < t → (schedN s.data.toList t ++ List.replicate (64 - t) 0).getD i 0 = (schedN s.data.toList t).getD i 0 := fun i hi => getD_app_left _ _ i (by omega)
        have hlt := schedN_lt s.data.toList t
        have hA : ∀ i, i < t → wr.cell? ⟨w.heap.size + 1, i, none⟩ = some (.int .u32 (((schedN s.data.toList t).getD i 0 : Nat) : Int)) := fun i hi => by
          rw [← hX i hi]; exact hrow.cell i _ (word_at _ i (by simp [hlen]; omega))
        have c2 := hA (t - 2) (by omega)
        have c7 := hA (t - 7) (by omega)
        have c15 := hA (t - 15) (by omega)
        have c16 := hA (t - 16) (by omega)
        have l2 := getD_lt hlt (t - 2)
        have l7 := getD_lt hlt (t - 7)
        have l15 := getD_lt hlt (t - 15)
        have l16 := getD_lt hlt (t - 16)
        have hnx : nextN (schedN s.data.toList t) t = add2 (add2 (add2 (sg1 ((schedN s.data.toList t).getD (t - 2) 0)) ((schedN s.data.toList t).getD (t - 7) 0)) (sg0 ((schedN s.data.toList t).getD (t - 15) 0))) ((schedN s.data.toList t).getD (t - 16) 0) := rfl
        have hc := hrow.cell t (.int .u32 ((((schedN s.data.toList t ++ List.replicate (64 - t) 0).getD t 0) : Nat) : Int)) (word_at _ t (by simp [hlen]; omega))
        have hf := hrow.free t
        rw [hnx] at hfill
        have HF := Lib.hid hfill
        clear hfill hnx hX hA hlt hsch hlen
        generalize (schedN s.data.toList t).getD (t - 2) 0 = x2 at *
        generalize (schedN s.data.toList t).getD (t - 7) 0 = x7 at *
        generalize (schedN s.data.toList t).getD (t - 15) 0 = x15 at *
        generalize (schedN s.data.toList t).getD (t - 16) 0 = x16 at *
        have b2 := sg1_lt l2
        have b15 := sg0_lt l15
        have A2 := u32_add
        have w2 : IntKind.i64.wrap ((t : Int) - 2) = (t : Int) - 2 := IntWalk.i64_in _ (by omega)
        have w7 : IntKind.i64.wrap ((t : Int) - 7) = (t : Int) - 7 := IntWalk.i64_in _ (by omega)
        have w15 : IntKind.i64.wrap ((t : Int) - 15) = (t : Int) - 15 := IntWalk.i64_in _ (by omega)
        have w16 : IntKind.i64.wrap ((t : Int) - 16) = (t : Int) - 16 := IntWalk.i64_in _ (by omega)
        have n2 : ((t : Int) - 2).toNat = t - 2 := by omega
        have n7 : ((t : Int) - 7).toNat = t - 7 := by omega
        have n15 : ((t : Int) - 15).toNat = t - 15 := by omega
        have n16 : ((t : Int) - 16).toNat = t - 16 := by omega
        have g2 : (2 : Int) ≤ t := by omega
        have g7 : (7 : Int) ≤ t := by omega
        have g15 : (15 : Int) ≤ t := by omega
        have m2 : (t : Int) - 2 < 64 := by omega
        have m7 : (t : Int) - 7 < 64 := by omega
        have m15 : (t : Int) - 15 < 64 := by omega
        have m16 : (t : Int) - 16 < 64 := by omega
        go_wp2_with fail
        go_still_tail 23, (by kernel_rfl)
        repeat (first | still_call ((small1_any x2 _ l2).mono fun e w' h => ⟨h.1, h.2.symm⟩) | still_call ((small0_any x15 _ l15).mono fun e w' h => ⟨h.1, h.2.symm⟩) | still_step)
        refine wpStill_nil ?_
        change wpList _ _ _ _ _ wr.drew
        have hrow' : IsRow wr.drew _ _ _ := hrow
        have hres' : IsRow wr.drew _ _ _ := hres
        have hc' : wr.drew.cell? _ = _ := hc
        have hf' : wr.drew.frozen? _ = _ := hf
        have hb' : Below w.heap.size w wr.drew := below_drewN hb 1
        clear hrow hres hc hf hb c2 c7 c15 c16
        generalize wr.drew = w2 at *
        go_wp2
        go_roundw
        case rel => exact ⟨t + 1, by omega, by go_num, by rw [← HF.out]; exact hrow'.set _ _, hres'.other (Nat.succ_ne_self _) _, hb'.setCell (Nat.le_succ _) _⟩
        case measure => simp [intOf]; omega
    · have ht64 : t = 64 := by omega
      have hend : Hid (Ending.returned (.agg (wordsV (schedN s.data.toList 64)).toArray) = Ending.returned (.agg (wordsV (schedN s.data.toList t)).toArray)) := Lib.hid (by rw [ht64])
      generalize schedN s.data.toList t = S at *
      have hS : S.length = 64 := by omega
      have hV : (wordsV S).toArray.size = 64 := by rw [List.size_toArray, wordsV_len, hS]
      have hone : (wordsV S).toArray.all (·.oneCell') = true := by simp [wordsV, u32V, Value.oneCell']
      have hk : wordsV (S ++ List.replicate (64 - t) 0) = wordsV S := by rw [show 64 - t = 0 by omega]; simp
      rw [hk] at hrow
      have hi71 : (Tryd.prog.info? 71).map (·.size) = some 64 := by kernel_rfl
      have hbl : Below w.heap.size w (wr.setRow w.heap.size (wordsV S).toArray) := below_setRow hb (Nat.le_refl _) hb.size _
      have hrow2 : (wr.setRow w.heap.size (wordsV S).toArray).heap[w.heap.size]? = _ := setRow_heap wr w.heap.size _ (wordsV S).toArray _ _ hres
      have hV71 : (Tryd.prog.info? 71).map (·.size) = some (wordsV S).toArray.size := by rw [hi71, hV]
      have hold : (wordsV (List.replicate 64 0)).toArray.size = (wordsV S).toArray.size := by rw [hV]; simp [wordsV]
      have h64' : 64 ≤ t := by omega
      clear hk hS hi71 hV hlen h64 ht64 ht
      unfold IsRow at hrow hres
      generalize (wordsV S).toArray = V at *
      go_upto_region 9 with fail
      go_wp2_with (first | (refine wpList_load_row rfl 71 _ rfl (w.heap.size + 1) rfl _ _ _ _ hrow Tryd.underlying71 rfl hV71 ?_) | (refine wpList_store_row rfl 71 _ _ rfl w.heap.size V rfl rfl _ _ hres hV71 hold hone ?_))
      refine bodyPost_ret (v := .agg V) ?_ rfl ⟨hend.out.symm, hbl⟩
      exact results_cell_row rfl _ _ w.heap.size _ _ _ _ rfl hrow2 Tryd.underlying71 rfl hV71
end Go.Proofs.YtmmpnkcfekhkhaaDoor
