/- The contract of the document's own Text of layer 3. -/
import Derived.Test.YtdlhmjdjoadioabGreatDoorMg10
import Derived.Test.YtdlhmjdjoadioabGreatDoorMg13
namespace Go.Proofs.YtdlhmjdjoadioabGreatDoor
open Go.RowKit

set_option maxHeartbeats 3200000 in
set_option maxRecDepth 100000 in
theorem rText_any (a : Option Addr) (c : Nat) (ls : List Lab) (w : World) (h : HasLabs w a c ls) (hr : rightC ls = true) :
    Calls Tryz.prog 34 #[.slice a ls.length c] w fun e w' => e = .returned (.string (textS ls)) ∧ Below w.heap.size w w' := by
  obtain ⟨i0, hi, hz0, hz1, hz2⟩ := info_partsB Tryz.infoB
  have HL := Lib.hid h
  have HR := Lib.hid hr
  have h2 := h.2.1
  have h1 := h.1
  unfold maxLen at h2
  clear h hr
  go_enter Tryz.func34, Tryz.ntmps34
  have hown1 := OwnB.made 5 w [123] (by simp)
  have hbA : Below w.heap.size w (w.alloc (.cells (bytesV [123]).toArray 5)) := (Below.refl _ _).alloc (Nat.le_refl _) _
  have hzA := hbA.size
  go_wp2_with fail
  go_loopw [3, 10, 4] (fun v i _ wr => ∃ k : Nat, k ≤ ls.length ∧ i = .int .i64 k ∧ OwnB 5 wr w.heap.size v (123 :: bodyT (ls.take k)) ∧ Below w.heap.size w wr ∧ w.heap.size ≤ wr.heap.size) (fun _ i _ _ => ls.length - (intOf i).toNat)
  case atStart => exact ⟨0, Nat.zero_le _, rfl, hown1, hbA, hzA⟩
  case round =>
    clear hown1 hbA hzA
    obtain ⟨k, hk, rfl, hown, hb, hz⟩ := hrel
    have hlen0 := bodyT_le ls HR.out k
    have hlen : (123 :: bodyT (ls.take k)).length ≤ 1600 := by simp; omega
    obtain ⟨L, hL⟩ : ∃ L, 123 :: bodyT (ls.take k) = L := ⟨_, rfl⟩
    rw [hL] at hown hlen
    by_cases hkl : k < ls.length
    · have hls := HL.out.call hb
      obtain ⟨_, _, _, h4⟩ := hls
      obtain ⟨b, off, rfl, hbb, hcell⟩ : ∃ b off, a = some ⟨b, off, none⟩ ∧ b < wr.heap.size ∧ ∀ i (h : i < ls.length), wr.cell? ⟨b, off + i * 2, none⟩ = some (.string ls[i].1) ∧ wr.cell? ⟨b, off + i * 2 + 1, none⟩ = some (.string ls[i].2) := by
        rcases h4 with rfl | h4
        · exact absurd hkl (by simp)
        · exact h4
      obtain ⟨hc1, hc2⟩ := hcell k hkl
      obtain ⟨hs1, hs2⟩ := lab_sizes (((rightC_iff ls).1 HR.out).2.1 _ (List.getElem_mem hkl))
      have htk := bodyT_take ls k hkl
      obtain ⟨X, hX⟩ : ∃ X, ls[k] = X := ⟨_, rfl⟩
      rw [hX] at hc1 hc2 hs1 hs2 htk
      have HTK := Lib.hid htk
      clear hX htk hcell
      have hbx := Blk.new wr 60 #[.string X.1, .string X.2]
      have hownW := hown.alloc (.cells #[.string X.1, .string X.2] 60)
      have hbW := hb.alloc hz (.cells #[.string X.1, .string X.2] 60)
      have hzW := hbW.size
      clear hown hb
      go_upto_region 5 with fail
      generalize wr.alloc (.cells #[.string X.1, .string X.2] 60) = W at *
      generalize wr.heap.size = B at *
      rcases Nat.eq_zero_or_pos k with hk0 | hk1
      · have e0 : ∃ M, M = L ∧ 123 :: bodyT (ls.take (k + 1)) = M ++ labT X ∧ M.length ≤ 1602 := ⟨_, rfl, by rw [HTK.out, ← hL, if_pos hk0]; simp, by omega⟩
        obtain ⟨M, hM, hM2, hMl⟩ := e0
        have HM : Hid (M ++ labT X = 123 :: bodyT (ls.take (k + 1))) := Lib.hid hM2.symm
        have hown := hownW
        rw [← hM] at hown
        have hb := hbW
        have hz := hzW
        clear hM hM2 hownW hbW hzW hL hlen
        have hk2 : (0 < k) = False := by simp [hk0]
        have hk1 : decide (0 < k) = false := by simp [hk0]
        clear hk0
        have q1 := hbx.cell 0
        have q2 := hbx.cell 1
        have hbs := fun (V : World) => run_bytes_of_string (P := Tryz.prog) V 9 66 5 X.1 Tryz.underlying9 Tryz.underlying66 Tryz.underlying5
        have hownC := fun o => hown.drew.alloc o
        have hbC := fun o => hb.drew.alloc hz o
        have hzC := fun o => (hbC o).size
        have hbxC := fun o => hbx.drew.alloc o
        clear hown hb hz hbx
        go_wp2_with (at_builtin; refine (wpList_appS _ rfl _ _ 66 66 rfl w.heap.size 5 5 i0 (.int .u8 0) Tryz.underlying66 Tryz.underlying66 hi hz0 hz1 hz2 rfl _ M X.1.data.toList rfl (hownC _) W.heap.size X.1.size _ (by simp) (HasBytes.of_string _ _ _ _ _) rfl (by simp; omega) (hzC _) ?_))
        intro v2 w2 hown2 hg2
        have hb2 : Below w.heap.size w w2 := (hownC _).grown (hbC _) (hzC _) hg2
        have hz2' := Nat.le_trans (hzC _) hg2.size
        have hbx2 := (hbxC _).pushB (hownC _) (by decide) hg2
        have hl2 : (M ++ X.1.data.toList).length ≤ 1700 := by simp; omega
        obtain ⟨M2, HM2⟩ : ∃ M2, Hid (M ++ X.1.data.toList = M2) := ⟨_, Lib.hid rfl⟩
        rw [HM2.out] at hown2 hl2
        clear hownC hbC hzC hbxC hg2 q1 q2 hbs
        go_wp2_with (at_builtin; refine (wpList_pushB w2 rfl _ _ 66 rfl w.heap.size 5 i0 (.int .u8 0) Tryz.underlying66 hi hz0 hz1 hz2 rfl _ M2 [61, 34] rfl (by assumption) [.int .u8 61, .int .u8 34] 2 rfl rfl rfl (by simp; omega) (by assumption) ?_))
        intro v3 w3 hown3 hg3
        have hb3 : Below w.heap.size w w3 := hown2.grown hb2 hz2' hg3
        have hz3' := Nat.le_trans hz2' hg3.size
        have hbx3 := hbx2.pushB hown2 (by decide) hg3
        have hl3 : (M2 ++ [61, 34]).length ≤ 1702 := by rw [List.length_append]; simp only [List.length_cons, List.length_nil]; omega
        obtain ⟨M3, HM3⟩ : ∃ M3, Hid (M2 ++ [61, 34] = M3) := ⟨_, Lib.hid rfl⟩
        rw [HM3.out] at hown3 hl3
        clear hown2 hg3 hb2 hz2' hbx2
        go_wp2
        go_loopw [3, 6] (fun u i wr => ∃ j : Nat, j ≤ X.2.size ∧ i = .int .i64 j ∧ OwnB 5 wr w.heap.size u (M3 ++ quoteL (X.2.data.toList.take j)) ∧ Blk wr B 60 #[.string X.1, .string X.2] ∧ Below w.heap.size w wr ∧ w.heap.size ≤ wr.heap.size) (fun _ i _ => X.2.size - (intOf i).toNat)
        case atStart => exact ⟨0, Nat.zero_le _, rfl, by simpa [quoteL] using hown3, hbx3, hb3, hz3'⟩
        case round =>
          clear hown3 hb3 hz3' hbx3
          obtain ⟨j, hj, rfl, hown, hbx, hb, hz⟩ := hrel
          have q1 := hbx.cell 0
          have q2 := hbx.cell 1
          have hql := quoteL_len (X.2.data.toList.take j)
          have htl : (X.2.data.toList.take j).length ≤ j := List.length_take_le _ _
          have hlen : (M3 ++ quoteL (X.2.data.toList.take j)).length ≤ 2000 := by simp only [List.length_append]; omega
          by_cases hks : j < X.2.size
          · have hq := quoteL_take X.2 j hks
            obtain ⟨L, hL⟩ : ∃ L, M3 ++ quoteL (X.2.data.toList.take j) = L := ⟨_, rfl⟩
            rw [hL] at hown hlen
            by_cases h34 : X.2[j] = 34 ∨ X.2[j] = 92
            · rw [if_pos h34] at hq
              have h34b : X.2[j].toNat = 34 ∨ X.2[j].toNat = 92 := by rw [is34_iff, is92_iff] at h34; exact h34
              have HQ : Hid (L ++ [92] ++ [X.2[j]] = M3 ++ quoteL (X.2.data.toList.take (j + 1))) := Lib.hid (by rw [hq, ← hL]; simp)
              clear hq h34 hql htl hL
              have t1 : ((X.2[j].toNat : Int) == 34) = true ∨ ((X.2[j].toNat : Int) == 34) = false ∧ ((X.2[j].toNat : Int) == 92) = true := by
                rcases h34b with h | h
                · exact .inl (by rw [beq_iff_eq]; omega)
                · exact .inr ⟨by rw [beq_eq_false_iff_ne]; omega, by rw [beq_iff_eq]; omega⟩
              clear h34b
              rcases t1 with t1 | ⟨t1, t2⟩
              all_goals
                go_wp2_with (at_builtin; refine (wpList_pushB _ rfl _ _ 66 rfl w.heap.size 5 i0 (.int .u8 0) Tryz.underlying66 hi hz0 hz1 hz2 rfl _ L [92] rfl (by assumption) [.int .u8 92] 1 rfl rfl rfl (by simp; omega) (by assumption) ?_))
                intro v4 w4 hown4 hg4
                have hb4 : Below w.heap.size w w4 := hown.grown hb hz hg4
                have hz4 := Nat.le_trans hz hg4.size
                have hbx4 := hbx.pushB hown (by decide) hg4
                have hlen2 : (L ++ [92]).length ≤ 2001 := by simp; omega
                clear hown hg4 hb hz hbx q1 q2
                have q1 := hbx4.cell 0
                have q2 := hbx4.cell 1
                go_wp2_with (at_builtin; refine (wpList_pushB w4 rfl _ _ 66 rfl w.heap.size 5 i0 (.int .u8 0) Tryz.underlying66 hi hz0 hz1 hz2 rfl _ (L ++ [92]) [X.2[j]] rfl (by assumption) [.int .u8 (X.2[j].toNat : Int)] 1 rfl rfl rfl (by simp; omega) (by assumption) ?_))
                intro v5 w5 hown5 hg5
                have hb5 : Below w.heap.size w w5 := hown4.grown hb4 hz4 hg5
                have hz5 := Nat.le_trans hz4 hg5.size
                have hbx5 := hbx4.pushB hown4 (by decide) hg5
                clear hown4 hg5 hb4 hz4 hbx4 q1 q2
                go_wp2
                go_roundw
                case rel => exact ⟨j + 1, by omega, by go_num, by rw [← HQ.out]; simpa using hown5, hbx5, hb5, hz5⟩
                case measure => simp [intOf]; omega
            · rw [if_neg h34] at hq
              rw [is34_iff, is92_iff] at h34
              have t1 : ((X.2[j].toNat : Int) == 34) = false := by rw [beq_eq_false_iff_ne]; omega
              have t2 : ((X.2[j].toNat : Int) == 92) = false := by rw [beq_eq_false_iff_ne]; omega
              have HQ : Hid (L ++ [X.2[j]] = M3 ++ quoteL (X.2.data.toList.take (j + 1))) := Lib.hid (by rw [hq, ← hL]; simp)
              clear hq h34 hql htl hL
              go_wp2_with (at_builtin; refine (wpList_pushB _ rfl _ _ 66 rfl w.heap.size 5 i0 (.int .u8 0) Tryz.underlying66 hi hz0 hz1 hz2 rfl _ L [X.2[j]] rfl (by assumption) [.int .u8 (X.2[j].toNat : Int)] 1 rfl rfl rfl (by simp; omega) (by assumption) ?_))
              intro v5 w5 hown5 hg5
              have hb5 : Below w.heap.size w w5 := hown.grown hb hz hg5
              have hz5 := Nat.le_trans hz hg5.size
              have hbx5 := hbx.pushB hown (by decide) hg5
              clear hown hg5 hb hz hbx q1 q2
              go_wp2
              go_roundw
              case rel => exact ⟨j + 1, by omega, by go_num, by rw [← HQ.out]; exact hown5, hbx5, hb5, hz5⟩
              case measure => simp [intOf]; omega
          · have hq : X.2.data.toList.take j = X.2.data.toList := List.take_of_length_le (by simp; omega)
            obtain ⟨L, hL⟩ : ∃ L, M3 ++ quoteL (X.2.data.toList.take j) = L := ⟨_, rfl⟩
            rw [hL] at hown hlen
            have HQ : Hid (L ++ [34] = 123 :: bodyT (ls.take (k + 1))) := Lib.hid (by rw [← HM.out, ← hL, hq, ← HM3.out, ← HM2.out]; simp [labT])
            clear hq hL hql htl
            go_wp2_with (at_builtin; refine (wpList_pushB _ rfl _ _ 66 rfl w.heap.size 5 i0 (.int .u8 0) Tryz.underlying66 hi hz0 hz1 hz2 rfl _ L [34] rfl (by assumption) [.int .u8 34] 1 rfl rfl rfl (by simp; omega) (by assumption) ?_))
            intro v5 w5 hown5 hg5
            have hb5 : Below w.heap.size w w5 := hown.grown hb hz hg5
            have hz5 := Nat.le_trans hz hg5.size
            clear hown hg5 hb hz hbx q1 q2
            go_wp2
            go_roundw
            case rel => exact ⟨k + 1, by omega, by go_num, by rw [← HQ.out]; exact hown5, hb5, hz5⟩
            case measure => simp [intOf]; omega
      · have e0 : 123 :: bodyT (ls.take (k + 1)) = L ++ [44] ++ labT X := by rw [HTK.out, ← hL, if_neg (by omega)]; simp
        have E0 := Lib.hid e0
        clear e0 hL
        go_wp2_with (at_builtin; refine (wpList_pushB W rfl _ _ 66 rfl w.heap.size 5 i0 (.int .u8 0) Tryz.underlying66 hi hz0 hz1 hz2 rfl _ L [44] rfl (by assumption) [.int .u8 44] 1 rfl rfl rfl (by simp; omega) (by assumption) ?_))
        intro v1 w1 hown hg
        have hb : Below w.heap.size w w1 := hownW.grown hbW hzW hg
        have hz := Nat.le_trans hzW hg.size
        have hbx' := hbx.pushB hownW (by decide) hg
        clear hbx hownW hbW hzW hg
        have hbx := hbx'
        clear hbx'
        obtain ⟨M, hM⟩ : ∃ M, L ++ [44] = M := ⟨_, rfl⟩
        have hMl : M.length ≤ 1602 := by rw [← hM]; simp; omega
        rw [hM] at hown
        have HM : Hid (M ++ labT X = 123 :: bodyT (ls.take (k + 1))) := Lib.hid (by rw [E0.out, ← hM])
        clear hM hlen
        have q1 := hbx.cell 0
        have q2 := hbx.cell 1
        have hbs := fun (V : World) => run_bytes_of_string (P := Tryz.prog) V 9 66 5 X.1 Tryz.underlying9 Tryz.underlying66 Tryz.underlying5
        have hownC := fun o => hown.drew.alloc o
        have hbC := fun o => hb.drew.alloc hz o
        have hzC := fun o => (hbC o).size
        have hbxC := fun o => hbx.drew.alloc o
        clear hown hb hz hbx
        go_wp2_with (at_builtin; refine (wpList_appS _ rfl _ _ 66 66 rfl w.heap.size 5 5 i0 (.int .u8 0) Tryz.underlying66 Tryz.underlying66 hi hz0 hz1 hz2 rfl _ M X.1.data.toList rfl (hownC _) w1.heap.size X.1.size _ (by simp) (HasBytes.of_string _ _ _ _ _) rfl (by simp; omega) (hzC _) ?_))
        intro v2 w2 hown2 hg2
        have hb2 : Below w.heap.size w w2 := (hownC _).grown (hbC _) (hzC _) hg2
        have hz2' := Nat.le_trans (hzC _) hg2.size
        have hbx2 := (hbxC _).pushB (hownC _) (by decide) hg2
        have hl2 : (M ++ X.1.data.toList).length ≤ 1700 := by simp; omega
        obtain ⟨M2, HM2⟩ : ∃ M2, Hid (M ++ X.1.data.toList = M2) := ⟨_, Lib.hid rfl⟩
        rw [HM2.out] at hown2 hl2
        clear hownC hbC hzC hbxC hg2 q1 q2 hbs
        go_wp2_with (at_builtin; refine (wpList_pushB w2 rfl _ _ 66 rfl w.heap.size 5 i0 (.int .u8 0) Tryz.underlying66 hi hz0 hz1 hz2 rfl _ M2 [61, 34] rfl (by assumption) [.int .u8 61, .int .u8 34] 2 rfl rfl rfl (by simp; omega) (by assumption) ?_))
        intro v3 w3 hown3 hg3
        have hb3 : Below w.heap.size w w3 := hown2.grown hb2 hz2' hg3
        have hz3' := Nat.le_trans hz2' hg3.size
        have hbx3 := hbx2.pushB hown2 (by decide) hg3
        have hl3 : (M2 ++ [61, 34]).length ≤ 1702 := by rw [List.length_append]; simp only [List.length_cons, List.length_nil]; omega
        obtain ⟨M3, HM3⟩ : ∃ M3, Hid (M2 ++ [61, 34] = M3) := ⟨_, Lib.hid rfl⟩
        rw [HM3.out] at hown3 hl3
        clear hown2 hg3 hb2 hz2' hbx2
        go_wp2
        go_loopw [3, 6] (fun u i wr => ∃ j : Nat, j ≤ X.2.size ∧ i = .int .i64 j ∧ OwnB 5 wr w.heap.size u (M3 ++ quoteL (X.2.data.toList.take j)) ∧ Blk wr B 60 #[.string X.1, .string X.2] ∧ Below w.heap.size w wr ∧ w.heap.size ≤ wr.heap.size) (fun _ i _ => X.2.size - (intOf i).toNat)
        case atStart => exact ⟨0, Nat.zero_le _, rfl, by simpa [quoteL] using hown3, hbx3, hb3, hz3'⟩
        case round =>
          clear hown3 hb3 hz3' hbx3
          obtain ⟨j, hj, rfl, hown, hbx, hb, hz⟩ := hrel
          have q1 := hbx.cell 0
          have q2 := hbx.cell 1
          have hql := quoteL_len (X.2.data.toList.take j)
          have htl : (X.2.data.toList.take j).length ≤ j := List.length_take_le _ _
          have hlen : (M3 ++ quoteL (X.2.data.toList.take j)).length ≤ 2000 := by simp only [List.length_append]; omega
          by_cases hks : j < X.2.size
          · have hq := quoteL_take X.2 j hks
            obtain ⟨L, hL⟩ : ∃ L, M3 ++ quoteL (X.2.data.toList.take j) = L := ⟨_, rfl⟩
            rw [hL] at hown hlen
            by_cases h34 : X.2[j] = 34 ∨ X.2[j] = 92
            · rw [if_pos h34] at hq
              have h34b : X.2[j].toNat = 34 ∨ X.2[j].toNat = 92 := by rw [is34_iff, is92_iff] at h34; exact h34
              have HQ : Hid (L ++ [92] ++ [X.2[j]] = M3 ++ quoteL (X.2.data.toList.take (j + 1))) := Lib.hid (by rw [hq, ← hL]; simp)
              clear hq h34 hql htl hL
              have t1 : ((X.2[j].toNat : Int) == 34) = true ∨ ((X.2[j].toNat : Int) == 34) = false ∧ ((X.2[j].toNat : Int) == 92) = true := by
                rcases h34b with h | h
                · exact .inl (by rw [beq_iff_eq]; omega)
                · exact .inr ⟨by rw [beq_eq_false_iff_ne]; omega, by rw [beq_iff_eq]; omega⟩
              clear h34b
              rcases t1 with t1 | ⟨t1, t2⟩
              all_goals
                go_wp2_with (at_builtin; refine (wpList_pushB _ rfl _ _ 66 rfl w.heap.size 5 i0 (.int .u8 0) Tryz.underlying66 hi hz0 hz1 hz2 rfl _ L [92] rfl (by assumption) [.int .u8 92] 1 rfl rfl rfl (by simp; omega) (by assumption) ?_))
                intro v4 w4 hown4 hg4
                have hb4 : Below w.heap.size w w4 := hown.grown hb hz hg4
                have hz4 := Nat.le_trans hz hg4.size
                have hbx4 := hbx.pushB hown (by decide) hg4
                have hlen2 : (L ++ [92]).length ≤ 2001 := by simp; omega
                clear hown hg4 hb hz hbx q1 q2
                have q1 := hbx4.cell 0
                have q2 := hbx4.cell 1
                go_wp2_with (at_builtin; refine (wpList_pushB w4 rfl _ _ 66 rfl w.heap.size 5 i0 (.int .u8 0) Tryz.underlying66 hi hz0 hz1 hz2 rfl _ (L ++ [92]) [X.2[j]] rfl (by assumption) [.int .u8 (X.2[j].toNat : Int)] 1 rfl rfl rfl (by simp; omega) (by assumption) ?_))
                intro v5 w5 hown5 hg5
                have hb5 : Below w.heap.size w w5 := hown4.grown hb4 hz4 hg5
                have hz5 := Nat.le_trans hz4 hg5.size
                have hbx5 := hbx4.pushB hown4 (by decide) hg5
                clear hown4 hg5 hb4 hz4 hbx4 q1 q2
                go_wp2
                go_roundw
                case rel => exact ⟨j + 1, by omega, by go_num, by rw [← HQ.out]; simpa using hown5, hbx5, hb5, hz5⟩
                case measure => simp [intOf]; omega
            · rw [if_neg h34] at hq
              rw [is34_iff, is92_iff] at h34
              have t1 : ((X.2[j].toNat : Int) == 34) = false := by rw [beq_eq_false_iff_ne]; omega
              have t2 : ((X.2[j].toNat : Int) == 92) = false := by rw [beq_eq_false_iff_ne]; omega
              have HQ : Hid (L ++ [X.2[j]] = M3 ++ quoteL (X.2.data.toList.take (j + 1))) := Lib.hid (by rw [hq, ← hL]; simp)
              clear hq h34 hql htl hL
              go_wp2_with (at_builtin; refine (wpList_pushB _ rfl _ _ 66 rfl w.heap.size 5 i0 (.int .u8 0) Tryz.underlying66 hi hz0 hz1 hz2 rfl _ L [X.2[j]] rfl (by assumption) [.int .u8 (X.2[j].toNat : Int)] 1 rfl rfl rfl (by simp; omega) (by assumption) ?_))
              intro v5 w5 hown5 hg5
              have hb5 : Below w.heap.size w w5 := hown.grown hb hz hg5
              have hz5 := Nat.le_trans hz hg5.size
              have hbx5 := hbx.pushB hown (by decide) hg5
              clear hown hg5 hb hz hbx q1 q2
              go_wp2
              go_roundw
              case rel => exact ⟨j + 1, by omega, by go_num, by rw [← HQ.out]; exact hown5, hbx5, hb5, hz5⟩
              case measure => simp [intOf]; omega
          · have hq : X.2.data.toList.take j = X.2.data.toList := List.take_of_length_le (by simp; omega)
            obtain ⟨L, hL⟩ : ∃ L, M3 ++ quoteL (X.2.data.toList.take j) = L := ⟨_, rfl⟩
            rw [hL] at hown hlen
            have HQ : Hid (L ++ [34] = 123 :: bodyT (ls.take (k + 1))) := Lib.hid (by rw [← HM.out, ← hL, hq, ← HM3.out, ← HM2.out]; simp [labT])
            clear hq hL hql htl
            go_wp2_with (at_builtin; refine (wpList_pushB _ rfl _ _ 66 rfl w.heap.size 5 i0 (.int .u8 0) Tryz.underlying66 hi hz0 hz1 hz2 rfl _ L [34] rfl (by assumption) [.int .u8 34] 1 rfl rfl rfl (by simp; omega) (by assumption) ?_))
            intro v5 w5 hown5 hg5
            have hb5 : Below w.heap.size w w5 := hown.grown hb hz hg5
            have hz5 := Nat.le_trans hz hg5.size
            clear hown hg5 hb hz hbx q1 q2
            go_wp2
            go_roundw
            case rel => exact ⟨k + 1, by omega, by go_num, by rw [← HQ.out]; exact hown5, hb5, hz5⟩
            case measure => simp [intOf]; omega
    · have hend : L ++ [125] = textL ls := by rw [← hL, List.take_of_length_le (by omega)]; simp [textL]
      have HE := Lib.hid hend
      clear hL hend
      go_wp2_with (at_builtin; refine (wpList_pushB wr rfl _ _ 66 rfl w.heap.size 5 i0 (.int .u8 0) Tryz.underlying66 hi hz0 hz1 hz2 rfl _ L [125] rfl (by assumption) [.int .u8 125] 1 rfl rfl rfl (by simp; omega) (by assumption) ?_))
      intro v2 w2 hown2 hg2
      have hb2 : Below w.heap.size w w2 := hown.grown hb hz hg2
      have hcv := OwnB.str (P := Tryz.prog) (src := 66) (dst := 9) hown2 Tryz.underlying66 Tryz.underlying5 Tryz.underlying9
      clear hown hown2 hg2 hb hz
      go_wp2
      go_ret
      exact ⟨by rw [HE.out]; rfl, hb2⟩
end Go.Proofs.YtdlhmjdjoadioabGreatDoor
