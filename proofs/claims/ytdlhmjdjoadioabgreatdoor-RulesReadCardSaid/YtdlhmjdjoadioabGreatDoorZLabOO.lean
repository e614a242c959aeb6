/- The contract of the document's own reader of one label. -/
import Derived.Test.YtdlhmjdjoadioabGreatDoorZLabO
namespace Go.Proofs.YtdlhmjdjoadioabGreatDoor
open Go.RowKit

def OnePost (o : Option (Lab × Bs)) (n : Nat) (w : World) (e : Ending) (w' : World) : Prop :=
  (match o with
    | some (l, r) => e = .returned (.agg #[.string l.1, .string l.2, .int .i64 ((n - r.length : Nat) : Int)])
    | none => e = .returned (.agg #[.string ⟨#[]⟩, .string ⟨#[]⟩, .int .i64 (-1)])) ∧ Below w.heap.size w w'


set_option maxHeartbeats 3200000 in
set_option maxRecDepth 100000 in
theorem one_any (s : ByteArray) (at0 : Nat) (w : World) (hs : s.size ≤ 1000000) (hat : at0 ≤ s.size) :
    Calls Tryz.prog 50 #[.string s, .int .i64 at0] w (OnePost (rdOne (s.data.toList.drop at0)) s.size w) := by
  obtain ⟨i0, hi, hz0, hz1, hz2⟩ := info_partsB Tryz.infoB
  obtain ⟨R, hR⟩ : ∃ R, rdOne (s.data.toList.drop at0) = R := ⟨_, rfl⟩
  rw [hR]
  obtain ⟨J, hJ⟩ : ∃ J, J = at0 + eqAt (s.data.toList.drop at0) := ⟨_, rfl⟩
  have hl : (s.data.toList.drop at0).length = s.size - at0 := by simp
  have hle := eqAt_le (s.data.toList.drop at0)
  have hJs : J ≤ s.size := by omega
  have hne : ∀ k (hk : k < s.size), at0 ≤ k → k < J → s[k] ≠ 61 := fun k hk h1 h2 => by
    have := eqAt_ne (s.data.toList.drop at0) (k - at0) (by omega) (by omega)
    rw [List.getElem_drop] at this
    rw [← byte_at s k hk]
    simpa [show at0 + (k - at0) = k by omega] using this
  have hat61 : ∀ (hk : J < s.size), s[J] = 61 := fun hk => by
    have := eqAt_is (s.data.toList.drop at0) (by omega)
    rw [List.getElem_drop] at this
    rw [← byte_at s J hk]
    simpa [← hJ] using this
  have hdr : (s.data.toList.drop at0).drop (eqAt (s.data.toList.drop at0) + 1) = s.data.toList.drop (J + 1) := by rw [List.drop_drop]; congr 1; omega
  have htk : (⟨((s.data.toList.drop at0).take (eqAt (s.data.toList.drop at0))).toArray⟩ : ByteArray) = s.extract at0 J := by
    apply bytes_ext
    simp only [ByteArray.data_extract, Array.toList_extract, List.extract_eq_take_drop]
    rw [show J - at0 = eqAt (s.data.toList.drop at0) by omega]
  unfold rdOne at hR
  rw [hdr, htk] at hR
  have HR := Lib.hid hR
  have HNE := Lib.hid hne
  have H61 := Lib.hid hat61
  have hAJ : at0 ≤ J := by omega
  clear hR hne hat61 hdr htk hJ hl hle
  go_enter Tryz.func50, Tryz.ntmps50
  go_wp2
  go_loop [1] (fun i => ∃ k : Nat, at0 ≤ k ∧ k ≤ J ∧ i = .int .i64 k) (fun i => J - (intOf i).toNat)
  case atStart => exact ⟨at0, Nat.le_refl _, hAJ, rfl⟩
  case round =>
    obtain ⟨k, hk1, hk2, rfl⟩ := hrel
    by_cases hkJ : k < J
    · have hks : k < s.size := by omega
      have h6 := HNE.out k hks hk1 hkJ
      have t1 : ((s[k].toNat : Int) != 61) = true := by
        rw [bne_iff_ne]
        intro e
        exact h6 (UInt8.toNat_inj.1 (by rw [show s[k].toNat = 61 by omega]; rfl))
      clear h6
      go_wp2
      go_round
      case rel => exact ⟨k + 1, by omega, by omega, by go_num⟩
      case measure => simp [intOf]; omega
    · obtain rfl : k = J := by omega
      have hbx0 := Blk.new w 78 #[.string ⟨#[]⟩, .string ⟨#[]⟩, .int .i64 0]
      have hb0 := (Below.refl _ w).alloc (Nat.le_refl _) (.cells #[.string ⟨#[]⟩, .string ⟨#[]⟩, .int .i64 0] 78)
      clear HNE hkJ hk1 hk2
      by_cases hJ1 : k < s.size
      · have h61 := H61.out hJ1
        have t1 : ((s[k].toNat : Int) != 61) = false := by rw [h61]; rfl
        clear h61 H61
        by_cases hJ2 : k + 1 < s.size
        · have hd := drop_byte s (k + 1) hJ2
          have HD := Lib.hid hd
          clear hd
          by_cases h34 : s[k + 1] = 34
          · have t2 : ((s[k + 1].toNat : Int) != 34) = false := by rw [h34]; rfl
            have hRR : (readL (s.data.toList.drop (k + 2)) []).map (fun p => ((s.extract at0 k, (⟨p.1.toArray⟩ : ByteArray)), p.2)) = R := by
              rw [← HR.out, HD.out]
              show _ = (if s[k + 1] = 34 then _ else none)
              rw [if_pos h34]
            clear HR HD h34
            obtain ⟨Q, hQ⟩ : ∃ Q, readL (s.data.toList.drop (k + 2)) [] = Q := ⟨_, rfl⟩
            rw [hQ] at hRR
            have HQ := Lib.hid hQ
            have HRR := Lib.hid hRR
            clear hQ hRR
            go_upto_region 9 with fail
            generalize s.extract at0 k = NM at *
            have hA0 : Blk (((w.alloc (.cells #[.string ⟨#[]⟩, .string ⟨#[]⟩, .int .i64 0] 78)).alloc (.cells #[.string NM, .string ⟨#[]⟩] 60)).alloc (.cells #[] 5)) w.heap.size 78 #[.string ⟨#[]⟩, .string ⟨#[]⟩, .int .i64 0] := ((Blk.new w _ _).alloc _).alloc _
            have hM0 : Blk (((w.alloc (.cells #[.string ⟨#[]⟩, .string ⟨#[]⟩, .int .i64 0] 78)).alloc (.cells #[.string NM, .string ⟨#[]⟩] 60)).alloc (.cells #[] 5)) (w.heap.size + 1) 60 #[.string NM, .string ⟨#[]⟩] := by
              have h := Blk.new (w.alloc (.cells #[.string ⟨#[]⟩, .string ⟨#[]⟩, .int .i64 0] 78)) 60 #[.string NM, .string ⟨#[]⟩]
              rw [World.size_alloc] at h
              exact h.alloc _
            have hown0 : OwnB 5 (((w.alloc (.cells #[.string ⟨#[]⟩, .string ⟨#[]⟩, .int .i64 0] 78)).alloc (.cells #[.string NM, .string ⟨#[]⟩] 60)).alloc (.cells #[] 5)) w.heap.size (.slice (some ⟨w.heap.size + 1 + 1, 0, none⟩) 0 0) [] := by
              have h := OwnB.made 5 ((w.alloc (.cells #[.string ⟨#[]⟩, .string ⟨#[]⟩, .int .i64 0] 78)).alloc (.cells #[.string NM, .string ⟨#[]⟩] 60)) [] (by simp)
              rw [World.size_alloc, World.size_alloc] at h
              exact OwnB.base h (by omega)
            have hbB : Below w.heap.size w (((w.alloc (.cells #[.string ⟨#[]⟩, .string ⟨#[]⟩, .int .i64 0] 78)).alloc (.cells #[.string NM, .string ⟨#[]⟩] 60)).alloc (.cells #[] 5)) := (hb0.alloc hb0.size _).alloc (hb0.alloc hb0.size _).size _
            go_loopw [1, 7] (fun i u wr => ∃ (j : Nat) (L : Bs), j ≤ s.size + 1 ∧ L.length ≤ j ∧ i = .int .i64 j ∧ OwnB 5 wr w.heap.size u L ∧ Hid (readL (s.data.toList.drop j) L = Q) ∧ Blk wr w.heap.size 78 #[.string ⟨#[]⟩, .string ⟨#[]⟩, .int .i64 0] ∧ Blk wr (w.heap.size + 1) 60 #[.string NM, .string ⟨#[]⟩] ∧ Below w.heap.size w wr ∧ w.heap.size ≤ wr.heap.size) (fun i _ _ => s.size + 1 - (intOf i).toNat)
            case atStart => exact ⟨k + 2, [], by omega, by simp, by go_num, hown0, HQ, hA0, hM0, hbB, hbB.size⟩
            case round =>
              clear HQ hA0 hM0 hown0 hbB hb0 hbx0 t1 t2
              obtain ⟨j, L, hj, hLj, rfl, hown, HQ, hA, hM, hb, hz⟩ := hrel
              by_cases hjs : j < s.size
              · have hd := drop_byte s j hjs
                by_cases h34 : s[j] = 34
                · have t1 : ((s[j].toNat : Int) != 34) = false := by rw [h34]; rfl
                  have hre : some (L, s.data.toList.drop (j + 1)) = Q := by rw [← HQ.out, hd, h34]; rfl
                  subst hre
                  have hRe : some ((NM, ⟨L.toArray⟩), s.data.toList.drop (j + 1)) = R := HRR.out
                  subst hRe
                  have hcv := OwnB.str (P := Tryz.prog) (src := 66) (dst := 9) hown Tryz.underlying66 Tryz.underlying5 Tryz.underlying9
                  have hlen : (s.size - (s.data.toList.drop (j + 1)).length : Nat) = j + 1 := by simp; omega
                  have HLN := Lib.hid hlen
                  clear hd HQ HRR h34 hown hlen
                  have q1 := hM.cell 1
                  have f1 := hM.frozen 1
                  go_upto_region 18 with fail
                  have hM2 := hM.set 1 (.string ⟨L.toArray⟩)
                  have hA2 := hA.setO ⟨w.heap.size + 1, 1, none⟩ (.string ⟨L.toArray⟩) (by simp)
                  have hb2 := hb.setCell (p := ⟨w.heap.size + 1, 1, none⟩) (Nat.le_succ _) (.string ⟨L.toArray⟩)
                  clear hM hA hb q1 f1 hcv hz
                  generalize wr.setCell ⟨w.heap.size + 1, 1, none⟩ (.string ⟨L.toArray⟩) = W at *
                  have q0 := hM2.cell 0
                  have q1 := hM2.cell 1
                  have a0 := hA2.cell 0
                  have a1 := hA2.cell 1
                  have a2 := hA2.cell 2
                  have b0 := hA2.frozen 0
                  have b1 := fun v0 => (hA2.set 0 v0).cell 1
                  have b2 := fun v0 => (hA2.set 0 v0).frozen 1
                  have b3 := fun v0 v1 => ((hA2.set 0 v0).set 1 v1).cell 2
                  have b4 := fun v0 v1 => ((hA2.set 0 v0).set 1 v1).frozen 2
                  go_wp2
                  refine bodyPost_ret (v := .agg #[.string NM, .string ⟨L.toArray⟩, .int .i64 ((j + 1 : Nat) : Int)]) ?_ rfl ⟨?_, ((hb2.setCell (Nat.le_refl _) _).setCell (Nat.le_refl _) _).setCell (Nat.le_refl _) _⟩
                  · refine (results_cell_row rfl _ _ w.heap.size _ #[.string NM, .string ⟨L.toArray⟩, .int .i64 ((j + 1 : Nat) : Int)] _ _ ?_ (((hA2.set 0 _).set 1 _).set 2 _) Tryz.underlying78 rfl (by kernel_rfl)).trans ?_
                    · rfl
                    · rfl
                  · show _ = Ending.returned (.agg #[.string NM, .string ⟨L.toArray⟩, .int .i64 ((s.size - (s.data.toList.drop (j + 1)).length : Nat) : Int)])
                    rw [HLN.out]
                · have t1 : ((s[j].toNat : Int) != 34) = true := by
                    rw [bne_iff_ne]
                    intro e
                    exact h34 (UInt8.toNat_inj.1 (by rw [show s[j].toNat = 34 by omega]; rfl))
                  by_cases h92 : s[j] = 92
                  · have t2 : ((s[j].toNat : Int) == 92) = true := by rw [beq_iff_eq, h92]; rfl
                    by_cases hj1 : j + 1 < s.size
                    · have hre : Hid (readL (s.data.toList.drop (j + 2)) (L ++ [s[j + 1]]) = Q) := Lib.hid (by rw [← HQ.out, hd, drop_byte s (j + 1) hj1, h92, readL])
                      clear hd HQ h34 h92
                      go_wp2_with (at_builtin; refine (wpList_pushB wr rfl _ _ 66 rfl w.heap.size 5 i0 (.int .u8 0) Tryz.underlying66 hi hz0 hz1 hz2 rfl u7 L [s[j + 1]] rfl hown [.int .u8 (s[j + 1].toNat : Int)] 1 rfl rfl rfl (by simp; omega) hz ?_))
                      intro v2 w2 hown2 hg2
                      have hb2 : Below w.heap.size w w2 := hown.grown hb hz hg2
                      have hz2' := Nat.le_trans hz hg2.size
                      have hA2 := hA.pushB hown (by decide) hg2
                      have hM2 := hM.pushB hown (by decide) hg2
                      clear hown hg2 hb hz hA hM
                      go_wp2
                      go_roundw
                      case rel => exact ⟨j + 2, _, by omega, by simp; omega, by go_num, hown2, hre, hA2, hM2, hb2, hz2'⟩
                      case measure => simp [intOf]; omega
                    · have hre : Hid (readL (s.data.toList.drop (j + 2)) L = Q) := Lib.hid (by rw [← HQ.out, hd, h92, drop_end s (j + 1) (by omega), drop_end s (j + 2) (by omega)]; rfl)
                      clear hd HQ h34 h92
                      go_wp2
                      go_roundw
                      case rel => exact ⟨j + 2, _, by omega, by omega, by go_num, hown, hre, hA, hM, hb, hz⟩
                      case measure => simp [intOf]; omega
                  · have t2 : ((s[j].toNat : Int) == 92) = false := by rw [beq_eq_false_iff_ne]; rw [is92_iff] at h92; omega
                    have hre : Hid (readL (s.data.toList.drop (j + 1)) (L ++ [s[j]]) = Q) := Lib.hid (by rw [← HQ.out, hd, readL_plain _ _ _ h34 h92])
                    clear hd HQ h34 h92
                    go_wp2_with (at_builtin; refine (wpList_pushB wr rfl _ _ 66 rfl w.heap.size 5 i0 (.int .u8 0) Tryz.underlying66 hi hz0 hz1 hz2 rfl u7 L [s[j]] rfl hown [.int .u8 (s[j].toNat : Int)] 1 rfl rfl rfl (by simp; omega) hz ?_))
                    intro v2 w2 hown2 hg2
                    have hb2 : Below w.heap.size w w2 := hown.grown hb hz hg2
                    have hz2' := Nat.le_trans hz hg2.size
                    have hA2 := hA.pushB hown (by decide) hg2
                    have hM2 := hM.pushB hown (by decide) hg2
                    clear hown hg2 hb hz hA hM
                    go_wp2
                    go_roundw
                    case rel => exact ⟨j + 1, _, by omega, by simp; omega, by go_num, hown2, hre, hA2, hM2, hb2, hz2'⟩
                    case measure => simp [intOf]; omega
              · have hre : none = Q := by rw [← HQ.out, drop_end s j (by omega)]; rfl
                subst hre
                have hRe : none = R := HRR.out
                subst hRe
                clear HQ HRR hown hM
                have a0 := hA.cell 0
                have a1 := hA.cell 1
                have a2 := hA.cell 2
                have b0 := hA.frozen 0
                have b1 := fun v0 => (hA.set 0 v0).cell 1
                have b2 := fun v0 => (hA.set 0 v0).frozen 1
                have b3 := fun v0 v1 => ((hA.set 0 v0).set 1 v1).cell 2
                have b4 := fun v0 v1 => ((hA.set 0 v0).set 1 v1).frozen 2
                go_wp2
                refine bodyPost_ret (v := .agg #[.string ⟨#[]⟩, .string ⟨#[]⟩, .int .i64 (-1)]) ?_ rfl ⟨rfl, ((hb.setCell (Nat.le_refl _) _).setCell (Nat.le_refl _) _).setCell (Nat.le_refl _) _⟩
                refine (results_cell_row rfl _ _ w.heap.size _ #[.string ⟨#[]⟩, .string ⟨#[]⟩, .int .i64 (-1)] _ _ ?_ (((hA.set 0 _).set 1 _).set 2 _) Tryz.underlying78 rfl (by kernel_rfl)).trans ?_
                · rfl
                · rfl
          · have t2 : ((s[k + 1].toNat : Int) != 34) = true := by
              rw [bne_iff_ne]
              intro e
              exact h34 (UInt8.toNat_inj.1 (by rw [show s[k + 1].toNat = 34 by omega]; rfl))
            obtain rfl : none = R := by rw [← HR.out, HD.out]; simp [h34]
            clear HR HD h34
            go_wp2
            refine bodyPost_ret (v := .agg #[.string ⟨#[]⟩, .string ⟨#[]⟩, .int .i64 (-1)]) ?_ rfl ⟨rfl, (Below.refl _ w).alloc (Nat.le_refl _) _⟩
            refine (results_cell_row rfl _ _ w.heap.size _ #[.string ⟨#[]⟩, .string ⟨#[]⟩, .int .i64 (-1)] _ _ ?_ (Blk.new w _ #[.string ⟨#[]⟩, .string ⟨#[]⟩, .int .i64 (-1)]) Tryz.underlying78 rfl (by kernel_rfl)).trans ?_
            · rfl
            · rfl
        · obtain rfl : none = R := by rw [← HR.out, drop_end s (k + 1) (by omega)]
          clear HR
          go_wp2
          refine bodyPost_ret (v := .agg #[.string ⟨#[]⟩, .string ⟨#[]⟩, .int .i64 (-1)]) ?_ rfl ⟨rfl, (Below.refl _ w).alloc (Nat.le_refl _) _⟩
          refine (results_cell_row rfl _ _ w.heap.size _ #[.string ⟨#[]⟩, .string ⟨#[]⟩, .int .i64 (-1)] _ _ ?_ (Blk.new w _ #[.string ⟨#[]⟩, .string ⟨#[]⟩, .int .i64 (-1)]) Tryz.underlying78 rfl (by kernel_rfl)).trans ?_
          · rfl
          · rfl
      · obtain rfl : none = R := by rw [← HR.out, drop_end s (k + 1) (by omega)]
        clear HR H61
        go_wp2
        refine bodyPost_ret (v := .agg #[.string ⟨#[]⟩, .string ⟨#[]⟩, .int .i64 (-1)]) ?_ rfl ⟨rfl, (Below.refl _ w).alloc (Nat.le_refl _) _⟩
        refine (results_cell_row rfl _ _ w.heap.size _ #[.string ⟨#[]⟩, .string ⟨#[]⟩, .int .i64 (-1)] _ _ ?_ (Blk.new w _ #[.string ⟨#[]⟩, .string ⟨#[]⟩, .int .i64 (-1)]) Tryz.underlying78 rfl (by kernel_rfl)).trans ?_
        · rfl
        · rfl
end Go.Proofs.YtdlhmjdjoadioabGreatDoor
