/- The contract of package seal's mix: the words behind a block. -/
import Derived.Test.YtmmpnkcfekhkhaaDoorShaB
import Derived.Laws.CopyOwn
namespace Go.Proofs.YtmmpnkcfekhkhaaDoor
open Go.RowKit

/-- the two tables, as they are laid -/
def Tabs (w : World) : Prop := 2 ≤ w.heap.size ∧ (∀ i, i < 8 → w.cell? ⟨0, i, none⟩ = some (.int .u32 ((HH.getD i 0 : Nat) : Int))) ∧ ∀ i, i < 64 → w.cell? ⟨1, i, none⟩ = some (.int .u32 ((KK.getD i 0 : Nat) : Int))
theorem Tabs.call {w w' : World} {B : Nat} (h : Tabs w) (hb : Below B w w') (hB : 2 ≤ B) (hs : B ≤ w'.heap.size) : Tabs w' :=
  ⟨by omega, fun i hi => (hb.cell (p := ⟨0, i, none⟩) (show 0 < B by omega)).trans (h.2.1 i hi), fun i hi => (hb.cell (p := ⟨1, i, none⟩) (show 1 < B by omega)).trans (h.2.2 i hi)⟩

theorem sum_front (d h c k x : Nat) : ((d : Int) + ((h : Int) + (c : Int) + (k : Int) + (x : Int))) % 4294967296 = ((add2 d (add2 (add2 (add2 h c) k) x) : Nat) : Int) := by
  unfold add2; omega
theorem sum_back (d h c k x : Nat) : ((h : Int) + (c : Int) + (k : Int) + (x : Int) + (d : Int)) % 4294967296 = ((add2 (add2 (add2 (add2 h c) k) x) d : Nat) : Int) := by
  unfold add2; omega

set_option maxHeartbeats 1600000 in
set_option maxRecDepth 100000 in
theorem mix_any (s : ByteArray) (st : List Nat) (w : World) (hs : s.size = 64) (hst : Eight st) (hT : Tabs w) :
    Calls Tryd.prog 46 #[.agg (wordsV st).toArray, .string s] w fun e w' => e = .returned (.agg (wordsV (blockN st s.data.toList)).toArray) ∧ Below w.heap.size w w' := by
  obtain ⟨W, hW⟩ : ∃ W, W = schedN s.data.toList 64 := ⟨_, rfl⟩
  have hWl : W.length = 64 := by rw [hW, schedN_len]
  have hWb : ∀ x ∈ W, x < 4294967296 := by rw [hW]; exact schedN_lt _ _
  have hsp := fun w => spread_any s w hs
  have hbl : blockN st s.data.toList = List.zipWith add2 st (rndsN st W 64) := by rw [blockN, hW]
  rw [hbl]
  rw [← hW] at hsp
  obtain ⟨V, hV⟩ : ∃ V, V = (wordsV W).toArray := ⟨_, rfl⟩
  rw [← hV] at hsp
  have hVi : ∀ i, i < 64 → V[i]? = some (.int .u32 ((W.getD i 0 : Nat) : Int)) := fun i hi => by
    rw [hV]; simpa using word_at W i (by omega)
  have hVs : V.size = 64 := by rw [hV]; simp [wordsV_len, hWl]
  clear hW hV hbl
  obtain ⟨a, b, c, d, e, f, g, y, rfl, ha, hb, hc, hd, he, hf, hg, hh⟩ := hst.parts
  have HSP := Lib.hid hsp
  have HVI := Lib.hid hVi
  have HVS := Lib.hid hVs
  have HWB := Lib.hid hWb
  have HT := Lib.hid hT
  clear hsp hVi hVs hWb hT hWl
  simp only [wordsV, u32V, List.map_cons, List.map_nil]
  go_enter Tryd.func46, Tryd.ntmps46
  go_wp2_with ((with_reducible refine (HSP.out _).mono ?_); rintro e w2 ⟨rfl, hb2⟩)
  have hz : w.heap.size + 1 + 1 < w2.heap.size := by have := hb2.size; simp at this; omega
  have r5 : IsRow w2 (w.heap.size + 1 + 1) 46 (wordsV [a, b, c, d, e, f, g, y]) := by
    refine IsRow.call ?_ hb2
    have := IsRow.new ((w.alloc (.cells (wordsV [a, b, c, d, e, f, g, y]).toArray 46)).alloc (.cells (wordsV [0, 0, 0, 0, 0, 0, 0, 0]).toArray 46)) 46 (wordsV [a, b, c, d, e, f, g, y])
    rw [World.size_alloc, World.size_alloc] at this
    exact this
  have r4 : IsRow w2 (w.heap.size + 1) 46 (wordsV [0, 0, 0, 0, 0, 0, 0, 0]) := by
    refine IsRow.call (IsRow.alloc ?_ _) hb2
    have := IsRow.new (w.alloc (.cells (wordsV [a, b, c, d, e, f, g, y]).toArray 46)) 46 (wordsV [0, 0, 0, 0, 0, 0, 0, 0])
    rw [World.size_alloc] at this
    exact this
  have r2 : IsRow w2 w.heap.size 46 (wordsV [a, b, c, d, e, f, g, y]) :=
    IsRow.call (((IsRow.new w _ (wordsV [a, b, c, d, e, f, g, y])).alloc _).alloc _) hb2
  have hB : Below w.heap.size w w2 := ((((Below.refl _ _).alloc (Nat.le_refl _) _).alloc (by simp) _).alloc (by simp; omega) _).trans (hb2.mono (by simp; omega))
  clear hb2 HSP
  go_loopw [21] (fun i wr => ∃ k : Nat, k ≤ 64 ∧ i = .int .i64 k ∧ IsRow wr (w.heap.size + 1 + 1) 46 (wordsV (rndsN [a, b, c, d, e, f, g, y] W k)) ∧ IsRow wr (w.heap.size + 1) 46 (wordsV [0, 0, 0, 0, 0, 0, 0, 0]) ∧ IsRow wr w.heap.size 46 (wordsV [a, b, c, d, e, f, g, y]) ∧ Below w.heap.size w wr ∧ w.heap.size + 1 + 1 < wr.heap.size) (fun i _ => 64 - (intOf i).toNat)
  case atStart => exact ⟨0, by omega, rfl, r5, r4, r2, hB, hz⟩
  case round =>
    clear r5 r4 r2 hB hz
    obtain ⟨k, hk, rfl, r5, r4, r2, hB, hz⟩ := hrel
    have h8 := rndsN_eight hst W k
    by_cases hlt : k < 64
    · have hx := fun wx => run_index_words (P := Tryd.prog) wx 71 40 64 V k _ Tryd.underlying71 Tryd.underlying40 (by kernel_rfl) hlt (HVI.out k hlt)
      have hxb := getD_lt HWB.out k
      have hKb := getD_lt KK_lt k
      have hnext : rndsN [a, b, c, d, e, f, g, y] W (k + 1) = rndL (rndsN [a, b, c, d, e, f, g, y] W k) (KK.getD k 0) (W.getD k 0) := rfl
      have hKc := (hB.cell (p := ⟨1, k, none⟩) (show 1 < w.heap.size by have := HT.out.1; omega)).trans (HT.out.2.2 k hlt)
      obtain ⟨A, B, C, D, E, F, G, H, hp, hA, hB', hC, hD, hE, hF, hG, hH⟩ := h8.parts
      rw [hp] at hnext r5
      rw [rndL] at hnext
      have c0 := r5.cell 0 _ (word_at _ 0 (by simp))
      have c1 := r5.cell 1 _ (word_at _ 1 (by simp))
      have c2 := r5.cell 2 _ (word_at _ 2 (by simp))
      have c3 := r5.cell 3 _ (word_at _ 3 (by simp))
      have c4 := r5.cell 4 _ (word_at _ 4 (by simp))
      have c5 := r5.cell 5 _ (word_at _ 5 (by simp))
      have c6 := r5.cell 6 _ (word_at _ 6 (by simp))
      have c7 := r5.cell 7 _ (word_at _ 7 (by simp))
      simp only [List.getD_cons_zero, List.getD_cons_succ] at c0 c1 c2 c3 c4 c5 c6 c7
      have HN := Lib.hid hnext
      clear hnext hp h8
      generalize W.getD k 0 = x at *
      generalize KK.getD k 0 = K at *
      have A2 := u32_add
      have M2 := u32_mod
      have hch := u32_ch hE hF hG
      have hma := u32_ma hA hB' hC
      have hb1 := bg1_lt hE
      have hb0 := bg0_lt hA
      go_wp2_with fail
      go_quiet (fail)
      go_wp2_with fail
      go_quiet (fail)
      go_wp2_with fail
      go_quiet ((go_at_call 58; first | exact quiet_add_left (great1_any _ _ hE) | exact quiet_left (great1_any _ _ hE)))
      go_wp2_with ((with_reducible refine (great0_any _ _ hA).mono ?_); rintro e w3 ⟨rfl, rfl⟩)
      clear hx hKc hch hma c0 c1 c2 c3 c4 c5 c6 c7
      go_still_tail 2, (by kernel_rfl)
      refine wpList_copy_own rfl (.tmp 72) (.tmp 73) 25 25 rfl 40 Tryd.underlying25 (by kernel_rfl) (w.heap.size + 1 + 1) 1 7 7 ⟨w.heap.size + 1 + 1, 0, none⟩ 7 8 rfl rfl _ _ r5 (wordsV [A, B, C, D, E, F, G]) rfl ?hsrc (by simp [wordsV]) (by simp [wordsV, u32V, Value.oneCell']) ?_
      case hsrc =>
        intro j v hv
        have e0 : (⟨w.heap.size + 1 + 1, 0, none⟩ : Addr).add j = ⟨w.heap.size + 1 + 1, j, none⟩ := by unfold Addr.add; split <;> simp_all
        rw [e0]
        refine IsRow.cell (w := wr) r5 j v ?_
        have hj : j < 7 := by simpa [wordsV] using (List.getElem?_eq_some_iff.1 hv).1
        rw [show wordsV [A, B, C, D, E, F, G, H] = wordsV [A, B, C, D, E, F, G] ++ [u32V H] from rfl, List.getElem?_append_left (by simpa [wordsV] using hj)]
        exact hv
      refine wpList_world (fun wx => IsRow wx (w.heap.size + 1 + 1) 46 (wordsV [A, A, B, C, D, E, F, G]) ∧ IsRow wx (w.heap.size + 1) 46 (wordsV [0, 0, 0, 0, 0, 0, 0, 0]) ∧ IsRow wx w.heap.size 46 (wordsV [a, b, c, d, e, f, g, y]) ∧ Below w.heap.size w wx ∧ w.heap.size + 1 + 1 < wx.heap.size) ?_ ?_
      · refine ⟨IsRow.rowSelf (w := wr) r5 (wordsV [A, A, B, C, D, E, F, G]), IsRow.rowOther (w := wr) r4 (by omega) _, IsRow.rowOther (w := wr) r2 (by omega) _, ?_, ?_⟩
        · exact below_setRow (w1 := World.drew _) (below_drewN (below_drewN hB _) 1) (by omega) (Nat.le_of_lt (Nat.lt_of_le_of_lt (by omega) hz)) _
        · simpa [World.setRow] using hz
      clear r5 r4 r2 hB hz
      rintro wx ⟨r5, r4, r2, hB, hz⟩
      have c4 := r5.cell 4 _ (word_at _ 4 (by simp))
      have c0 := r5.cell 0 _ (word_at _ 0 (by simp))
      simp only [List.getD_cons_zero, List.getD_cons_succ] at c0 c4
      have f4 := r5.free 4
      have f0 := r5.free 0
      go_wp2
      go_roundw
      case rel =>
        refine ⟨k + 1, by omega, by go_num, ?_, ?_, ?_, ?_, ?_⟩
        · rw [HN.out, sum_front, sum_back]; exact (r5.set 4 _).set 0 _
        · exact (r4.other (b := w.heap.size + 1 + 1) (by omega) _).other (b := w.heap.size + 1 + 1) (by omega) _
        · exact (r2.other (b := w.heap.size + 1 + 1) (by omega) _).other (b := w.heap.size + 1 + 1) (by omega) _
        · exact (hB.setCell (p := ⟨w.heap.size + 1 + 1, 4, none⟩) (show w.heap.size ≤ w.heap.size + 1 + 1 by omega) _).setCell (p := ⟨w.heap.size + 1 + 1, 0, none⟩) (show w.heap.size ≤ w.heap.size + 1 + 1 by omega) _
        · simpa using hz
      case measure => simp [intOf]; omega
    · have hk64 : 64 ≤ k := by omega
      obtain ⟨R, hR⟩ : ∃ R, R = rndsN [a, b, c, d, e, f, g, y] W k := ⟨_, rfl⟩
      rw [← hR] at h8 r5
      have HR : Hid (rndsN [a, b, c, d, e, f, g, y] W 64 = R) := Lib.hid (by rw [hR, show k = 64 by omega])
      clear hR hlt
      obtain ⟨A, B, C, D, E, F, G, H, rfl, hA, hB', hC, hD, hE, hF, hG, hH⟩ := h8.parts
      have M2 := u32_mod
      have A2 := u32_add
      go_wp2_with fail
      go_loopw [85] (fun i wx => ∃ (k : Nat) (T : List Nat), k ≤ 8 ∧ i = .int .i64 k ∧ T = List.zipWith add2 [a, b, c, d, e, f, g, y] [A, B, C, D, E, F, G, H] ∧ IsRow wx (w.heap.size + 1 + 1) 46 (wordsV [A, B, C, D, E, F, G, H]) ∧ IsRow wx (w.heap.size + 1) 46 (wordsV [0, 0, 0, 0, 0, 0, 0, 0]) ∧ IsRow wx w.heap.size 46 (wordsV (T.take k ++ [a, b, c, d, e, f, g, y].drop k)) ∧ Below w.heap.size w wx) (fun i _ => 8 - (intOf i).toNat)
      case atStart => exact ⟨0, _, by omega, rfl, rfl, r5, r4, r2, hB⟩
      case round =>
        clear r5 r4 r2 hB
        obtain ⟨k, T, hk8, rfl, hT8, r5, r4, r2, hB⟩ := hrel
        have hTl : T.length = 8 := by rw [hT8]; rfl
        have HT8 := Lib.hid hT8
        by_cases hk7 : k < 8
        · have hl2 : (T.take k ++ [a, b, c, d, e, f, g, y].drop k).length = 8 := by simp; omega
          have c2 := r2.cell k _ (word_at _ k (by rw [hl2]; exact hk7))
          have c5 := r5.cell k _ (word_at _ k (by simpa using hk7))
          have f2 := r2.free k
          have g2 : (T.take k ++ [a, b, c, d, e, f, g, y].drop k).getD k 0 = [a, b, c, d, e, f, g, y].getD k 0 := by
            rw [List.getD_eq_getElem?_getD, List.getD_eq_getElem?_getD, List.getElem?_append_right (by simp; omega), List.getElem?_drop]
            congr 2; simp; omega
          have hnx : (wordsV (T.take k ++ [a, b, c, d, e, f, g, y].drop k)).set k (.int .u32 ((add2 ([a, b, c, d, e, f, g, y].getD k 0) ([A, B, C, D, E, F, G, H].getD k 0) : Nat) : Int)) = wordsV (T.take (k + 1) ++ [a, b, c, d, e, f, g, y].drop (k + 1)) := by
            have hT8 := HT8.out
            clear HT8
            subst hT8
            match k, hk7 with
            | 0, _ => rfl
            | 1, _ => rfl
            | 2, _ => rfl
            | 3, _ => rfl
            | 4, _ => rfl
            | 5, _ => rfl
            | 6, _ => rfl
            | 7, _ => rfl
          rw [g2] at c2
          have HN := Lib.hid hnx
          clear hnx g2 hl2 hT8
          generalize [a, b, c, d, e, f, g, y].getD k 0 = u at *
          generalize [A, B, C, D, E, F, G, H].getD k 0 = v at *
          go_wp2_with fail
          go_still_tail 7, (by kernel_rfl)
          refine wpList_world (fun wz => IsRow wz (w.heap.size + 1 + 1) 46 (wordsV [A, B, C, D, E, F, G, H]) ∧ IsRow wz (w.heap.size + 1) 46 (wordsV [0, 0, 0, 0, 0, 0, 0, 0]) ∧ IsRow wz w.heap.size 46 (wordsV (T.take k ++ [a, b, c, d, e, f, g, y].drop k)) ∧ Below w.heap.size w wz ∧
            (∃ v, wz.cell? ⟨w.heap.size, k, none⟩ = some v) ∧ wz.frozen? ⟨w.heap.size, k, none⟩ = false) ⟨r5, r4, r2, below_drewN hB 1, ⟨_, c2⟩, f2⟩ ?_
          clear r5 r4 r2 hB c2 c5 f2
          rintro wz ⟨r5, r4, r2, hB, ⟨v9, c2⟩, f2⟩
          go_wp2
          go_roundw
          case rel =>
            refine ⟨k + 1, T, by omega, by go_num, HT8.out, ?_, ?_, ?_, ?_⟩
            · exact r5.other (b := w.heap.size) (by omega) _
            · exact r4.other (b := w.heap.size) (by omega) _
            · rw [← HN.out]; exact r2.set k _
            · exact hB.setCell (p := ⟨w.heap.size, k, none⟩) (Nat.le_refl _) _
          case measure => simp [intOf]; omega
        · obtain rfl : k = 8 := by omega
          have hfull : T.take 8 ++ [a, b, c, d, e, f, g, y].drop 8 = T := by
            rw [List.take_of_length_le (by omega)]; simp
          rw [hfull] at r2
          have hV8 : (Tryd.prog.info? 46).map (·.size) = some (wordsV T).toArray.size := by
            rw [List.size_toArray, wordsV_len, hTl]; kernel_rfl
          have hone : (wordsV T).toArray.all (·.oneCell') = true := by simp [wordsV, u32V, Value.oneCell']
          have hold : (wordsV [0, 0, 0, 0, 0, 0, 0, 0]).toArray.size = (wordsV T).toArray.size := by
            rw [List.size_toArray, List.size_toArray, wordsV_len, wordsV_len, hTl]; rfl
          have hrow2 := IsRow.rowSelf r4 (wordsV T)
          have hbl := below_setRow hB (Nat.le_succ w.heap.size) hB.size (wordsV T).toArray
          have HE : Hid (Ending.returned (.agg (List.map u32V (List.zipWith add2 [a, b, c, d, e, f, g, y] (rndsN [a, b, c, d, e, f, g, y] W 64))).toArray) = Ending.returned (.agg (wordsV T).toArray)) := Lib.hid (by rw [HR.out, ← HT8.out]; rfl)
          unfold IsRow at r2 r4 hrow2
          generalize (wordsV T).toArray = X at *
          go_upto_region 18 with fail
          go_wp2_with (first | (refine wpList_load_row rfl 46 _ rfl w.heap.size rfl _ _ _ _ r2 Tryd.underlying46 rfl hV8 ?_) | (refine wpList_store_row rfl 46 _ _ rfl (w.heap.size + 1) X rfl rfl _ _ r4 hV8 hold hone ?_))
          refine bodyPost_ret (v := .agg X) ?_ rfl ⟨HE.out.symm, hbl⟩
          exact results_cell_row rfl _ _ (w.heap.size + 1) _ _ _ _ rfl hrow2 Tryd.underlying46 rfl hV8
end Go.Proofs.YtmmpnkcfekhkhaaDoor
