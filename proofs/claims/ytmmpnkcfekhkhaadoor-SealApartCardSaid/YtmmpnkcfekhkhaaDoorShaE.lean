/- The contracts of package seal's Sum and Mark. -/
import Derived.Test.YtmmpnkcfekhkhaaDoorShaD
import Derived.Deep.WholeRow
import Derived.Deep.RegionWith
namespace Go.Proofs.YtmmpnkcfekhkhaaDoor
open Go.RowKit

theorem IsRow.drew {w : World} {g T : Nat} {V : List Value} (h : IsRow w g T V) : IsRow w.drew g T V := h
theorem Tabs.drew {w : World} (h : Tabs w) : Tabs w.drew := h
theorem Tabs.alloc {w : World} (h : Tabs w) (o : Obj) : Tabs (w.alloc o) := by
  have hb : Below w.heap.size w (w.alloc o) := (Below.refl _ _).alloc (Nat.le_refl _) _
  exact h.call hb h.1 hb.size
theorem Tabs.after {w w' : World} (h : Tabs w) (hb : Below w.heap.size w w') : Tabs w' := h.call hb h.1 hb.size
theorem Tabs.setRow {w : World} (h : Tabs w) {g : Nat} (hg : 2 ≤ g) (X : Array Value) : Tabs (w.setRow g X) :=
  ⟨by simpa [World.setRow] using h.1, fun i hi => (World.cell?_of_block (setRow_other w g 0 X (by omega))).trans (h.2.1 i hi), fun i hi => (World.cell?_of_block (setRow_other w g 1 X (by omega))).trans (h.2.2 i hi)⟩
def Tabs8 (w : World) : Prop :=
  w.cell? ⟨0, 0, none⟩ = some (.int .u32 1779033703) ∧ w.cell? ⟨0, 1, none⟩ = some (.int .u32 3144134277) ∧ w.cell? ⟨0, 2, none⟩ = some (.int .u32 1013904242) ∧ w.cell? ⟨0, 3, none⟩ = some (.int .u32 2773480762) ∧
  w.cell? ⟨0, 4, none⟩ = some (.int .u32 1359893119) ∧ w.cell? ⟨0, 5, none⟩ = some (.int .u32 2600822924) ∧ w.cell? ⟨0, 6, none⟩ = some (.int .u32 528734635) ∧ w.cell? ⟨0, 7, none⟩ = some (.int .u32 1541459225)
theorem tabs8 {w : World} (h : Tabs w) : Tabs8 w :=
  ⟨h.2.1 0 (by omega), h.2.1 1 (by omega), h.2.1 2 (by omega), h.2.1 3 (by omega), h.2.1 4 (by omega), h.2.1 5 (by omega), h.2.1 6 (by omega), h.2.1 7 (by omega)⟩

theorem cells8 {w : World} {b T A B C D E F G H : Nat} (h : IsRow w b T (wordsV [A, B, C, D, E, F, G, H])) :
    w.cell? ⟨b, 0, none⟩ = some (.int .u32 A) ∧ w.cell? ⟨b, 1, none⟩ = some (.int .u32 B) ∧ w.cell? ⟨b, 2, none⟩ = some (.int .u32 C) ∧ w.cell? ⟨b, 3, none⟩ = some (.int .u32 D) ∧
    w.cell? ⟨b, 4, none⟩ = some (.int .u32 E) ∧ w.cell? ⟨b, 5, none⟩ = some (.int .u32 F) ∧ w.cell? ⟨b, 6, none⟩ = some (.int .u32 G) ∧ w.cell? ⟨b, 7, none⟩ = some (.int .u32 H) :=
  ⟨h.cell 0 _ rfl, h.cell 1 _ rfl, h.cell 2 _ rfl, h.cell 3 _ rfl, h.cell 4 _ rfl, h.cell 5 _ rfl, h.cell 6 _ rfl, h.cell 7 _ rfl⟩

set_option maxHeartbeats 1600000 in
set_option maxRecDepth 100000 in
theorem sum_any (s : ByteArray) (w : World) (hs : s.size ≤ 400000000) (hT : Tabs w) :
    Calls Tryd.prog 10 #[.string s] w fun e w' => e = .returned (.string ⟨(shaL s.data.toList).toArray⟩) ∧ Below w.heap.size w w' := by
  obtain ⟨Q, hQ⟩ : ∃ Q, Q = 64 * (s.size / 64) := ⟨_, rfl⟩
  have hq : (s.size : Int) - (s.size : Int) % 64 = (Q : Int) := by omega
  have hQs : Q ≤ s.size := by omega
  have HQ := Lib.hid hQ
  have HT := Lib.hid hT
  clear hQ
  go_enter Tryd.func10, Tryd.ntmps10
  have hl64 : (s.extract 0 Q).size % 64 = 0 := by have := HQ.out; simp [ByteArray.size_extract]; omega
  have hlm : (s.extract 0 Q).size ≤ maxLen := by unfold maxLen; simp [ByteArray.size_extract]; omega
  have hlq : (s.extract 0 Q).size / 64 = s.size / 64 := by have := HQ.out; simp [ByteArray.size_extract]; omega
  have hld : (s.extract 0 Q).data.toList = s.data.toList.take (64 * (s.size / 64)) := by rw [extract_list, ← HQ.out]; simp
  have hmx : ∀ W, Tabs W → Calls Tryd.prog 30 #[.agg (wordsV HH).toArray, .string (s.extract 0 Q)] W fun e w' => e = .returned (.agg (wordsV (blocksN (s.size / 64) HH (s.data.toList.take (64 * (s.size / 64))))).toArray) ∧ Below W.heap.size W w' := fun W hW => by
    have := mixAll_any (s.extract 0 Q) HH W hl64 hlm HH_eight hW
    rw [hlq, hld] at this
    exact this
  have h8 : Eight (blocksN (s.size / 64) HH (s.data.toList.take (64 * (s.size / 64)))) := blocksN_eight _ HH_eight _
  have hfin := shaW_parts s.data.toList (s.size / 64) (by simp)
  generalize blocksN (s.size / 64) HH (s.data.toList.take (64 * (s.size / 64))) = M at *
  obtain ⟨X, hX⟩ : ∃ X, X = (wordsV M).toArray := ⟨_, rfl⟩
  have hX8 : X.size = 8 := by rw [hX, List.size_toArray, wordsV_len]; exact h8.1
  have hone : X.all (·.oneCell') = true := by rw [hX]; simp [wordsV, u32V, Value.oneCell']
  rw [← hX] at hmx
  have hmx : ∀ W, Tabs W → Calls Tryd.prog 30 #[.agg #[.int .u32 1779033703, .int .u32 3144134277, .int .u32 1013904242, .int .u32 2773480762, .int .u32 1359893119, .int .u32 2600822924, .int .u32 528734635, .int .u32 1541459225], .string (s.extract 0 Q)] W fun e w' => e = .returned (.agg X) ∧ Below W.heap.size W w' := hmx
  have HX := Lib.hid hmx
  have HF := Lib.hid hfin
  have HXM := Lib.hid hX
  have HX8 := Lib.hid hX8
  have HI : Hid ((Tryd.prog.info? 46).map (·.size) = some X.size) := Lib.hid (by rw [hX8]; kernel_rfl)
  have HZ : Hid ((#[.int .u32 0, .int .u32 0, .int .u32 0, .int .u32 0, .int .u32 0, .int .u32 0, .int .u32 0, .int .u32 0] : Array Value).size = X.size) := Lib.hid (by rw [hX8]; rfl)
  clear hmx hfin hl64 hlm hlq hld hX hX8
  have hTd := tabs8 (hT.drew)
  have h2 : 2 ≤ w.heap.size := HT.out.1
  go_wp2_with fail
  go_cut [4] (fun p wx => ∃ b, p = .pointer (some ⟨b, 0, none⟩) ∧ w.heap.size ≤ b ∧ IsRow wx b 46 X.toList ∧ Below w.heap.size w wx)
  case first =>
    go_region_held3 (fun w' => w'.cell? ⟨0, 0, none⟩ = some (.int .u32 1779033703) ∧ w'.cell? ⟨0, 1, none⟩ = some (.int .u32 3144134277) ∧ w'.cell? ⟨0, 2, none⟩ = some (.int .u32 1013904242) ∧ w'.cell? ⟨0, 3, none⟩ = some (.int .u32 2773480762) ∧
  w'.cell? ⟨0, 4, none⟩ = some (.int .u32 1359893119) ∧ w'.cell? ⟨0, 5, none⟩ = some (.int .u32 2600822924) ∧ w'.cell? ⟨0, 6, none⟩ = some (.int .u32 528734635) ∧ w'.cell? ⟨0, 7, none⟩ = some (.int .u32 1541459225))
      (first | exact tabs8 (by assumption) | exact tabs8 (Tabs.alloc (by assumption) _) | exact tabs8 (Tabs.drew HT.out) | exact tabs8 (Tabs.alloc (Tabs.drew HT.out) _) | exact tabs8 (Tabs.setRow (by assumption) h2 _))
      (first
        | (go_at_call 30; refine (HX.out _ (Tabs.drew HT.out)).mono ?_; rintro e w2 ⟨rfl, hb2⟩; have hT2 := Tabs.after (Tabs.drew HT.out) hb2; have hs1 := run_storeCells_new (P := Tryd.prog) w2 46 #[.int .u32 0, .int .u32 0, .int .u32 0, .int .u32 0, .int .u32 0, .int .u32 0, .int .u32 0, .int .u32 0] X HI.out HZ.out hone)
        | (go_at_call 30; refine (HX.out _ (Tabs.alloc (Tabs.drew HT.out) _)).mono ?_; rintro e w2 ⟨rfl, hb2⟩; have hT2 := Tabs.after (Tabs.alloc (Tabs.drew HT.out) _) hb2; have hs2 := run_storeCells_row (P := Tryd.prog) w2 w.heap.size 46 _ X (IsRow.call (IsRow.new w.drew 46 (wordsV [0, 0, 0, 0, 0, 0, 0, 0])) hb2) HZ.out hone))
    · go_wp2
      go_meet
      exact ⟨_, rfl, hb2.size, IsRow.new w2 46 X.toList, ((below_drewN (Below.refl _ _) 1).trans hb2).alloc hb2.size _⟩
    · go_wp2
      go_meet
      have hb3 : Below w.heap.size w w2 := ((below_drewN (Below.refl _ _) 1).alloc (Nat.le_refl _) _).trans (hb2.mono (by simp))
      exact ⟨_, rfl, Nat.le_refl _, IsRow.rowSelf (IsRow.call (IsRow.new w.drew 46 (wordsV [0, 0, 0, 0, 0, 0, 0, 0])) hb2) X.toList, below_setRow hb3 (Nat.le_refl _) hb3.size _⟩
  case rest =>
    clear hTd
    obtain ⟨b, rfl, hbb, hrow, hB⟩ := hcut
    obtain ⟨A, B, C, D, E, F, G, H, rfl, -⟩ := h8.parts
    rw [HXM.out] at hrow
    have hrow : IsRow wc b 46 (wordsV [A, B, C, D, E, F, G, H]) := hrow
    have hTx : Tabs wc := HT.out.call hB h2 hB.size
    have HTx := Lib.hid hTx
    obtain ⟨N, hN⟩ : ∃ N : ByteArray, N = ⟨(endL (s.data.toList.drop (64 * (s.size / 64))) s.size).toArray⟩ := ⟨_, rfl⟩
    have hend := fun W => ending_any (s.extract Q s.size) s.size W (by simp [ByteArray.size_extract]; omega) (by omega)
    have hxd : (s.extract Q s.size).data.toList = s.data.toList.drop (64 * (s.size / 64)) := by
      rw [extract_list, ← HQ.out, List.take_of_length_le (by simp)]
    rw [hxd, ← hN] at hend
    have hNl : N.data.toList = endL (s.data.toList.drop (64 * (s.size / 64))) s.size := by rw [hN]
    have hNs : N.size = (endL (s.data.toList.drop (64 * (s.size / 64))) s.size).length := by rw [size_list, hNl]
    have hzz : zerosN (s.data.toList.drop (64 * (s.size / 64))).length ≤ 63 := by unfold zerosN; omega
    have hmx := fun W hW => mixAll_any N [A, B, C, D, E, F, G, H] W (by rw [hNs]; exact endL_mod _ _) (by unfold maxLen; rw [hNs, endL_len]; simp at hzz ⊢; omega) h8 hW
    have hN8 := blocksN_eight (N.size / 64) h8 N.data.toList
    have hres : shaW s.data.toList = blocksN (N.size / 64) [A, B, C, D, E, F, G, H] N.data.toList := by rw [HF.out, hNs, hNl]; simp
    rw [← hres] at hmx hN8
    obtain ⟨Y, hY⟩ : ∃ Y, Y = (wordsV (shaW s.data.toList)).toArray := ⟨_, rfl⟩
    rw [← hY] at hmx
    have hmx : ∀ W, Tabs W → Calls Tryd.prog 30 #[.agg #[.int .u32 A, .int .u32 B, .int .u32 C, .int .u32 D, .int .u32 E, .int .u32 F, .int .u32 G, .int .u32 H], .string N] W fun e w' => e = .returned (.agg Y) ∧ Below W.heap.size W w' := hmx
    have hone2 : Y.all (·.oneCell') = true := by rw [hY]; simp [wordsV, u32V, Value.oneCell']
    have hY8 : Y.size = 8 := by rw [hY, List.size_toArray, wordsV_len]; exact hN8.1
    have HM := Lib.hid hmx
    have HEN := Lib.hid hend
    have HY := Lib.hid hY
    have HI2 : Hid ((Tryd.prog.info? 46).map (·.size) = some Y.size) := Lib.hid (by rw [hY8]; kernel_rfl)
    have HZ2 : Hid ((wordsV [A, B, C, D, E, F, G, H]).toArray.size = Y.size) := Lib.hid (by rw [hY8]; rfl)
    have HY8 := Lib.hid hY8
    have HROW := Lib.hid hrow
    clear hY hY8 hmx hend hxd hN hNl hNs hzz hres HX HF HXM HX8 HI HZ hone hrow
    go_wp2_with fail
    go_cut [4] (fun p wz => p = .pointer (some ⟨b, 0, none⟩) ∧ IsRow wz b 46 Y.toList ∧ Below w.heap.size w wz)
    case first =>
      have hcs := cells8 (IsRow.drew HROW.out)
      go_region_with (first
          | (go_at_call 31; refine (HEN.out _).mono ?_; rintro e w3 ⟨rfl, hb3⟩; have hT3 := Tabs.after (Tabs.drew HTx.out) hb3; have hr3 := IsRow.call (IsRow.drew HROW.out) hb3; have hcs3 := cells8 hr3)
          | (go_at_call 30; refine (HM.out _ hT3).mono ?_; rintro e w4 ⟨rfl, hb4⟩; have hr4 := IsRow.call hr3 hb4; have hs4 := run_storeCells_row (P := Tryd.prog) w4 b 46 _ Y hr4 HZ2.out hone2))
      all_goals
        go_wp2
        go_meet
        exact ⟨rfl, IsRow.rowSelf hr4 Y.toList, below_setRow (bthen (bthen (below_drewN hB 1) hb3) hb4) hbb (Nat.le_trans hB.size (Nat.le_trans hb3.size hb4.size)) _⟩
    case rest =>
      obtain ⟨rfl, hrow, hB⟩ := hcut
      have h8 := shaW_eight s.data.toList
      have hfin : shaL s.data.toList = (shaW s.data.toList).flatMap be4 := rfl
      have hYi : ∀ i, i < 8 → Y[i]? = some (.int .u32 (((shaW s.data.toList).getD i 0 : Nat) : Int)) := fun i hi => by
        rw [HY.out]; simpa using word_at (shaW s.data.toList) i (by rw [h8.1]; exact hi)
      have HY9 := Lib.hid hYi
      have HFIN := Lib.hid hfin
      clear hYi hfin HY HQ HZ2 hone2 HY8 HM HEN HROW HTx
      generalize shaW s.data.toList = W at *
      unfold IsRow at hrow
      have hI2 := HI2.out
      clear HI2
      go_upto_region 5 with fail
      go_wp2_with (refine wpList_load_row rfl 46 _ rfl b rfl _ _ _ _ hrow Tryd.underlying46 rfl hI2 ?_)
      go_loopw [5, 28] (fun v i wr => ∃ k : Nat, k ≤ 8 ∧ i = .int .i64 k ∧ OwnsM wr w.heap.size 5 1 v (4 * k) (bytesV ((W.take k).flatMap be4)) ∧ Below w.heap.size w wr) (fun _ i _ => 8 - (intOf i).toNat)
      case atStart => exact ⟨0, by omega, rfl, OwnsM.nil _ _ _ _, hB⟩
      case round =>
        clear hrow hB
        obtain ⟨k, hk, rfl, hown, hB⟩ := hrel
        by_cases hlt : k < 8
        · have hx := fun wx => run_index_words (P := Tryd.prog) wx 46 40 8 Y k _ Tryd.underlying46 Tryd.underlying40 (by kernel_rfl) hlt (HY9.out k hlt)
          have hxb := getD_lt h8.2 k
          have htk := be4_take W k (by rw [h8.1]; exact hlt)
          have HTK := Lib.hid htk
          clear htk
          generalize W.getD k 0 = x at *
          go_wp2_with ((with_reducible refine (appendWord_any _ (4 * k) x _ w.heap.size _ hxb hown hB.size (by omega)).mono ?_); rintro e w2 ⟨v2, rfl, hown2, hg2⟩)
          go_roundw
          case rel => exact ⟨k + 1, by omega, by go_num, by rw [HTK.out, bytesV_app]; exact hown2, hB.grown hg2 hB.size (fun k hk => (hown.lt k hk).1)⟩
          case measure => simp [intOf]; omega
        · have hk8 : k = 8 := by omega
          have hall : (W.take k).flatMap be4 = shaL s.data.toList := by rw [HFIN.out, List.take_of_length_le (by rw [h8.1]; omega)]
          have hlen : 4 * k = (shaL s.data.toList).length := by rw [shaL_len]; omega
          rw [hall, hlen] at hown
          have hcv := OwnsM.str (P := Tryd.prog) (src := 41) (dst := 9) hown Tryd.underlying41 Tryd.underlying5 Tryd.underlying9
          clear hall hlen hk8 hown HFIN
          go_wp2
          go_ret
          exact ⟨rfl, hB⟩
end Go.Proofs.YtmmpnkcfekhkhaaDoor
