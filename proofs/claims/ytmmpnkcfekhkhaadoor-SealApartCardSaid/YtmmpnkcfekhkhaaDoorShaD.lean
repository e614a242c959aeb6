/- The contracts of package seal's Sum and Mark, and of what they call. -/
import Derived.Test.YtmmpnkcfekhkhaaDoorShaC
import Derived.Test.YtmmpnkcfekhkhaaDoorMark
import Derived.Test.YtmmpnkcfekhkhaaDoorFrame
namespace Go.Proofs.YtmmpnkcfekhkhaaDoor
open Go.RowKit

theorem be4V {x : Nat} (h : x < 4294967296) : bytesV (be4 x) = [.int .u8 ((x : Int) / 16777216), .int .u8 ((x : Int) / 65536 % 256), .int .u8 ((x : Int) / 256 % 256), .int .u8 ((x : Int) % 256)] := by
  simp [bytesV, be4]; omega

def AppPost (base T n : Nat) (xs : List Value) (v : Value) (w : World) (e : Ending) (w' : World) : Prop :=
  ∃ v', e = .returned v' ∧ OwnsM w' base T 1 v' n xs ∧ w.grownBy w' v.ownBlock

set_option maxHeartbeats 800000 in
set_option maxRecDepth 100000 in
theorem appendWord_any (v : Value) (n x : Nat) (xs : List Value) (base : Nat) (w : World) (hx : x < 4294967296) (hown : OwnsM w base 5 1 v n xs) (hb : base ≤ w.heap.size) (hn : n ≤ 1000000000) :
    Calls Tryd.prog 32 #[v, .int .u32 x] w (AppPost base 5 (n + 4) (xs ++ bytesV (be4 x)) v w) := by
  obtain ⟨i0, hi, hz0, hz1, hz2⟩ := info_parts Tryd.infoB
  have hbe := be4V hx
  have HB := Lib.hid hbe
  clear hbe
  go_enter Tryd.func32, Tryd.ntmps32
  go_wp2_with (at_builtin; refine (wpList_pushM w rfl _ _ 41 rfl base 5 i0 (.int .u8 0) 1 Tryd.underlying41 hi hz0 hz1 hz2 rfl v n xs rfl hown [.int .u8 ((x : Int) / 16777216), .int .u8 ((x : Int) / 65536 % 256), .int .u8 ((x : Int) / 256 % 256), .int .u8 ((x : Int) % 256)] w.heap.size rfl rfl (by simp [Value.oneCell']) (by unfold maxLen; simp; omega) (by simp; omega) hb ?_))
  intro v' w' h1 h2
  go_wp2
  go_ret
  exact ⟨v', rfl, by rw [HB.out]; exact h1, h2⟩
theorem be4_mod (y : Nat) : be4 (y % 4294967296) = be4 y := by
  have h : ∀ a b : Nat, a % 256 = b % 256 → UInt8.ofNat a = UInt8.ofNat b := fun a b h => UInt8.toNat_inj.1 (by simp; omega)
  unfold be4
  rw [h (y % 4294967296 / 16777216) (y / 16777216) (by omega), h (y % 4294967296 / 65536) (y / 65536) (by omega), h (y % 4294967296 / 256) (y / 256) (by omega), h (y % 4294967296) y (by omega)]

theorem appendWord_int (v : Value) (n x : Nat) (y : Int) (xs : List Value) (base : Nat) (w : World) (hy : y = x) (hx : x < 4294967296) (hown : OwnsM w base 5 1 v n xs) (hb : base ≤ w.heap.size) (hn : n ≤ 1000000000) :
    Calls Tryd.prog 32 #[v, .int .u32 y] w (AppPost base 5 (n + 4) (xs ++ bytesV (be4 x)) v w) := by
  subst hy
  exact appendWord_any v n x xs base w hx hown hb hn

set_option maxHeartbeats 1600000 in
set_option maxRecDepth 100000 in
theorem ending_any (s : ByteArray) (size : Nat) (w : World) (hs : s.size ≤ 500000000) (hsz : size ≤ 500000000) :
    Calls Tryd.prog 31 #[.string s, .int .i64 size] w fun e w' => e = .returned (.string ⟨(endL s.data.toList size).toArray⟩) ∧ Below w.heap.size w w' := by
  obtain ⟨i0, hi, hz0, hz1, hz2⟩ := info_parts Tryd.infoB
  have hbs := run_bytes_of_string (P := Tryd.prog) w 9 41 5 s Tryd.underlying9 Tryd.underlying41 Tryd.underlying5
  have hc1 := grownCap_ge w s.size 0 5
  have hc2 := grownCap_le_maxLen w s.size 0 5 (by unfold maxLen; omega)
  generalize grownCap w s.size 0 5 = c at *
  have hown := OwnsM.of_text w.drew s c 5 ((bytesRow s c).size + 1) hc1 hc2
  have hB : Below w.heap.size w (w.drew.alloc (.cells (bytesRow s c) 5 ((bytesRow s c).size, (bytesRow s c).size + 1))) := (below_drewN (Below.refl _ _) 1).alloc (Nat.le_refl _) _
  have hsz2 : w.heap.size ≤ (w.drew.alloc (.cells (bytesRow s c) 5 ((bytesRow s c).size, (bytesRow s c).size + 1))).heap.size := hB.size
  obtain ⟨W, hW⟩ : ∃ W, W = w.drew.alloc (.cells (bytesRow s c) 5 ((bytesRow s c).size, (bytesRow s c).size + 1)) := ⟨_, rfl⟩
  rw [← hW] at hbs hown hB hsz2
  have hown : OwnsM W w.heap.size 5 1 (.slice (some ⟨w.heap.size, 0, none⟩) s.size c) s.size (bytesV s.data.toList) := hown
  clear hW hc1 hc2
  go_enter Tryd.func31, Tryd.ntmps31
  go_wp2_with (at_builtin; refine (wpList_pushM W rfl _ _ 41 rfl w.heap.size 5 i0 (.int .u8 0) 1 Tryd.underlying41 hi hz0 hz1 hz2 rfl (.slice (some ⟨w.heap.size, 0, none⟩) s.size c) s.size (bytesV s.data.toList) rfl hown [.int .u8 128] W.heap.size rfl rfl (by simp [Value.oneCell']) (by unfold maxLen; simp; omega) (by simp; omega) hsz2 ?_))
  intro v1 w1 hown1 hg1
  obtain ⟨a1, c1, rfl⟩ := hown1.form
  have hB1 : Below w.heap.size w w1 := hB.grown hg1 hsz2 (fun k hk => (hown.lt k hk).1)
  have hown1 : OwnsM w1 w.heap.size 5 1 (.slice a1 (s.size + 1) c1) (s.size + 1) (bytesV (s.data.toList ++ [128])) := by
    rw [bytesV_app]; exact hown1
  have hz1' := hB1.size
  clear hown hB hg1 hsz2 hbs
  go_wp2_with fail
  go_loopw [5] (fun v wr => ∃ (k N : Nat) (a : Option Addr) (c : Nat), k ≤ zerosN s.size ∧ N = s.size + 1 + k ∧ v = .slice a N c ∧ OwnsM wr w.heap.size 5 1 v N (bytesV (s.data.toList ++ [128] ++ List.replicate k 0)) ∧ Below w.heap.size w wr) (fun v _ => match v with | .slice _ n _ => zerosN s.size + s.size + 1 - n | _ => 0)
  case atStart => exact ⟨0, s.size + 1, a1, c1, Nat.zero_le _, rfl, rfl, by simpa using hown1, hB1⟩
  case round =>
    clear hown1 hB1 hz1'
    obtain ⟨k, N, a, c, hk, hN, rfl, hown1, hB1⟩ := hrel
    have hz1' := hB1.size
    have hz9 : zerosN s.size = (119 - s.size % 64) % 64 := rfl
    by_cases hlt : k < zerosN s.size
    · have ht : (((N : Int) + 8) % 64 == 0) = false := by rw [beq_eq_false_iff_ne]; omega
      have hNl : N ≤ 1000000000 := by omega
      have hrep : s.data.toList ++ [128] ++ List.replicate (k + 1) (0 : UInt8) = s.data.toList ++ [128] ++ List.replicate k 0 ++ [0] := by rw [List.replicate_succ', ← List.append_assoc]
      have HR := Lib.hid hrep
      have HN := Lib.hid hN
      clear hz9 hrep hN
      generalize s.data.toList ++ [128] ++ List.replicate k 0 = L at *
      go_wp2_with (at_builtin; refine (wpList_pushM wr rfl _ _ 41 rfl w.heap.size 5 i0 (.int .u8 0) 1 Tryd.underlying41 hi hz0 hz1 hz2 rfl (.slice a N c) N _ rfl hown1 [.int .u8 0] wr.heap.size rfl rfl (by simp [Value.oneCell']) (by unfold maxLen; simp; omega) (by simp; omega) hz1' ?_))
      intro v2 w2 hown2 hg2
      obtain ⟨a2, c2, rfl⟩ := hown2.form
      have hB2 : Below w.heap.size w w2 := hB1.grown hg2 hz1' (fun k hk => (hown1.lt k hk).1)
      go_wp2
      go_roundw
      case rel => exact ⟨k + 1, N + 1, a2, c2, by omega, by rw [HN.out]; omega, rfl, by rw [HR.out, bytesV_app]; exact hown2, hB2⟩
      case measure => have := HN.out; simp; omega
    · have ht : (((N : Int) + 8) % 64 == 0) = true := by rw [beq_iff_eq]; omega
      have hend : bytesV (s.data.toList ++ [128] ++ List.replicate k 0) ++ bytesV (be4 (8 * size / 4294967296)) ++ bytesV (be4 (8 * size)) = bytesV (endL s.data.toList size) := by
        rw [endL, show s.data.toList.length = s.size by simp, show zerosN s.size = k by omega]
        simp only [bytesV_app, List.append_assoc]
      have hel : N + 4 + 4 = (endL s.data.toList size).length := by rw [endL_len, show s.data.toList.length = s.size by simp]; omega
      have hNl : N ≤ 900000000 := by omega
      have HE := Lib.hid hend
      have HL := Lib.hid hel
      clear hz9 hN hend hel hk hlt
      generalize bytesV (s.data.toList ++ [128] ++ List.replicate k 0) = xs at *
      go_wp2_with (first
        | (go_at_call 32; refine (appendWord_int _ N (8 * size / 4294967296) _ xs w.heap.size _ (by omega) (by omega) (by assumption) (by assumption) (by omega)).mono ?_; rintro e w2 ⟨v2, rfl, hown2, hg2⟩; have hs2 : w.heap.size ≤ w2.heap.size := Nat.le_trans hz1' hg2.size)
        | (go_at_call 32; refine (appendWord_int _ (N + 4) (8 * size) _ _ w.heap.size _ (by omega) (by omega) hown2 hs2 (by omega)).mono ?_; rintro e w3 ⟨v3, rfl, hown3, hg3⟩; rw [HE.out, HL.out] at hown3; have hcv := OwnsM.str (P := Tryd.prog) (src := 41) (dst := 9) hown3 Tryd.underlying41 Tryd.underlying5 Tryd.underlying9))
      go_ret
      exact ⟨rfl, (hB1.grown hg2 hz1' (fun k hk => (hown1.lt k hk).1)).grown hg3 hs2 (fun k hk => (hown2.lt k hk).1)⟩
set_option maxHeartbeats 1600000 in
set_option maxRecDepth 100000 in
theorem mixAll_any (s : ByteArray) (st : List Nat) (w : World) (hm : s.size % 64 = 0) (hs : s.size ≤ maxLen) (hst : Eight st) (hT : Tabs w) :
    Calls Tryd.prog 30 #[.agg (wordsV st).toArray, .string s] w fun e w' => e = .returned (.agg (wordsV (blocksN (s.size / 64) st s.data.toList)).toArray) ∧ Below w.heap.size w w' := by
  unfold maxLen at hs
  have hm' : s.size = 64 * (s.size / 64) := by omega
  have HM := Lib.hid hm'
  have HST := Lib.hid hst
  have HT := Lib.hid hT
  obtain ⟨a, b, c, d, e, f, g, y, rfl, -⟩ := hst.parts
  clear hm hm'
  simp only [wordsV, u32V, List.map_cons, List.map_nil]
  go_enter Tryd.func30, Tryd.ntmps30
  go_wp2_with fail
  go_loopw [1] (fun r wr => ∃ (k : Nat) (t : ByteArray), k ≤ s.size / 64 ∧ r = .string t ∧ t.data.toList = s.data.toList.drop (64 * k) ∧ t.size = 64 * (s.size / 64 - k) ∧ IsRow wr w.heap.size 46 (wordsV (blocksN k [a, b, c, d, e, f, g, y] s.data.toList)) ∧ IsRow wr (w.heap.size + 1) 46 (wordsV [0, 0, 0, 0, 0, 0, 0, 0]) ∧ Below w.heap.size w wr) (fun r _ => match r with | .string t => t.size | _ => 0)
  case atStart =>
    refine ⟨0, s, Nat.zero_le _, rfl, by simp, HM.out, ?_, ?_, ?_⟩
    · exact (IsRow.new w _ (wordsV [a, b, c, d, e, f, g, y])).alloc _
    · have := IsRow.new (w.alloc (.cells (wordsV [a, b, c, d, e, f, g, y]).toArray 46)) 46 (wordsV [0, 0, 0, 0, 0, 0, 0, 0])
      rw [World.size_alloc] at this
      exact this
    · exact ((Below.refl _ _).alloc (Nat.le_refl _) _).alloc (by simp) _
  case round =>
    obtain ⟨k, t, hk, rfl, ht, htz, r2, r4, hB⟩ := hrel
    have h8 := blocksN_eight k HST.out s.data.toList
    have hw2 := HT.out.1
    have hTr : Tabs wr := HT.out.call hB hw2 hB.size
    have HTr := Lib.hid hTr
    clear hTr
    by_cases hlt : k < s.size / 64
    · have hmm := HM.out
      have ht1 : 64 ≤ t.size := by omega
      have hts : t.size ≤ 9223372036854775807 := by omega
      have htk : (t.extract 0 64).data.toList = (s.data.toList.drop (64 * k)).take 64 := by rw [extract_list, ht]; simp
      have htd : (t.extract 64 t.size).data.toList = s.data.toList.drop (64 * (k + 1)) := by
        rw [extract_list, ht, List.drop_drop, List.take_of_length_le (by rw [List.length_drop]; simp; omega), show 64 * k + 64 = 64 * (k + 1) by omega]
      have hn : blocksN (k + 1) [a, b, c, d, e, f, g, y] s.data.toList = blockN (blocksN k [a, b, c, d, e, f, g, y] s.data.toList) (t.extract 0 64).data.toList := by
        rw [htk]; exact blocksN_snoc k _ _ (by simp; omega)
      have h81 := blockN_eight h8 (t.extract 0 64).data.toList
      rw [← hn] at h81
      have hmx : ∀ W, Tabs W → _ := fun W hW => mix_any (t.extract 0 64) (blocksN k [a, b, c, d, e, f, g, y] s.data.toList) W (by simp [ByteArray.size_extract]; omega) h8 hW
      rw [← hn] at hmx
      have hex : (t.extract 64 t.size).size = 64 * (s.size / 64 - (k + 1)) := by simp [ByteArray.size_extract]; omega
      obtain ⟨A, B, C, D, E, F, G, H, hp, -⟩ := h8.parts
      rw [hp] at hmx r2
      have hmx : ∀ W, Tabs W → Calls Tryd.prog 46 #[.agg #[.int .u32 A, .int .u32 B, .int .u32 C, .int .u32 D, .int .u32 E, .int .u32 F, .int .u32 G, .int .u32 H], .string (t.extract 0 64)] W _ := hmx
      have c0 := r2.cell 0 _ (word_at _ 0 (by simp))
      have c1 := r2.cell 1 _ (word_at _ 1 (by simp))
      have c2 := r2.cell 2 _ (word_at _ 2 (by simp))
      have c3 := r2.cell 3 _ (word_at _ 3 (by simp))
      have c4 := r2.cell 4 _ (word_at _ 4 (by simp))
      have c5 := r2.cell 5 _ (word_at _ 5 (by simp))
      have c6 := r2.cell 6 _ (word_at _ 6 (by simp))
      have c7 := r2.cell 7 _ (word_at _ 7 (by simp))
      simp only [List.getD_cons_zero, List.getD_cons_succ] at c0 c1 c2 c3 c4 c5 c6 c7
      have HD := Lib.hid htd
      have HZ := Lib.hid hex
      obtain ⟨N, hN⟩ : ∃ N, blocksN (k + 1) [a, b, c, d, e, f, g, y] s.data.toList = N := ⟨_, rfl⟩
      rw [hN] at hmx h81
      have HX := Lib.hid hmx
      have HN := Lib.hid hN
      clear hN
      clear hmx htd hex htk hn hp h8 ht htz hmm
      go_wp2_with fail
      have ht1i : (64 : Int) ≤ (t.size : Int) := by omega
      go_still_tail 3, (by kernel_rfl)
      refine wpList_world (fun wd => IsRow wd w.heap.size 46 (wordsV [A, B, C, D, E, F, G, H]) ∧ IsRow wd (w.heap.size + 1) 46 (wordsV [0, 0, 0, 0, 0, 0, 0, 0]) ∧ Below w.heap.size w wd ∧ Tabs wd) ⟨r2, r4, below_drewN hB 1, HTr.out⟩ ?_
      clear r2 r4 hB HTr c0 c1 c2 c3 c4 c5 c6 c7
      rintro wd ⟨r2, r4, hB, hTd⟩
      have HTd := Lib.hid hTd
      clear hTd
      have hs8 : (wordsV N).toArray.size = 8 := by rw [List.size_toArray, wordsV_len]; exact h81.1
      have hV8 : (Tryd.prog.info? 46).map (·.size) = some (wordsV N).toArray.size := by rw [hs8]; kernel_rfl
      have hone : (wordsV N).toArray.all (·.oneCell') = true := by simp [wordsV, u32V, Value.oneCell']
      have hold : (wordsV [A, B, C, D, E, F, G, H]).toArray.size = (wordsV N).toArray.size := by rw [hs8]; rfl
      go_wp2_with (first
        | ((with_reducible refine (HX.out _ HTd.out).mono ?_); rintro e w2 ⟨rfl, hb2⟩; have r2' := r2.call hb2; have r4' := r4.call hb2; have hB2 := bthen hB hb2; have hR := IsRow.rowSelf r2' (wordsV N); have hR4 := r4'.rowOther (Nat.succ_ne_self _) (wordsV N).toArray; have hB3 := below_setRow hB2 (Nat.le_refl _) hB2.size (wordsV N).toArray; unfold IsRow at r2')
        | (refine wpList_store_row rfl 46 _ _ rfl w.heap.size (wordsV N).toArray rfl rfl _ _ r2' hV8 hold hone ?_))
      go_roundw
      case rel => exact ⟨k + 1, _, by omega, rfl, HD.out, HZ.out, by rw [HN.out]; exact hR, hR4, hB3⟩
      case measure => have := HZ.out; have := HM.out; simp; omega
    · have hk' : k = s.size / 64 := by omega
      have ht0 : ¬ 0 < t.size := by rw [hk'] at htz; omega
      have HE : Hid (Ending.returned (.agg (List.map u32V (blocksN (s.size / 64) [a, b, c, d, e, f, g, y] s.data.toList)).toArray) = Ending.returned (.agg (wordsV (blocksN k [a, b, c, d, e, f, g, y] s.data.toList)).toArray)) := Lib.hid (by rw [hk']; rfl)
      clear hk' htz ht hlt hk
      generalize blocksN k [a, b, c, d, e, f, g, y] s.data.toList = N at *
      have hs8 : (wordsV N).toArray.size = 8 := by rw [List.size_toArray, wordsV_len]; exact h8.1
      have hV8 : (Tryd.prog.info? 46).map (·.size) = some (wordsV N).toArray.size := by rw [hs8]; kernel_rfl
      have hone : (wordsV N).toArray.all (·.oneCell') = true := by simp [wordsV, u32V, Value.oneCell']
      have hold : (wordsV [0, 0, 0, 0, 0, 0, 0, 0]).toArray.size = (wordsV N).toArray.size := by rw [hs8]; rfl
      have hrow2 := IsRow.rowSelf r4 (wordsV N)
      have hbl := below_setRow hB (Nat.le_succ w.heap.size) hB.size (wordsV N).toArray
      unfold IsRow at r2 r4 hrow2
      generalize (wordsV N).toArray = X at *
      go_upto_region 4 with fail
      go_wp2_with (first | (refine wpList_load_row rfl 46 _ rfl w.heap.size rfl _ _ _ _ r2 Tryd.underlying46 rfl hV8 ?_) | (refine wpList_store_row rfl 46 _ _ rfl (w.heap.size + 1) X rfl rfl _ _ r4 hV8 hold hone ?_))
      refine bodyPost_ret (v := .agg X) ?_ rfl ⟨HE.out.symm, hbl⟩
      exact results_cell_row rfl _ _ (w.heap.size + 1) _ _ _ _ rfl hrow2 Tryd.underlying46 rfl hV8
end Go.Proofs.YtmmpnkcfekhkhaaDoor
