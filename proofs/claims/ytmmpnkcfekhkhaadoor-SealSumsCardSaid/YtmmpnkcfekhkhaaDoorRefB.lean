/- The contract of the document's own words behind a block. -/
import Derived.Test.YtmmpnkcfekhkhaaDoorRefA
import Derived.Deep.RegionLaw
import Derived.Deep.RegionHeld3
namespace Go.Proofs.YtmmpnkcfekhkhaaDoor
open Go.RowKit

theorem Tryd.infoU : (Tryd.prog.info? 40).map (fun i => (i.zero, i.size, i.bytes)) = some (some (.int .u32 0), 1, 4) := by kernel_rfl
theorem hasWs_of_own {w : World} {base T : Nat} {v : Value} {X : List Nat} (h : OwnsM w base T 1 v X.length (wordsV X)) (hX : X ≠ []) : ∃ g c, v = .slice (some ⟨g, 0, none⟩) X.length c ∧ base ≤ g ∧ HasWs w g c X := by
  have hh := h
  rcases h.2 with ⟨_, h0⟩ | ⟨g, cap, cur, fz, rfl, hb, hg, hfz, hn, hm, hcs, ht⟩
  · exact absurd (List.eq_nil_of_length_eq_zero h0) hX
  · refine ⟨g, cap, rfl, hb, lt_of_block hg, hn, hm, fun i hi => ?_⟩
    have := hh.cells (g := g) rfl i _ (word_at X i hi)
    have e0 : (⟨g, 0, none⟩ : Addr).add i = ⟨g, i, none⟩ := by unfold Addr.add; split <;> simp_all
    rw [e0] at this
    exact this
theorem OwnsM.cellAt {w : World} {base T : Nat} {v : Value} {X : List Nat} (h : OwnsM w base T 1 v X.length (wordsV X)) {g : Nat} {n c : Nat} (hv : v = .slice (some ⟨g, 0, none⟩) n c) (i : Nat) (hi : i < X.length) : w.cell? ⟨g, i, none⟩ = some (.int .u32 ((X.getD i 0 : Nat) : Int)) := by
  subst hv
  have := h.cells (g := g) rfl i _ (word_at X i hi)
  have e0 : (⟨g, 0, none⟩ : Addr).add i = ⟨g, i, none⟩ := by unfold Addr.add; split <;> simp_all
  rw [e0] at this
  exact this
set_option maxRecDepth 100000 in
/-- the constants, in a block of their own -/
theorem keys_any (w : World) : Calls Tryd.prog 15 #[] w (WsPost KK w) := by
  go_enter Tryd.func15, Tryd.ntmps15
  go_wp2
  go_ret
  exact ⟨w.heap.size, 64, rfl, HasWs.new w KK _ (by unfold maxLen; rw [KK_len]; omega), (Below.refl _ _).alloc (Nat.le_refl _) _⟩
theorem first_any (w : World) : Calls Tryd.prog 17 #[] w (WsPost HH w) := by
  go_enter Tryd.func17, Tryd.ntmps17
  go_wp2
  go_ret
  exact ⟨w.heap.size, 8, rfl, HasWs.new w HH _ (by unfold maxLen; rw [HH_len]; omega), (Below.refl _ _).alloc (Nat.le_refl _) _⟩

theorem keys64 (w : World) : Calls Tryd.prog 15 #[] w fun e w' => ∃ g c, e = .returned (.slice (some ⟨g, 0, none⟩) 64 c) ∧ HasWs w' g c KK ∧ Below w.heap.size w w' := keys_any w
theorem first8 (w : World) : Calls Tryd.prog 17 #[] w fun e w' => ∃ g c, e = .returned (.slice (some ⟨g, 0, none⟩) 8 c) ∧ HasWs w' g c HH ∧ Below w.heap.size w w' := first_any w
theorem rround8 (st : List Nat) (g c k x : Nat) (w : World) (hst : Eight st) (hws : HasWs w g c st) (hk : k < 4294967296) (hx : x < 4294967296) :
    Calls Tryd.prog 48 #[.slice (some ⟨g, 0, none⟩) 8 c, .int .u32 k, .int .u32 x] w fun e w' => ∃ g c, e = .returned (.slice (some ⟨g, 0, none⟩) 8 c) ∧ HasWs w' g c (rndL st k x) ∧ Below w.heap.size w w' := by
  have h := rround_any st g c k x w hst hws hk hx
  unfold WsPost at h
  rw [(rndL_eight hst k x).1] at h
  exact h
theorem schedN_getD (b : List UInt8) (t : Nat) : (schedN b (t + 1)) = schedN b t ++ [if t < 16 then wordN b t else nextN (schedN b t) t] := rfl

set_option maxHeartbeats 3200000 in
set_option maxRecDepth 100000 in
theorem rblock_any (st : List Nat) (g c : Nat) (s : ByteArray) (w : World) (hst : Eight st) (hws : HasWs w g c st) (hs : s.size = 64) :
    Calls Tryd.prog 33 #[.slice (some ⟨g, 0, none⟩) 8 c, .string s] w fun e w' => ∃ g c, e = .returned (.slice (some ⟨g, 0, none⟩) 8 c) ∧ HasWs w' g c (blockN st s.data.toList) ∧ Below w.heap.size w w' := by
  obtain ⟨i0, hi, hz0, hz1, hz2⟩ := info_parts Tryd.infoU
  have hs1 : 64 ≤ s.size := by omega
  have hs2 : s.size ≤ 64 := by omega
  have HWS := Lib.hid hws
  have HST := Lib.hid hst
  clear hs hws
  go_enter Tryd.func33, Tryd.ntmps33
  go_wp2_with fail
  go_loopw [5, 6] (fun v i wr => ∃ t : Nat, t ≤ 16 ∧ i = .int .i64 t ∧ OwnsM wr w.heap.size 40 1 v t (wordsV (schedN s.data.toList t)) ∧ Below w.heap.size w wr) (fun _ i _ => 16 - (intOf i).toNat)
  case atStart => exact ⟨0, by omega, rfl, OwnsM.new w [] _ (by unfold maxLen; simp), (Below.refl _ _).alloc (Nat.le_refl _) _⟩
  case round =>
    obtain ⟨t, ht, rfl, hown, hB⟩ := hrel
    have hsB := hB.size
    by_cases h16 : t < 16
    · have hdt : decide ((t : Int) < 16) = true := by simp; omega
      have hsch := schedN_getD s.data.toList t
      rw [if_pos h16] at hsch
      have HSC := Lib.hid hsch
      have hwt : accN s.data.toList (4 * t) 4 = wordN s.data.toList t := rfl
      have HWT := Lib.hid hwt
      clear hsch hwt
      go_wp2_with fail
      go_loop [7, 8] (fun x i => ∃ k : Nat, k ≤ 4 ∧ i = .int .i64 k ∧ x = .int .u32 (accN s.data.toList (4 * t) k : Nat)) (fun _ i => 4 - (intOf i).toNat)
      case atStart => exact ⟨0, by omega, rfl, rfl⟩
      case round =>
        obtain ⟨k, hk, rfl, rfl⟩ := hrel
        have hlt := accN_lt s.data.toList (4 * t) k
        by_cases h4 : k < 4
        · have hp := Nat.pow_le_pow_right (n := 256) (by omega) (show k ≤ 3 by omega)
          have hidx : 4 * t + k < s.size := by omega
          have ha : accN s.data.toList (4 * t) (k + 1) = accN s.data.toList (4 * t) k * 256 + (s[4 * t + k]).toNat := by rw [accN, getD_byte s (4 * t + k) hidx]
          have hx : accN s.data.toList (4 * t) k < 16777216 := by omega
          have hby := (s[4 * t + k]).toNat_lt
          have HA := Lib.hid ha
          clear ha hp hlt
          generalize accN s.data.toList (4 * t) k = X at *
          go_wp2
          go_round
          case rel => exact ⟨k + 1, by omega, by go_num, by rw [HA.out]; congr 1; omega⟩
          case measure => simp [intOf]; omega
        · have hk4 : ¬ (k : Int) < 4 := by omega
          have hw : accN s.data.toList (4 * t) k = wordN s.data.toList t := by rw [show k = 4 by omega]; rfl
          rw [hw] at hlt ⊢
          have hwl := wordN_lt s.data.toList t
          clear hlt hw
          generalize wordN s.data.toList t = X at *
          go_wp2_with (at_builtin; refine (wpList_pushM wr rfl _ _ 25 rfl w.heap.size 40 i0 (.int .u32 0) 4 Tryd.underlying25 hi hz0 hz1 hz2 rfl u5 t _ rfl hown [.int .u32 (X : Int)] wr.heap.size rfl rfl (by simp [Value.oneCell']) (by unfold maxLen; simp; omega) (by simp; omega) hsB ?_))
          intro v2 w2 hown2 hg2
          go_wp2
          go_roundw
          case rel => exact ⟨t + 1, by omega, by go_num, by rw [HSC.out, wordsV_app]; exact hown2, hB.grown hg2 hsB (fun k hk => (hown.lt k hk).1)⟩
          case measure => simp [intOf]; omega
    · have ht16 : 16 ≤ t := by omega
      have ht16' : t ≤ 16 := ht
      have HWS2 := HWS.out.below hB HWS.out.1 hB.size
      go_wp2_with fail
      go_loopw [5, 9] (fun v i wx => ∃ t : Nat, 16 ≤ t ∧ t ≤ 64 ∧ i = .int .i64 t ∧ OwnsM wx w.heap.size 40 1 v t (wordsV (schedN s.data.toList t)) ∧ Below w.heap.size w wx) (fun _ i _ => 64 - (intOf i).toNat)
      case atStart => exact ⟨16, by omega, by omega, rfl, by rw [show t = 16 by omega] at hown; exact hown, hB⟩
      case round =>
        clear hown hB hsB HWS2 ht16 ht16' ht h16
        obtain ⟨t, ht16, ht64, rfl, hown, hB⟩ := hrel
        have hsB := hB.size
        have hlen := schedN_len s.data.toList t
        have hlt := schedN_lt s.data.toList t
        have hne : schedN s.data.toList t ≠ [] := by intro h; rw [h] at hlen; simp at hlen; omega
        have hx := hasWs_of_own (X := schedN s.data.toList t) (by rw [hlen]; exact hown) hne
        rw [hlen] at hx
        obtain ⟨gv, cv, rfl, hgv, hwv⟩ := hx
        obtain ⟨hv1, hv2, hv3, hv4⟩ := hwv
        rw [hlen] at hv2 hv4
        unfold maxLen at hv3
        by_cases h64 : t < 64
        · have hdt : decide ((t : Int) < 64) = true := by simp; omega
          have hsch := schedN_getD s.data.toList t
          rw [if_neg (by omega)] at hsch
          have hnx : nextN (schedN s.data.toList t) t = add2 (add2 (add2 (sg1 ((schedN s.data.toList t).getD (t - 2) 0)) ((schedN s.data.toList t).getD (t - 7) 0)) (sg0 ((schedN s.data.toList t).getD (t - 15) 0))) ((schedN s.data.toList t).getD (t - 16) 0) := rfl
          rw [hnx] at hsch
          have c2 := hv4 (t - 2) (by omega)
          have c7 := hv4 (t - 7) (by omega)
          have c15 := hv4 (t - 15) (by omega)
          have c16 := hv4 (t - 16) (by omega)
          have l2 := getD_lt hlt (t - 2)
          have l7 := getD_lt hlt (t - 7)
          have l15 := getD_lt hlt (t - 15)
          have l16 := getD_lt hlt (t - 16)
          have HSC := Lib.hid hsch
          clear hsch hnx hv4 hlt hlen hne
          generalize (schedN s.data.toList t).getD (t - 2) 0 = x2 at *
          generalize (schedN s.data.toList t).getD (t - 7) 0 = x7 at *
          generalize (schedN s.data.toList t).getD (t - 15) 0 = x15 at *
          generalize (schedN s.data.toList t).getD (t - 16) 0 = x16 at *
          have b2 := sg1_lt l2
          have b15 := sg0_lt l15
          have r17 := fun W => rturn_any x2 17 17 W rfl l2 (by omega)
          have r19 := fun W => rturn_any x2 19 19 W rfl l2 (by omega)
          have q7 := fun W => rturn_any x15 7 7 W rfl l15 (by omega)
          have q18 := fun W => rturn_any x15 18 18 W rfl l15 (by omega)
          have R17 := Lib.hid r17
          have R19 := Lib.hid r19
          have Q7 := Lib.hid q7
          have Q18 := Lib.hid q18
          have p1 : bits .xor .u32 (bits .xor .u32 (rotN x2 17 : Nat) (rotN x2 19 : Nat)) ((x2 : Int) / 1024) = ((sg1 x2 : Nat) : Int) := by
            rw [u32_xor_nat _ _ (rotN_lt (by omega) l2) (rotN_lt (by omega) l2), show (x2 : Int) / 1024 = ((x2 / 1024 : Nat) : Int) from rfl, u32_xor_nat _ _ (xor_lt (rotN_lt (by omega) l2) (rotN_lt (by omega) l2)) (by omega)]; rfl
          have p2 : bits .xor .u32 (bits .xor .u32 (rotN x15 7 : Nat) (rotN x15 18 : Nat)) ((x15 : Int) / 8) = ((sg0 x15 : Nat) : Int) := by
            rw [u32_xor_nat _ _ (rotN_lt (by omega) l15) (rotN_lt (by omega) l15), show (x15 : Int) / 8 = ((x15 / 8 : Nat) : Int) from rfl, u32_xor_nat _ _ (xor_lt (rotN_lt (by omega) l15) (rotN_lt (by omega) l15)) (by omega)]; rfl
          have A2 := u32_add
          have M2 := u32_mod
          clear r17 r19 q7 q18
          have hraw : IntKind.u32.wrap (IntKind.u32.wrap (IntKind.u32.wrap (bits .xor .u32 (bits .xor .u32 (rotN x2 17 : Nat) (rotN x2 19 : Nat)) (IntKind.u32.wrap ((x2 : Int) / 1024)) + (x7 : Int)) + bits .xor .u32 (bits .xor .u32 (rotN x15 7 : Nat) (rotN x15 18 : Nat)) (IntKind.u32.wrap ((x15 : Int) / 8))) + (x16 : Int)) = ((add2 (add2 (add2 (sg1 x2) x7) (sg0 x15)) x16 : Nat) : Int) := by
            rw [IntWalk.u32_in ((x2 : Int) / 1024) (by omega), IntWalk.u32_in ((x15 : Int) / 8) (by omega), p1, p2, u32_add, u32_add, u32_add]
          have HRAW := Lib.hid hraw
          clear hraw p1 p2 A2 M2 b2 b15
          have w7 : IntKind.i64.wrap ((t : Int) - 7) = (t : Int) - 7 := IntWalk.i64_in _ (by omega)
          have w16 : IntKind.i64.wrap ((t : Int) - 16) = (t : Int) - 16 := IntWalk.i64_in _ (by omega)
          have n7 : ((t : Int) - 7).toNat = t - 7 := by omega
          have n16 : ((t : Int) - 16).toNat = t - 16 := by omega
          have g7 : (7 : Int) ≤ t := by omega
          have g16 : (16 : Int) ≤ t := by omega
          have m7 : (t : Int) - 7 < t := by omega
          have m16 : (t : Int) - 16 < t := by omega
          go_wp2_with fail
          have hS0 : wr.drew.cell? ⟨gv, t - 7, none⟩ = some (.int .u32 x7) ∧ wr.drew.cell? ⟨gv, t - 16, none⟩ = some (.int .u32 x16) := ⟨c7, c16⟩
          have hSA : ∀ o, (wr.drew.alloc o).cell? ⟨gv, t - 7, none⟩ = some (.int .u32 x7) ∧ (wr.drew.alloc o).cell? ⟨gv, t - 16, none⟩ = some (.int .u32 x16) := fun o =>
            ⟨(World.cell?_of_block (Below.heap_alloc wr.drew o gv hv1)).trans c7, (World.cell?_of_block (Below.heap_alloc wr.drew o gv hv1)).trans c16⟩
          go_region_held3 (fun w' => w'.cell? ⟨gv, t - 7, none⟩ = some (.int .u32 x7) ∧ w'.cell? ⟨gv, t - 16, none⟩ = some (.int .u32 x16))
            (first | exact hS0 | exact hSA _ | exact ⟨(hkeep _ (by omega)).trans c7, (hkeep _ (by omega)).trans c16⟩)
            (first
              | (go_at_call 47; first | ((with_reducible refine (R17.out _).mono ?_); rintro e wq ⟨rfl, rfl⟩) | ((with_reducible refine (R19.out _).mono ?_); rintro e wq ⟨rfl, rfl⟩) | ((with_reducible refine (Q7.out _).mono ?_); rintro e wq ⟨rfl, rfl⟩) | ((with_reducible refine (Q18.out _).mono ?_); rintro e wq ⟨rfl, rfl⟩))
              | (refine step_pushK wr.drew (by rfl) (.tmp 54) (.tmp 84) 25 (by rfl) w.heap.size 40 i0 (.int .u32 0) 4 Tryd.underlying25 hi hz0 hz1 hz2 rfl gv cv t (wordsV (schedN s.data.toList t)) (by rfl) hown.drew [.int .u32 (IntKind.u32.wrap (IntKind.u32.wrap (IntKind.u32.wrap (bits .xor .u32 (bits .xor .u32 (rotN x2 17 : Nat) (rotN x2 19 : Nat)) (IntKind.u32.wrap ((x2 : Int) / 1024)) + (x7 : Int)) + bits .xor .u32 (bits .xor .u32 (rotN x15 7 : Nat) (rotN x15 18 : Nat)) (IntKind.u32.wrap ((x15 : Int) / 8))) + (x16 : Int)))] wr.heap.size (by rfl) rfl (by simp [Value.oneCell']) (by unfold maxLen; simp; omega) (by simp; omega) hsB ?_; intro v2 w2 hown2 hg2 hkeep))
          rw [HRAW.out] at hown2
          have hg3 : wr.grownBy w2 (some gv) := ⟨hg2.os, hg2.tape, hg2.output, hg2.size, hg2.block⟩
          go_wp2
          go_roundw
          case rel => exact ⟨t + 1, by omega, by omega, by go_num, by rw [HSC.out, wordsV_app]; exact hown2, hB.grown hg3 hsB (fun k hk => by cases hk; exact hgv)⟩
          case measure => simp [intOf]; omega
        · have ht64' : t = 64 := by omega
          have hW64 : schedN s.data.toList t = schedN s.data.toList 64 := by rw [ht64']
          have hbl : blockN st s.data.toList = List.zipWith add2 st (rndsN st (schedN s.data.toList 64) 64) := rfl
          rw [← hW64] at hbl
          have HBL := Lib.hid hbl
          have hWS : HasWs wr g c st := HWS.out.below hB HWS.out.1 hB.size
          have hWW : HasWs wr gv cv (schedN s.data.toList t) := ⟨hv1, by rw [hlen]; exact hv2, by unfold maxLen; exact hv3, fun i hi => hv4 i (by omega)⟩
          have hWl : (schedN s.data.toList t).length = 64 := by omega
          have HWB := Lib.hid hlt
          have ht64i : ¬ (t : Int) < 64 := by omega
          have hvt : 64 ≤ cv := by omega
          clear hbl hW64 hv4 hlt hlen hne hown
          generalize schedN s.data.toList t = W at *
          have HT := Lib.hid ht64'
          clear ht64'
          go_wp2_with (go_at_call 15; (with_reducible refine (keys64 _).mono ?_); rintro e w2 ⟨gk, ck, rfl, hK, hb2⟩)
          have hB2 := bthen hB hb2
          have hWS2 := hWS.call hb2
          have hWW2 := hWW.call hb2
          have hs2 := hB2.size
          clear hWS hWW hb2 hB
          go_loopw [12, 14] (fun v i wx => ∃ (k gr cr : Nat), k ≤ 64 ∧ i = .int .i64 k ∧ v = .slice (some ⟨gr, 0, none⟩) 8 cr ∧ HasWs wx gr cr (rndsN st W k) ∧ Below w2.heap.size w2 wx) (fun _ i _ => 64 - (intOf i).toNat)
          case atStart => exact ⟨0, g, c, by omega, rfl, rfl, hWS2, Below.refl _ _⟩
          case round =>
            obtain ⟨k, gr, cr, hk, rfl, rfl, hR, hB3⟩ := hrel
            have h8 := rndsN_eight HST.out W k
            have hK3 := hK.call hB3
            have hW3 := hWW2.call hB3
            by_cases hk64 : k < 64
            · have hdk : decide ((k : Int) < 64) = true := by simp; omega
              have hki : (k : Int) < 64 := by omega
              have hki0 : (0 : Int) ≤ (k : Int) := by omega
              have hkt : (k : Int) < (t : Int) := by have := HT.out; omega
              have hnx : rndsN st W (k + 1) = rndL (rndsN st W k) (KK.getD k 0) (W.getD k 0) := rfl
              have ck1 := hK3.2.2.2 k (by rw [KK_len]; exact hk64)
              have cw1 := hW3.2.2.2 k (by omega)
              have lk := getD_lt KK_lt k
              have lw := getD_lt HWB.out k
              have kc1 : 64 ≤ ck := hK3.2.1
              have hci : (64 : Int) ≤ (ck : Int) := by omega
              have hrr := fun Wd (h : HasWs Wd gr cr (rndsN st W k)) => rround8 (rndsN st W k) gr cr (KK.getD k 0) (W.getD k 0) Wd h8 h lk lw
              rw [← hnx] at hrr
              have HRR := Lib.hid hrr
              clear hrr hnx
              generalize KK.getD k 0 = kk at *
              generalize W.getD k 0 = ww at *
              go_wp2_with fail
              go_still_tail 9, (by kernel_rfl)
              refine wpList_world (fun wz => HasWs wz gr cr (rndsN st W k) ∧ Below w2.heap.size w2 wz) ?_ ?_
              · exact ⟨hR, below_drewN hB3 1⟩
              rintro wz ⟨hRz, hBz⟩
              clear hR hB3 hK3 hW3 ck1 cw1
              go_wp2_with (go_at_call 48; (with_reducible refine (HRR.out _ hRz).mono ?_); rintro e w5 ⟨g5, c5, rfl, hR5, hb5⟩)
              go_roundw
              case rel => exact ⟨k + 1, g5, c5, by omega, by go_num, rfl, hR5, bthen hBz hb5⟩
              case measure => simp [intOf]; omega
            · have hk64' : k = 64 := by omega
              have hbl2 : blockN st s.data.toList = List.zipWith add2 st (rndsN st W k) := by rw [HBL.out, hk64']
              have hki : ¬ (k : Int) < 64 := by omega
              have hS3 := hWS2.call hB3
              have hB5 := bthen hB2 hB3
              obtain ⟨R, hRR⟩ : ∃ R, R = rndsN st W k := ⟨_, rfl⟩
              rw [← hRR] at hbl2 hR h8
              obtain ⟨T, hT⟩ : ∃ T, T = List.zipWith add2 st R := ⟨_, rfl⟩
              rw [← hT] at hbl2
              have hTl : T.length = 8 := by rw [hT]; exact (zip_eight HST.out h8).1
              have hTk : ∀ j, j < 8 → T.take (j + 1) = T.take j ++ [add2 (st.getD j 0) (R.getD j 0)] := fun j hj => by
                have h1 := HST.out.1
                have h2 := h8.1
                rw [List.take_succ_eq_append_getElem (by omega)]
                congr 2
                simp [hT, List.getD_eq_getElem?_getD, show j < st.length by omega, show j < R.length by omega]
              have HBL2 := Lib.hid hbl2
              have HTK := Lib.hid hTk
              clear hbl2 hTk hT hRR hk64' hK3 hW3 hB3 hWS2 hWW2 hs2 hB2 hK
              go_wp2_with fail
              go_loopw [15, 105] (fun v i wx => ∃ k : Nat, k ≤ 8 ∧ i = .int .i64 k ∧ OwnsM wx wr.heap.size 40 1 v k (wordsV (T.take k)) ∧ Below wr.heap.size wr wx) (fun _ i _ => 8 - (intOf i).toNat)
              case atStart => exact ⟨0, by omega, rfl, OwnsM.new wr [] _ (by unfold maxLen; simp), (Below.refl _ _).alloc (Nat.le_refl _) _⟩
              case round =>
                obtain ⟨j, hj, rfl, hown, hB6⟩ := hrel
                have hsz := hB6.size
                by_cases hj8 : j < 8
                · have hji : (j : Int) < 8 := by omega
                  have hji0 : (0 : Int) ≤ (j : Int) := by omega
                  have d1 := (hS3.call hB6).2.2.2 j (by rw [HST.out.1]; exact hj8)
                  have d2 := (hR.call hB6).2.2.2 j (by rw [h8.1]; exact hj8)
                  have htk := HTK.out j hj8
                  have HTJ := Lib.hid htk
                  have A2 := u32_add
                  clear htk
                  generalize st.getD j 0 = aa at *
                  generalize R.getD j 0 = bb at *
                  go_wp2_with fail
                  go_region_law (refine step_pushM wr.drew rfl (.tmp 108) (.tmp 118) 25 rfl _ 40 i0 (.int .u32 0) 4 Tryd.underlying25 hi hz0 hz1 hz2 rfl u15 j (wordsV (T.take j)) (by simp [Act.eval, Act.put]) hown.drew [.int .u32 ((add2 aa bb : Nat) : Int)] wr.heap.size (by simp [Act.eval, Act.put]) rfl (by simp [Value.oneCell']) (by unfold maxLen; simp; omega) (by simp; omega) hsz ?_; intro v2 w6 hown6 hg6)
                  all_goals
                    have hg7 : wr.grownBy w6 u15.ownBlock := ⟨hg6.os, hg6.tape, hg6.output, hg6.size, hg6.block⟩
                    go_wp2
                    go_roundw
                    case rel => exact ⟨j + 1, by omega, by go_num, by rw [HTJ.out, wordsV_app]; exact hown6, hB6.grown hg7 hsz (fun k hk => (hown.lt k hk).1)⟩
                    case measure => simp [intOf]; omega
                · have hj8' : j = T.length := by omega
                  rw [hj8', List.take_of_length_le (Nat.le_refl _)] at hown
                  obtain ⟨g9, c9, rfl, _, hW9⟩ := hasWs_of_own hown (by intro h; rw [h] at hTl; simp at hTl)
                  rw [hTl]
                  clear hown hj8'
                  go_wp2
                  go_ret
                  exact ⟨g9, c9, rfl, by rw [HBL2.out]; exact hW9, bthen hB5 hB6⟩
end Go.Proofs.YtmmpnkcfekhkhaaDoor
