/- The walk of SealBursts. -/
import Derived.Test.YtmmpnkcfekhkhaaDoorBurM
import Derived.Test.YtmmpnkcfekhkhaaDoorSealC
import Derived.Test.YtmmpnkcfekhkhaaDoorShaF
import Derived.Test.YtmmpnkcfekhkhaaDoorRefC
import Derived.Test.YtmmpnkcfekhkhaaDoorRefD
import Derived.Test.YtmmpnkcfekhkhaaDoorTabs
import Derived.Test.YtmmpnkcfekhkhaaDoorBytes
import Derived.Deep.DeepCutAuto
import Derived.Deep.CutBlock
import Derived.Deep.LoopGhost
import Derived.Deep.RegionHeld3
import Derived.WalkLawsBesides
import Derived.WalkSpells
namespace Go.Proofs.YtmmpnkcfekhkhaaDoor
open Go.ChangeShapes Go.WideShapes Go.ChangeAt Go.RowKit

def cut60 (s : ByteArray) : ByteArray := if s.size ≤ 60 then s else s.extract 0 60
theorem cut60_ext (s : ByteArray) : s.extract 0 (min s.size 60) = cut60 s := by
  unfold cut60
  split
  · rw [Nat.min_eq_left (by assumption)]; simp
  · rw [Nat.min_eq_right (by omega)]
theorem cut60_size (s : ByteArray) : (cut60 s).size ≤ 60 := by
  unfold cut60; split
  · assumption
  · simp; omega
theorem run_min5 {P : Program} (w : World) (ts : Array TypeId) (t : TypeId) (x : Nat) : (Builtin.min_ ts t #[.int .i64 (x : Int), .int .i64 5]).run P w = .ok (.int .i64 ((min x 5 : Nat) : Int)) w := by
  simp [Builtin.min_, Builtin.min2]
  repeat' split
  all_goals omega
theorem run_min60 {P : Program} (w : World) (ts : Array TypeId) (t : TypeId) (x : Nat) : (Builtin.min_ ts t #[.int .i64 (x : Int), .int .i64 60]).run P w = .ok (.int .i64 ((min x 60 : Nat) : Int)) w := by
  simp [Builtin.min_, Builtin.min2]
  repeat' split
  all_goals omega
theorem run_cut60 {P : Program} (w : World) (t : TypeId) (s : ByteArray) (h : P.underlying t = some .string) :
    (Instr.slice t (.string s) none (some (.int .i64 ((min s.size 60 : Nat) : Int))) none).run P w = .ok (.string (cut60 s)) w := by
  have hj : (0 : Int) ≤ ((min s.size 60 : Nat) : Int) ∧ ((min s.size 60 : Nat) : Int) ≤ (s.size : Int) := ⟨by omega, by omega⟩
  rw [← cut60_ext]
  simp [Instr.slice, run_underlying h, hj, go_sem]
def smallL (ss : List ByteArray) : List ByteArray := (ss.take 5).map cut60

set_option maxHeartbeats 12800000 in
set_option maxRecDepth 100000 in
theorem sealBursts_walk {w : World} (a0 : Option Addr) (len0 cap0 : Nat) (ss0 : List ByteArray) (w0 : ss0.length = len0 ∧ HasStrs w a0 cap0 ss0) (a1 : Int) (_w1 : (Lit.int .i64 a1).wf = true) (a2 : Int) (_w2 : (Lit.int .i64 a2).wf = true) (a3 : Int) (w3 : (Lit.int .u32 a3).wf = true) (hT : Tabs w) :
    Calls Tryd.prog 6 #[.slice a0 len0 cap0, .int .i64 a1, .int .i64 a2, .int .u32 a3] w fun e w' => e = .returned (.bool true) ∧ Below w.heap.size w w' := by
  obtain ⟨rfl, h0⟩ := w0
  obtain ⟨B, rfl, hB⟩ : ∃ B : Nat, a3 = (B : Int) ∧ B < 4294967296 := by
    have := bounds_u32 w3
    exact ⟨a3.toNat, by omega, by omega⟩
  have HT := Lib.hid (fun W (h : Below w.heap.size w W) => Tabs.after hT h)
  have H0 := Lib.hid (fun W (h : Below w.heap.size w W) => h0.call h)
  have hcap := h0.1
  have hcm := h0.2.1
  unfold maxLen at hcm
  have hm5 := fun W (t : TypeId) (ts : Array TypeId) => run_min5 (P := Tryd.prog) W ts t ss0.length
  obtain ⟨m5, hm5e⟩ : ∃ m5, min ss0.length 5 = m5 := ⟨_, rfl⟩
  have hm5l : m5 ≤ ss0.length := by omega
  have hm55 : m5 ≤ 5 := by omega
  have hsm : smallL ss0 = (ss0.take m5).map cut60 := by
    unfold smallL; rw [← hm5e]; congr 1
    by_cases h : ss0.length ≤ 5
    · rw [Nat.min_eq_left h, List.take_of_length_le h, List.take_of_length_le (Nat.le_refl _)]
    · rw [Nat.min_eq_right (by omega)]
  rw [hm5e] at hm5
  have HSM := Lib.hid hsm
  clear hsm hm5e
  clear w3 hT h0
  go_enter Tryd.func6, Tryd.ntmps6
  go_upto_block 0 with fail
  go_cut [9] (fun v wx => ∃ a c, v = .slice a (smallL ss0).length c ∧ HasStrs wx a c (smallL ss0) ∧ Below w.heap.size w wx)
  case first =>
    obtain ⟨i0, hi, hz0, hz1, hz2⟩ := info_parts Tryd.infoS
    go_wp2_with fail
    go_loopg [9, 30] m5 (fun gg v iv wr => ∃ (k : Nat) (u : Value), u = v ∧ k + gg = m5 ∧ iv = .int .i64 (k : Int) ∧ wr.ownsRow w.heap.size 9 1 u k (strsV ((ss0.take k).map cut60)) ∧ Below w.heap.size w wr)
    case atStart => exact ⟨0, _, rfl, by omega, rfl, World.ownsRow_nil _ _ _ _, Below.refl _ _⟩
    case round =>
      obtain ⟨k, u, rfl, hkg, rfl, hown, hbl⟩ := hrel
      cases gk with
      | zero =>
        obtain rfl : k = m5 := by omega
        have hlen : ((ss0.take k).map cut60).length = k := by simp; omega
        obtain ⟨a', c', e9, hh⟩ := strs_of_own (w := wr) (base := w.heap.size) (e := 9) (ss := (ss0.take k).map cut60) (by rw [hlen]; exact hown) (fun s hs => by
          obtain ⟨x, _, rfl⟩ := List.mem_map.1 hs
          have := cut60_size x
          unfold maxLen; omega)
        rw [← HSM.out] at e9 hh
        have HH := Lib.hid hh
        have HE := Lib.hid e9
        clear hh e9 hlen hown
        go_wp2_with fail
        go_meet
        exact ⟨a', c', HE.out, HH.out, hbl⟩
      | succ gg =>
        have hkm : k < ss0.length := by omega
        obtain ⟨_, _, h3, h4⟩ := H0.out _ hbl
        rcases h4 with h4 | ⟨b, off, rfl, hbb, hcell⟩
        · rw [h4] at hkm; simp at hkm
        have hc := hcell k hkm
        have hsx := h3 _ (List.getElem_mem hkm)
        have hts : (ss0.take (k + 1)).map cut60 = (ss0.take k).map cut60 ++ [cut60 ss0[k]] := by
          rw [List.take_succ_eq_append_getElem hkm, List.map_append]; rfl
        obtain ⟨X, hX⟩ : ∃ X, ss0[k] = X := ⟨_, rfl⟩
        rw [hX] at hc hts hsx
        unfold maxLen at hsx
        have HTS := Lib.hid hts
        clear hcell h3 hbb hX hts
        have hs1 := fun W => run_cut60 (P := Tryd.prog) W 9 X Tryd.underlying9
        have hm1 := fun W (t : TypeId) (ts : Array TypeId) => run_min60 (P := Tryd.prog) W ts t X.size
        generalize cut60 X = Y at *
        generalize min X.size 60 = m1 at *
        go_wp2_with (at_builtin; refine (wpList_push wr rfl _ _ 29 rfl w.heap.size 9 i0 (.string ⟨#[]⟩) 16 Tryd.underlying29 hi hz0 hz1 hz2 rfl u k (strsV ((ss0.take k).map cut60)) rfl hown (.string Y) rfl rfl ?c1 ?c2 ?c3 ?_))
        case c1 => unfold maxLen; omega
        case c2 => omega
        case c3 => exact hbl.size
        intro g c2 w2 hown2 hg2
        go_wp2_with fail
        go_roundg gg
        case measure => omega
        case rel => exact ⟨k + 1, _, rfl, by omega, by go_num, by rw [HTS.out, ← strsV_push, List.map_take]; exact hown2, hbl.grown hg2 hbl.size (fun k hk => (hown.lt k hk).1)⟩
  case rest =>
    obtain ⟨a, c, rfl, hS, hb⟩ := hcut
    obtain ⟨Wa, rfl⟩ : ∃ Wa, Wa = wc := ⟨_, rfl⟩
    have hL5 : (smallL ss0).length ≤ 5 := by simp [smallL]; omega
    have hLs : ∀ s ∈ smallL ss0, s.size ≤ 60 := fun s hs => by
      obtain ⟨x, _, rfl⟩ := List.mem_map.1 hs
      exact cut60_size x
    generalize smallL ss0 = L at *
    have HLS := Lib.hid hLs
    have FS := Lib.hid (fun W (h : Below Wa.heap.size Wa W) => hS.call h)
    have FB := Lib.hid (fun W (h : Below Wa.heap.size Wa W) => bthen hb h)
    have FA := Lib.hid (fun W (h : Below Wa.heap.size Wa W) => alive_any W (HT.out _ (bthen hb h)))
    have FT := Lib.hid (fun W (h : Below Wa.heap.size Wa W) => HT.out _ (bthen hb h))
    clear hS hb HT H0 hm5 hcap hcm hLs HSM hm5l hm55
    by_cases hl0 : L.length = 0
    · have t1 : ((L.length : Int) == 0) = true := by rw [beq_iff_eq]; omega
      go_wp2_with (go_at_call 9; (with_reducible refine (FA.out _ (Below.refl _ _)).mono ?_); rintro e w5 ⟨rfl, hb5⟩)
      go_ret
      exact ⟨rfl, FB.out _ hb5⟩
    have t1 : ((L.length : Int) == 0) = false := by rw [beq_eq_false_iff_ne]; omega
    by_cases hb0 : B = 0
    · subst hb0
      go_wp2_with (go_at_call 9; (with_reducible refine (FA.out _ (Below.refl _ _)).mono ?_); rintro e w5 ⟨rfl, hb5⟩)
      go_ret
      exact ⟨rfl, FB.out _ hb5⟩
    have t2 : ((B : Int) == 0) = false := by rw [beq_eq_false_iff_ne]; omega
    have hm := Int.tmod_lt_of_pos a1 (show (0 : Int) < (L.length : Int) by omega)
    have hm2 : -(L.length : Int) < a1.tmod (L.length : Int) := by
      have := Int.tmod_lt_of_pos (-a1) (show (0 : Int) < (L.length : Int) by omega)
      rw [Int.neg_tmod] at this
      omega
    go_upto_region 9 with fail
    go_cut [1] (fun x wx => ∃ J : Nat, x = .int .i64 J ∧ J < L.length ∧ Wa = wx)
    case first =>
      go_wp2_with fail
      go_meet
      refine ⟨((a1.tmod L.length + L.length) % L.length).toNat, ?_, ?_, rfl⟩
      · have := Int.emod_nonneg (a1.tmod L.length + L.length) (show (L.length : Int) ≠ 0 by omega)
        congr 1; omega
      · have := Int.emod_lt_of_pos (a1.tmod L.length + L.length) (show (0 : Int) < (L.length : Int) by omega)
        omega
    case rest =>
      obtain ⟨J, rfl, hJ, rfl⟩ := hcut
      clear hm hm2 t1 t2 hl0
      have hcells : ∃ b off, a = some ⟨b, off, none⟩ ∧ ∀ W, Below Wa.heap.size Wa W → ∀ i (h : i < L.length), W.cell? ⟨b, off + i, none⟩ = some (.string L[i]) := by
        rcases (FS.out _ (Below.refl _ _)).2.2.2 with h4 | ⟨b, off, e, _⟩
        · rw [h4] at hJ; simp at hJ
        · refine ⟨b, off, e, fun W hW i hi => ?_⟩
          rcases (FS.out W hW).2.2.2 with h4 | ⟨b', off', e', _, hc⟩
          · rw [h4] at hi; simp at hi
          · rw [e] at e'; cases e'; exact hc i hi
      obtain ⟨b, off, rfl, hcell⟩ := hcells
      have HC := Lib.hid hcell
      have hc := hcell _ (Below.refl _ _) J hJ
      have hsz := HLS.out _ (List.getElem_mem hJ)
      obtain ⟨s, hs⟩ : ∃ s, L[J] = s := ⟨_, rfl⟩
      rw [hs] at hc hsz
      have HSJ := Lib.hid hs
      clear hcell hs
      by_cases hs0 : s.size = 0
      · have hse : s.toList.isEmpty = true := by
          rw [List.isEmpty_iff, ByteArray.toList_eq]
          exact List.eq_nil_of_length_eq_zero (by rw [← size_list]; exact hs0)
        have hse2 : s.toList = [] := by simpa using hse
        go_wp2_with (go_at_call 9; (with_reducible refine (FA.out _ (Below.refl _ _)).mono ?_); rintro e w5 ⟨rfl, hb5⟩)
        go_ret
        exact ⟨rfl, FB.out _ hb5⟩
      have hse : s.toList.isEmpty = false := by
        rw [List.isEmpty_eq_false_iff, ByteArray.toList_eq]
        intro e
        have := congrArg List.length e
        rw [← size_list, List.length_nil] at this
        omega
      have hse2 : (s.toList == ([] : List UInt8)) = false := by
        rw [beq_eq_false_iff_ne]; simpa using hse
      have hm := Int.tmod_lt_of_pos a2 (show (0 : Int) < 8 * (s.size : Int) by omega)
      have hm2 : -(8 * (s.size : Int)) < a2.tmod (8 * (s.size : Int)) := by
        have := Int.tmod_lt_of_pos (-a2) (show (0 : Int) < 8 * (s.size : Int) by omega)
        rw [Int.neg_tmod] at this
        omega
      go_upto_region 14 with fail
      go_cut [2] (fun x wx => ∃ A : Nat, x = .int .i64 A ∧ A < 8 * s.size ∧ Wa = wx)
      case first =>
        go_wp2_with fail
        go_meet
        refine ⟨((a2.tmod (8 * s.size) + 8 * s.size) % (8 * s.size)).toNat, ?_, ?_, rfl⟩
        · have := Int.emod_nonneg (a2.tmod (8 * s.size) + 8 * s.size) (show 8 * (s.size : Int) ≠ 0 by omega)
          congr 1; omega
        · have := Int.emod_lt_of_pos (a2.tmod (8 * s.size) + 8 * s.size) (show (0 : Int) < 8 * (s.size : Int) by omega)
          omega
      case rest =>
        obtain ⟨A, rfl, hA, rfl⟩ := hcut
        clear hm hm2 hse hse2 hc
        go_upto_region 15 with fail
        go_cut [14] (fun v wx => ∃ g c : Nat, v = .slice (some ⟨g, 0, none⟩) s.size c ∧ HasBytes wx g s.data.toList ∧ Wa.heap.size ≤ g ∧ Below Wa.heap.size Wa wx)
        case first =>
          have hbs := fun (W : World) => run_bytes_of_string (P := Tryd.prog) W 9 41 5 s Tryd.underlying9 Tryd.underlying41 Tryd.underlying5
          go_wp2_with fail
          go_meet
          have hl := HasBytes.of_string Wa s (grownCap Wa s.size 0 5) 5 ((bytesRow s (grownCap Wa s.size 0 5)).size + 1)
          exact ⟨Wa.heap.size, _, rfl, hl.drew, Nat.le_refl _, ((Below.refl _ _).alloc (Nat.le_refl _) _).drew⟩
        case rest =>
          obtain ⟨g, cb, rfl, hx, hg, hbx⟩ := hcut
          have HX := Lib.hid hx
          have HB := Lib.hid hbx
          clear hx hbx
          go_upto_block 2 with fail
          go_cut [14] (fun v wx => ∃ X d, v = .slice (some ⟨g, 0, none⟩) s.size cb ∧ HasBytes wx g X ∧ X.length = s.size ∧ d < 4294967296 ∧ num X = num s.data.toList ^^^ 2 ^ A * d ∧ Below Wa.heap.size Wa wx)
          case first =>
            go_wp2_with fail
            go_loopg [80] 32 (fun gg i wr => ∃ (k d : Nat) (X : List UInt8), k + gg = 32 ∧ i = .int .i64 (k : Int) ∧ HasBytes wr g X ∧ Below Wa.heap.size Wa wr ∧ X.length = s.size ∧ d < 2 ^ k ∧ num X = num s.data.toList ^^^ 2 ^ A * d)
            case atStart => exact ⟨0, 0, _, by omega, rfl, HX.out, HB.out, by simp, by omega, by simp⟩
            case round =>
              obtain ⟨k, d, X, hkg, rfl, hX, hb, hl, hd, hn⟩ := hrel
              have HB := Lib.hid hb
              have HN := Lib.hid hn
              have HD := Lib.hid hd
              clear hb hn hd
              cases gk with
                | zero =>
                  obtain rfl : k = 32 := by omega
                  have hd := HD.out
                  have h32 : ¬ ((32 : Nat) : Int) < 32 := by omega
                  clear hd
                  go_wp2_with fail
                  go_meet
                  exact ⟨X, d, rfl, hX, hl, by simpa using HD.out, HN.out, HB.out⟩
                | succ gg =>
                  have h32 : k < 32 := by omega
                  by_cases hbit : B / 2 ^ k % 2 = 1
                  · have ha : bits .and .u32 ((B : Int) / 2 ^ k) 1 = 1 := by
                      have e := u32_and_nat (B / 2 ^ k) 1 (Nat.lt_of_le_of_lt (Nat.div_le_self _ _) hB) (by omega)
                      rw [Nat.and_one_is_mod, hbit] at e
                      simpa using e
                    by_cases hp : A + k < 8 * s.size
                    · have hc := hX.cell ((A + k) / 8) (by omega)
                      have hf := hX.free ((A + k) / 8) (by omega)
                      have hlt : 2 ^ ((A + k) % 8) < 256 := Nat.pow_lt_pow_right (n := 8) (by omega) (Nat.mod_lt _ (by omega))
                      have he : (UInt8.ofNat (2 ^ ((A + k) % 8))).toNat = 2 ^ ((A + k) % 8) := by simp [Nat.mod_eq_of_lt hlt]
                      have hxx : bits .xor .u8 (X[(A + k) / 8].toNat : Int) (2 ^ ((A + k) % 8) % 256) = ((X[(A + k) / 8] ^^^ UInt8.ofNat (2 ^ ((A + k) % 8))).toNat : Int) := by
                        rw [UInt8.toNat_xor, he, ← u8_xor_nat _ _ X[(A + k) / 8].toNat_lt hlt]
                        congr 1
                        rw [show ((2 : Int) ^ ((A + k) % 8) % 256) = ((2 ^ ((A + k) % 8) % 256 : Nat) : Int) by push_cast; rfl, Nat.mod_eq_of_lt hlt]
                      have hnum : num (X.set ((A + k) / 8) (X[(A + k) / 8] ^^^ UInt8.ofNat (2 ^ ((A + k) % 8)))) = num s.data.toList ^^^ 2 ^ A * (d ^^^ 2 ^ k) := by
                        rw [num_set X _ _ (by omega), he, ← Nat.pow_add, show 8 * ((A + k) / 8) + (A + k) % 8 = A + k by omega, HN.out, burst_step]
                      have HXX := Lib.hid hxx
                      have HNM := Lib.hid hnum
                      clear hbit he hlt hxx hnum
                      go_wp2_with fail
                      go_region
                      all_goals
                        go_wp2
                        go_roundg gg
                        case rel =>
                          rw [HXX.out]
                          exact ⟨k + 1, d ^^^ 2 ^ k, _, by omega, by go_num, (hX.set _ _).drew, (HB.out.setCell hg _).drew, by simpa using hl, Nat.xor_lt_two_pow (Nat.lt_trans HD.out (Nat.pow_lt_pow_right (by omega) (by omega))) (Nat.pow_lt_pow_right (by omega) (by omega)), HNM.out⟩
                        case measure => omega
                    · have hp2 : 8 * (s.size : Int) ≤ (A : Int) + (k : Int) := by omega
                      clear hbit hp
                      go_wp2
                      go_roundg gg
                      case rel => exact ⟨k + 1, d, X, by omega, by go_num, hX, HB.out, hl, Nat.lt_trans HD.out (Nat.pow_lt_pow_right (by omega) (by omega)), HN.out⟩
                      case measure => omega
                  · have ha : bits .and .u32 ((B : Int) / 2 ^ k) 1 = 0 := by
                      have e := u32_and_nat (B / 2 ^ k) 1 (Nat.lt_of_le_of_lt (Nat.div_le_self _ _) hB) (by omega)
                      rw [Nat.and_one_is_mod, show B / 2 ^ k % 2 = 0 by omega] at e
                      simpa using e
                    clear hbit
                    go_wp2
                    go_roundg gg
                    case rel => exact ⟨k + 1, d, X, by omega, by go_num, hX, HB.out, hl, Nat.lt_trans HD.out (Nat.pow_lt_pow_right (by omega) (by omega)), HN.out⟩
                    case measure => omega
          case rest =>
            obtain ⟨X, d, rfl, hX, hl, hd, hn, hbx⟩ := hcut
            have hconv : ∀ W, HasBytes W g X → (convert 41 9 (.slice (some ⟨g, 0, none⟩) s.size cb)).run Tryd.prog W = .ok (.string ⟨X.toArray⟩) W := by
              intro W h
              have := h.str (P := Tryd.prog) (src := 41) (dst := 9) (cap := cb) Tryd.underlying41 Tryd.underlying5 Tryd.underlying9
              rw [hl] at this
              exact this
            have HV := Lib.hid hconv
            have hcv := hconv _ hX
            clear hconv HX HB
            by_cases hE : X = s.data.toList
            · have hxx : (X == s.toList) = true := by rw [hE, ByteArray.toList_eq]; simp
              clear hE hl hd hn
              go_wp2_with (go_at_call 9; (with_reducible refine (FA.out _ hbx).mono ?_); rintro e w5 ⟨rfl, hb5⟩)
              go_ret
              exact ⟨rfl, bthen (FB.out _ hbx) hb5⟩
            have hxx : (X == s.toList) = false := by rw [beq_eq_false_iff_ne, ByteArray.toList_eq]; exact hE
            have hburst : crcN X ≠ crcN s.data.toList := burst (p := A) (by simpa using hl) (by simp; omega) (by simpa using hd) hn hE
            have hck : checkS L[J]! ≠ checkS ⟨X.toArray⟩ := by
              rw [getElem!_pos L J hJ, HSJ.out]
              exact checkS_ne (fun e => hburst e.symm)
            have hXs : (⟨X.toArray⟩ : ByteArray).size ≤ 60 := by
              have e : (⟨X.toArray⟩ : ByteArray).size = X.length := by simp [ByteArray.size]
              omega
            have hop := open_hurt (ss := L) (j := J) (X := ⟨X.toArray⟩) hL5 HLS.out hXs hck
            have hht := fun k (hk : k < L.length) => hurtL_take L J ⟨X.toArray⟩ hJ k hk
            have hhl := hurtL_length L J ⟨X.toArray⟩ hJ
            have hhs : ∀ x ∈ hurtL L J ⟨X.toArray⟩, x.size ≤ 8200 := fun x hx => by
              unfold hurtL at hx
              rcases List.mem_append.1 hx with hx | hx
              · obtain ⟨y, hy, rfl⟩ := List.mem_map.1 hx
                have := frameS_size (s := y) (by have := HLS.out y (List.mem_of_mem_take hy); omega)
                omega
              · rcases List.mem_cons.1 hx with rfl | hx
                · have := hurt_size (s := L[J]!) hXs; omega
                · obtain ⟨y, hy, rfl⟩ := List.mem_map.1 hx
                  have := frameS_size (s := y) (by have := HLS.out y (List.mem_of_mem_drop hy); omega)
                  omega
            have HHS := Lib.hid hhs
            have HOP := Lib.hid hop
            have HHT := Lib.hid hht
            have HHL := Lib.hid hhl
            clear hhs hop hht hhl hE hburst hck hd hn
            obtain ⟨i0, hi, hz0, hz1, hz2⟩ := info_parts Tryd.infoS
            generalize hurtL L J ⟨X.toArray⟩ = Q at *
            obtain ⟨XB, hXB⟩ : ∃ XB : ByteArray, (⟨X.toArray⟩ : ByteArray) = XB := ⟨_, rfl⟩
            rw [hXB] at HHT hXs HV hcv
            have hxx2 : (XB.toList == s.toList) = false := by rw [← hXB, ByteArray.toList_eq]; exact hxx
            clear hXB
            obtain ⟨base, hbz, hgb⟩ : ∃ base, base ≤ wc.heap.size ∧ g < base := ⟨_, Nat.le_refl _, hX.lt⟩
            have HXB := Lib.hid hX
            have HBX := Lib.hid hbx
            have hwb : Wa.heap.size ≤ base := by omega
            clear hX hbx
            go_upto_block 4 with fail
            go_cut [17] (fun v wx => ∃ a' c', v = .slice a' Q.length c' ∧ HasStrs wx a' c' Q ∧ Below Wa.heap.size Wa wx)
            case first =>
              go_wp2_with fail
              go_loopg [17, 114] L.length (fun gg v iv wr => ∃ (k : Nat) (u : Value), u = v ∧ k + gg = L.length ∧ iv = .int .i64 (k : Int) ∧ wr.ownsRow base 9 1 u k (strsV (Q.take k)) ∧ HasBytes wr g X ∧ Below Wa.heap.size Wa wr ∧ base ≤ wr.heap.size)
              case atStart => exact ⟨0, _, rfl, by omega, rfl, World.ownsRow_nil _ _ _ _, HXB.out, HBX.out, hbz⟩
              case round =>
                obtain ⟨k, u, rfl, hkg, rfl, hown, hxb, hbl, hbz2⟩ := hrel
                cases gk with
                | zero =>
                  obtain rfl : k = L.length := by omega
                  have hq : Q.take L.length = Q := List.take_of_length_le (by rw [HHL.out]; exact Nat.le_refl _)
                  rw [hq] at hown
                  obtain ⟨a', c', e9, hh⟩ := strs_of_own (w := wr) (base := base) (e := 9) (ss := Q) (by rw [HHL.out]; exact hown) (fun s hs => by
                    have := HHS.out s hs
                    unfold maxLen; omega)
                  have HH := Lib.hid hh
                  have HE := Lib.hid e9
                  clear hh e9 hown hq
                  go_wp2_with fail
                  go_meet
                  exact ⟨a', c', HE.out, HH.out, hbl⟩
                | succ gg =>
                  have hkm : k < L.length := by omega
                  have hc := HC.out _ hbl k hkm
                  have hsx := HLS.out _ (List.getElem_mem hkm)
                  have hts := HHT.out k hkm
                  obtain ⟨Z, hZ⟩ : ∃ Z, L[k] = Z := ⟨_, rfl⟩
                  rw [hZ] at hc hts hsx
                  have hck := fun W => rcheck_any Z W (by unfold maxLen; omega)
                  have hcz : (checkS Z).size = 4 := checkS_size Z
                  have hx2 : (checkS Z).size ≤ maxLen := by rw [hcz]; unfold maxLen; omega
                  have HTS := Lib.hid hts
                  have HCK := Lib.hid hck
                  clear hts hck hZ
                  generalize checkS Z = C at *
                  by_cases hkJ : k = J
                  · have tk : ((k : Int) == (J : Int)) = true := by rw [beq_iff_eq]; omega
                    have hcv2 := HV.out _ hxb
                    have hbd : ∀ a c W, HasStrs W a c [XB, C] → Calls Tryd.prog 25 #[.slice a 2 c] W fun e w' => e = .returned (.string ⟨(bindL [XB, C]).toArray⟩) ∧ Below W.heap.size W w' := fun a c W hw => rbind_any a c [XB, C] W hw (by simp) (fun y hy => by
                      simp only [List.mem_cons, List.not_mem_nil, or_false] at hy
                      rcases hy with rfl | rfl <;> omega)
                    have hts2 : Q.take (k + 1) = Q.take k ++ [⟨(bindL [XB, C]).toArray⟩] := by rw [HTS.out, if_pos hkJ]
                    have HTS2 := Lib.hid hts2
                    have HBD := Lib.hid hbd
                    have HH2 := Lib.hid (fun W => HasStrs.new2 W XB C 9 (by unfold maxLen; omega) hx2)
                    clear hts2 hbd
                    obtain ⟨F, hF⟩ : ∃ F : ByteArray, (⟨(bindL [XB, C]).toArray⟩ : ByteArray) = F := ⟨_, rfl⟩
                    rw [hF] at HBD HTS2
                    clear hF HTS hkJ
                    go_wp2_with (first
                      | (go_at_call 26; (with_reducible refine (HCK.out _).mono ?_); rintro e w2 ⟨rfl, hb2⟩)
                      | (go_at_call 25; (with_reducible refine (HBD.out _ _ _ (HH2.out _)).mono ?_); rintro e w3 ⟨rfl, hb3⟩; have hb4 : Below wr.heap.size wr w3 := ((hb2.alloc hb2.size _).trans (hb3.mono (by simp; have := hb2.size; omega))); have hown3 := owns_call hown hb4; have hbl3 := bthen hbl hb4; have hs3 := Nat.le_trans hbz2 hb4.size; have hxb3 := hxb.call hb4)
                      | (at_builtin; refine (wpList_push w3 rfl _ _ 29 rfl base 9 i0 (.string ⟨#[]⟩) 16 Tryd.underlying29 hi hz0 hz1 hz2 rfl u k (strsV (Q.take k)) rfl hown3 (.string F) rfl rfl ?c1 ?c2 ?c3 ?_)))
                    case c1 => unfold maxLen; omega
                    case c2 => omega
                    case c3 => exact hs3
                    intro g2 c2 w5 hown5 hg5
                    go_wp2_with fail
                    go_roundg gg
                    case measure => omega
                    case rel => exact ⟨k + 1, _, rfl, by omega, by go_num, by rw [HTS2.out, ← strsV_push]; exact hown5, hxb3.of_heap (hg5.block g hxb3.lt (fun e => by have := (World.ownsRow.lt hown3 g e.symm).1; omega)), hbl3.grown hg5 hbl3.size (fun k hk => Nat.le_trans hwb (hown3.lt k hk).1), Nat.le_trans hs3 hg5.size⟩
                  · have tk : ((k : Int) == (J : Int)) = false := by rw [beq_eq_false_iff_ne]; omega
                    have hbd : ∀ a c W, HasStrs W a c [Z, C] → Calls Tryd.prog 25 #[.slice a 2 c] W fun e w' => e = .returned (.string ⟨(bindL [Z, C]).toArray⟩) ∧ Below W.heap.size W w' := fun a c W hw => rbind_any a c [Z, C] W hw (by simp) (fun y hy => by
                      simp only [List.mem_cons, List.not_mem_nil, or_false] at hy
                      rcases hy with rfl | rfl <;> omega)
                    have hts2 : Q.take (k + 1) = Q.take k ++ [⟨(bindL [Z, C]).toArray⟩] := by rw [HTS.out, if_neg hkJ]
                    have HTS2 := Lib.hid hts2
                    have HBD := Lib.hid hbd
                    have HH2 := Lib.hid (fun W => HasStrs.new2 W Z C 9 (by unfold maxLen; omega) hx2)
                    clear hts2 hbd
                    obtain ⟨F, hF⟩ : ∃ F : ByteArray, (⟨(bindL [Z, C]).toArray⟩ : ByteArray) = F := ⟨_, rfl⟩
                    rw [hF] at HBD HTS2
                    clear hF HTS hkJ
                    go_wp2_with (first
                      | (go_at_call 26; (with_reducible refine (HCK.out _).mono ?_); rintro e w2 ⟨rfl, hb2⟩)
                      | (go_at_call 25; (with_reducible refine (HBD.out _ _ _ (HH2.out _)).mono ?_); rintro e w3 ⟨rfl, hb3⟩; have hb4 : Below wr.heap.size wr w3 := ((hb2.alloc hb2.size _).trans (hb3.mono (by simp; have := hb2.size; omega))); have hown3 := owns_call hown hb4; have hbl3 := bthen hbl hb4; have hs3 := Nat.le_trans hbz2 hb4.size; have hxb3 := hxb.call hb4)
                      | (at_builtin; refine (wpList_push w3 rfl _ _ 29 rfl base 9 i0 (.string ⟨#[]⟩) 16 Tryd.underlying29 hi hz0 hz1 hz2 rfl u k (strsV (Q.take k)) rfl hown3 (.string F) rfl rfl ?c1 ?c2 ?c3 ?_)))
                    case c1 => unfold maxLen; omega
                    case c2 => omega
                    case c3 => exact hs3
                    intro g2 c2 w5 hown5 hg5
                    go_wp2_with fail
                    go_roundg gg
                    case measure => omega
                    case rel => exact ⟨k + 1, _, rfl, by omega, by go_num, by rw [HTS2.out, ← strsV_push]; exact hown5, hxb3.of_heap (hg5.block g hxb3.lt (fun e => by have := (World.ownsRow.lt hown3 g e.symm).1; omega)), hbl3.grown hg5 hbl3.size (fun k hk => Nat.le_trans hwb (hown3.lt k hk).1), Nat.le_trans hs3 hg5.size⟩
            case rest =>
              obtain ⟨a', c', rfl, hQ, hbq⟩ := hcut
              have hbd := rbind_any a' c' Q wc hQ (by rw [HHL.out]; omega) HHS.out
              have hbl : (bindL Q).length ≤ 50000 := by
                have := bindL_len Q HHS.out
                rw [HHL.out] at this
                omega
              obtain ⟨BQ, hBQ⟩ : ∃ BQ : ByteArray, (⟨(bindL Q).toArray⟩ : ByteArray) = BQ := ⟨_, rfl⟩
              have hop := HOP.out
              have e1 : (⟨(sealB ++ bindL Q).toArray⟩ : ByteArray) = ⟨#[115, 101, 97, 108]⟩ ++ BQ := by
                rw [← hBQ]; exact ba_of_list (by first | rfl | (rw [data_app]; rfl))
              have hBs : BQ.size ≤ 50000 := by
                have : BQ.size = (bindL Q).length := by rw [size_list, ← hBQ]
                omega
              have hfl : (⟨#[115, 101, 97, 108]⟩ ++ BQ : ByteArray).data.toList = sealB ++ bindL Q := by rw [← e1]
              have hsz : (⟨#[115, 101, 97, 108]⟩ ++ BQ : ByteArray).size = 4 + BQ.size := by rw [ByteArray.size_append]; rfl
              have hsm := fun W => rsum_any (⟨#[115, 101, 97, 108]⟩ ++ BQ) W (by omega)
              rw [hfl] at hsm
              obtain ⟨S, hS⟩ : ∃ S : ByteArray, (⟨(shaL (sealB ++ bindL Q)).toArray⟩ : ByteArray) = S := ⟨_, rfl⟩
              have hSs : S.size = 32 := by rw [← hS, size_list]; exact shaL_len _
              rw [hS] at hsm
              have e2 : (⟨((sealB ++ bindL Q) ++ shaL (sealB ++ bindL Q)).toArray⟩ : ByteArray) = (⟨#[115, 101, 97, 108]⟩ ++ BQ) ++ S := by
                refine ba_of_list ?_
                have h2 := hfl
                simp only [data_app] at h2 ⊢
                rw [h2, ← hS]
              rw [e2] at hop
              rw [hBQ] at hbd
              have hopn := fun W hW => open_any ((⟨#[115, 101, 97, 108]⟩ ++ BQ) ++ S) W (by rw [ByteArray.size_append, hsz]; omega) hW
              rw [hop] at hopn
              unfold LoosePost at hopn
              have p1 : ¬ 9223372036854775807 < 4 + BQ.size := by omega
              have p2 : ¬ 9223372036854775807 < 4 + BQ.size + S.size := by omega
              have HBD := Lib.hid hbd
              have HSM := Lib.hid hsm
              have HON := Lib.hid hopn
              have HBQ := Lib.hid hbq
              clear hbd hbl hBQ hop e1 hfl hsz hsm hS e2 hopn hQ hbq hSs hBs
              rw [HHL.out]
              rw [HHL.out] at HBD
              go_wp2_with (first
                | (go_at_call 25; (with_reducible refine HBD.out.mono ?_); rintro e w3 ⟨rfl, hb3⟩; have hb13 := bthen HBQ.out hb3)
                | (go_at_call 11; (with_reducible refine (HSM.out _).mono ?_); rintro e w4 ⟨rfl, hb4⟩; have hb14 := bthen hb13 hb4)
                | (go_at_call 20; (with_reducible refine (HON.out _ (FT.out _ hb14)).mono ?_); rintro e w5 ⟨a5, c5, rfl, hS5, hb5⟩; have hb15 := bthen hb14 hb5)
                | (go_at_call 9; (with_reducible refine (FA.out _ hb15).mono ?_); rintro e w6 ⟨rfl, hb6⟩))
              go_ret
              exact ⟨rfl, bthen (FB.out _ hb15) hb6⟩
end Go.Proofs.YtmmpnkcfekhkhaaDoor
