/- FrameBursts: for every text, place and pattern of 32 bits, a text that is changed within these bits has another check. No condition. -/
import Derived.Test.YtpgakhdcbkcmdaaAlive
import Derived.Test.YtpgakhdcbkcmdaaBytes
import Derived.Test.YtpgakhdcbkcmdaaMath2
import Derived.ProofKit
import Derived.OpenShut
import Derived.ShutString
import Derived.ChangeOld
import Derived.Below
import Derived.WalkLawsBesides
import Derived.WalkSpells
import Derived.Deep.DeepCutAuto
import Derived.Deep.RegionHeld3
namespace Go.Proofs.Ytpgakhdcbkcmdaa
open Go.ChangeShapes Go.WideShapes Go.ChangeAt Go.RowKit
open Go.ChangeMaps (open_string shut_string)

set_option maxHeartbeats 1600000 in
set_option maxRecDepth 100000 in
theorem frameBursts_walk (a0 : ByteArray) (w0 : a0.size ≤ maxLen) (a1 : Int) (w1 : (Lit.int .i64 a1).wf = true) (a2 : Int) (w2 : (Lit.int .u32 a2).wf = true) (w : World) :
    Calls Try.prog 7 #[.string a0, .int .i64 a1, .int .u32 a2] w fun e w' => e = .returned (.bool true) ∧ Below w.heap.size w w' := by
  obtain ⟨B, rfl, hB⟩ : ∃ B : Nat, a2 = (B : Int) ∧ B < 4294967296 := by
    have := bounds_u32 w2
    exact ⟨a2.toNat, by omega, by omega⟩
  clear w1 w2
  unfold maxLen at w0
  go_enter Try.func7, Try.ntmps7
  go_upto_region 1 with fail
  go_cut [0] (fun s wx => ∃ s1 : ByteArray, s = .string s1 ∧ s1.size ≤ 200 ∧ w = wx)
  case first =>
    by_cases h4 : a0.size ≤ 200
    all_goals
      go_wp2_with fail
      go_meet
      exact ⟨_, rfl, by first | omega | (simp; omega), rfl⟩
  case rest =>
    obtain ⟨s, rfl, hs, rfl⟩ := hcut
    clear w0
    by_cases h0 : s.size = 0
    · have h0' : ((s.size : Int) == 0) = true := by rw [beq_iff_eq]; omega
      go_wp2_with (go_at_call 13; refine (alive_any _).mono ?_; rintro e w5 ⟨rfl, hb5⟩)
      go_ret
      exact ⟨rfl, hb5⟩
    · have h0' : ((s.size : Int) == 0) = false := by rw [beq_eq_false_iff_ne]; omega
      by_cases hb0 : B = 0
      · subst hb0
        go_wp2_with (go_at_call 13; refine (alive_any _).mono ?_; rintro e w5 ⟨rfl, hb5⟩)
        go_ret
        exact ⟨rfl, hb5⟩
      · have hb0' : ((B : Int) == 0) = false := by rw [beq_eq_false_iff_ne]; omega
        have hm := Int.tmod_lt_of_pos a1 (show (0 : Int) < 8 * (s.size : Int) by omega)
        have hm2 : -(8 * (s.size : Int)) < a1.tmod (8 * (s.size : Int)) := by 
          have := Int.tmod_lt_of_pos (-a1) (show (0 : Int) < 8 * (s.size : Int) by omega)
          rw [Int.neg_tmod] at this
          omega
        go_upto_region 5 with fail
        go_cut [1] (fun x wx => ∃ A : Nat, x = .int .i64 A ∧ A < 8 * s.size ∧ w = wx)
        case first =>
          go_wp2_with fail
          go_meet
          refine ⟨((a1.tmod (8 * s.size) + 8 * s.size) % (8 * s.size)).toNat, ?_, ?_, rfl⟩
          · have := Int.emod_nonneg (a1.tmod (8 * s.size) + 8 * s.size) (show 8 * (s.size : Int) ≠ 0 by omega)
            congr 1; omega
          · have := Int.emod_lt_of_pos (a1.tmod (8 * s.size) + 8 * s.size) (show (0 : Int) < 8 * (s.size : Int) by omega)
            omega
        case rest =>
          obtain ⟨A, rfl, hA, rfl⟩ := hcut
          clear hm hm2 h0' hb0' h0 hb0
          go_upto_region 6 with fail
          go_cut [8] (fun v wx => ∃ g c : Nat, v = .slice (some ⟨g, 0, none⟩) s.size c ∧ HasBytes wx g s.data.toList ∧ w.heap.size ≤ g ∧ Below w.heap.size w wx)
          case first =>
            have hbs := fun (W : World) => run_bytes_of_string (P := Try.prog) W 9 35 5 s Try.underlying9 Try.underlying35 Try.underlying5
            go_wp2_with fail
            go_meet
            have hl := HasBytes.of_string w s (grownCap w s.size 0 5) 5 ((bytesRow s (grownCap w s.size 0 5)).size + 1)
            exact ⟨w.heap.size, _, rfl, hl.drew, Nat.le_refl _, ((Below.refl _ _).alloc (Nat.le_refl _) _).drew⟩
          case rest =>
            obtain ⟨g, c, rfl, hx, hg, hb⟩ := hcut
            have HB := Lib.hid hb
            clear hb
            go_wp2_with fail
            go_loopw [36] (fun i wr => ∃ (k d : Nat) (X : List UInt8), k ≤ 32 ∧ i = .int .i64 k ∧ HasBytes wr g X ∧ Below w.heap.size w wr ∧ X.length = s.size ∧ d < 2 ^ k ∧ num X = num s.data.toList ^^^ 2 ^ A * d) (fun i _ => 32 - (intOf i).toNat)
            case atStart => exact ⟨0, 0, _, by omega, rfl, hx, HB.out, by simp, by omega, by simp⟩
            case round =>
              obtain ⟨k, d, X, hk, rfl, hX, hb, hl, hd, hn⟩ := hrel
              have HB := Lib.hid hb
              have HN := Lib.hid hn
              have HD := Lib.hid hd
              clear hb hn hd
              by_cases h32 : k < 32
              · by_cases hbit : B / 2 ^ k % 2 = 1
                · have ha : bits .and .u32 ((B : Int) / 2 ^ k) 1 = 1 := by
                    have e := u32_and_nat (B / 2 ^ k) 1 (Nat.lt_of_le_of_lt (Nat.div_le_self _ _) hB) (by omega)
                    rw [Nat.and_one_is_mod, hbit] at e
                    simpa using e
                  by_cases hp : A + k < 8 * s.size
                  · have hc := hX.cell ((A + k) / 8) (by omega)
                    have hf := hX.free ((A + k) / 8) (by omega)
                    have hlt : 2 ^ ((A + k) % 8) < 256 := Nat.pow_lt_pow_right (n := 8) (by omega) (Nat.mod_lt _ (by omega))
                    have he : (UInt8.ofNat (2 ^ ((A + k) % 8))).toNat = 2 ^ ((A + k) % 8) := by simp [Nat.mod_eq_of_lt hlt]
                    have hxx : bits .xor .u8 (X[(A + k) / 8].toNat : Int) (2 ^ ((A + k) % 8) % 256) = ((X[(A + k) / 8] ^^^ UInt8.ofNat (2 ^ ((A + k) % 8))).toNat : Int) := by
                      rw [UInt8.toNat_xor, he, ← u8_xor_nat _ _ X[(A + k) / 8].toNat_lt hlt]
                      congr 1
                      rw [show ((2 : Int) ^ ((A + k) % 8) % 256) = ((2 ^ ((A + k) % 8) % 256 : Nat) : Int) by push_cast; rfl, Nat.mod_eq_of_lt hlt]
                    have hnum : num (X.set ((A + k) / 8) (X[(A + k) / 8] ^^^ UInt8.ofNat (2 ^ ((A + k) % 8)))) = num s.data.toList ^^^ 2 ^ A * (d ^^^ 2 ^ k) := by
                      rw [num_set X _ _ (by omega), he, ← Nat.pow_add, show 8 * ((A + k) / 8) + (A + k) % 8 = A + k by omega, HN.out, burst_step]
                    have HXX := Lib.hid hxx
                    have HNM := Lib.hid hnum
                    clear hbit he hlt hxx hnum
                    go_wp2_with fail
                    go_region
                    all_goals
                      go_wp2
                      go_roundw
                      case rel =>
                        rw [HXX.out]
                        exact ⟨k + 1, d ^^^ 2 ^ k, _, by omega, by go_num, (hX.set _ _).drew, (HB.out.setCell hg _).drew, by simpa using hl, Nat.xor_lt_two_pow (Nat.lt_trans HD.out (Nat.pow_lt_pow_right (by omega) (by omega))) (Nat.pow_lt_pow_right (by omega) (by omega)), HNM.out⟩
                      case measure => simp [intOf]; omega
                  · have hp2 : 8 * (s.size : Int) ≤ (A : Int) + (k : Int) := by omega
                    clear hbit hp
                    go_wp2
                    go_roundw
                    case rel => exact ⟨k + 1, d, X, by omega, by go_num, hX, HB.out, hl, Nat.lt_trans HD.out (Nat.pow_lt_pow_right (by omega) (by omega)), HN.out⟩
                    case measure => simp [intOf]; omega
                · have ha : bits .and .u32 ((B : Int) / 2 ^ k) 1 = 0 := by
                    have e := u32_and_nat (B / 2 ^ k) 1 (Nat.lt_of_le_of_lt (Nat.div_le_self _ _) hB) (by omega)
                    rw [Nat.and_one_is_mod, show B / 2 ^ k % 2 = 0 by omega] at e
                    simpa using e
                  clear hbit
                  go_wp2
                  go_roundw
                  case rel => exact ⟨k + 1, d, X, by omega, by go_num, hX, HB.out, hl, Nat.lt_trans HD.out (Nat.pow_lt_pow_right (by omega) (by omega)), HN.out⟩
                  case measure => simp [intOf]; omega
              · obtain rfl : k = 32 := by omega
                have hd := HD.out
                have cx := fun W => crc_any ⟨X.toArray⟩ W (by unfold maxLen; simp [ByteArray.size]; omega)
                have c0 := fun W => crc_any s W (by unfold maxLen; omega)
                simp only [] at cx
                have hburst : X ≠ s.data.toList → crcN X ≠ crcN s.data.toList := burst (p := A) (by simpa using hl) (by simp; omega) (by simpa using hd) HN.out
                have hconv : ∀ W, HasBytes W g X → (convert 35 9 (.slice (some ⟨g, 0, none⟩) s.size c)).run Try.prog W = .ok (.string ⟨X.toArray⟩) W := by
                  intro W h
                  have := h.str (P := Try.prog) (src := 35) (dst := 9) (cap := c) Try.underlying35 Try.underlying5 Try.underlying9
                  rw [hl] at this
                  exact this
                by_cases hE : X = s.data.toList
                · have hsE : (⟨X.toArray⟩ : ByteArray) = s := by rw [hE]
                  rw [hsE] at hconv
                  have HV := Lib.hid hconv
                  clear hconv cx hburst hE hsE hl c0 hd HN HD
                  go_wp2_with (go_at_call 13; refine (alive_any _).mono ?_; rintro e w5 ⟨rfl, hb5⟩; have hcv := HV.out _ (hX.call hb5))
                  go_ret
                  refine ⟨rfl, ?_⟩
                  repeat (first | exact HB.out | refine bthen ?_ (by assumption))
                · have hne := hburst hE
                  have hsE : (X == s.toList) = false := by rw [beq_eq_false_iff_ne, ByteArray.toList_eq]; exact hE
                  generalize crcN X = C1 at *
                  generalize crcN s.data.toList = C0 at *
                  have hq1 : ((C1 : Int) == (C0 : Int)) = false := by rw [beq_eq_false_iff_ne]; omega
                  have hq2 : ((C1 : Int) != (C0 : Int)) = true := by rw [bne_iff_ne]; omega
                  have HV := Lib.hid hconv
                  have KX := Lib.hid cx
                  have K0 := Lib.hid c0
                  clear hconv cx hburst hE hl c0 hd HN HD hne
                  go_wp2_with (first
                    | (go_at_call 13; refine (alive_any _).mono ?_; rintro e w5 ⟨rfl, hb5⟩; have hcv := HV.out _ (hX.call hb5))
                    | (go_at_call_of 15 (Value.string ⟨X.toArray⟩); refine (KX.out _).mono ?_; rintro e w6 ⟨rfl, hb6⟩)
                    | (go_at_call_of 15 (Value.string s); refine (K0.out _).mono ?_; rintro e w7 ⟨rfl, hb7⟩))
                  go_ret
                  refine ⟨rfl, ?_⟩
                  repeat (first | exact HB.out | refine bthen ?_ (by assumption))

set_option maxRecDepth 100000 in
theorem frameBursts_lifted (os : Os) (started : os.Started) (H : Type) (enc : TypeId × Value → H) :
    ReturnsInHanded {} Try.checked os 7 .any (Rows.frameBurstsSpec.pre6 enc Try.prog Try.f7 Rows.frameBurstsRow.domain false) (Rows.frameBurstsSpec.post enc Try.prog Try.f7 false true false false) := by
  refine returnsInHanded_of_change (C := Try.checked) (by kernel_rfl) started (by kernel_rfl) Try.func7
    (ChangeSpec.witness6 (enc := enc) (C := Try.checked) false ⟨#[], #[.string ByteArray.empty, .int .i64 0, .int .u32 0], []⟩ 8 (by kernel_rfl) (by kernel_rfl) (by kernel_rfl) (by kernel_rfl)) ?_
  intro W base args ds gs before hval0 hW hcnd _
  have hval : ∀ (j : Nat) t v, Try.f7.params[j]? = some t → args[j]? = some v → Value.okWide Try.prog W .any base t v := hval0
  have hW' := hW
  obtain ⟨p, q, hA0, hV, rfl, hfz, hnd⟩ := hW
  have hA : DataW.TrodAll enc Try.prog W 0 (fun _ => true) true Try.f7.params.toList args.toList ds p := hA0
  rw [Try.params7] at hA hval
  obtain ⟨v0, vs0, d0, ds0, p0, q0, hargs, rfl, rfl, h0, r0⟩ := trodAll_cons hA
  obtain ⟨v1, vs1, d1, ds1, p1, q1, rfl, rfl, rfl, h1, r1⟩ := trodAll_cons r0
  obtain ⟨v2, vs2, d2, ds2, p2, q2, rfl, rfl, rfl, h2, r2⟩ := trodAll_cons r1
  obtain ⟨rfl, rfl, rfl⟩ := trodAll_nil r2
  obtain rfl : args = #[v0, v1, v2] := by cases args; simp_all
  obtain ⟨rfl, rfl⟩ := trodVars_none hV
  obtain ⟨a0, rfl, rfl, rfl, w0⟩ := open_string Try.underlying9 (hval 0 9 v0 rfl rfl) h0
  obtain ⟨a1, rfl, rfl, rfl, w1⟩ := open_int Try.underlying3 (hval 1 3 v1 rfl rfl) h1
  obtain ⟨a2, rfl, rfl, rfl, w2⟩ := open_int Try.underlying33 (hval 2 33 v2 rfl rfl) h2
  clear hA0 hval0
  refine (frameBursts_walk a0 w0 a1 w1 a2 w2 W).mono fun e W' ⟨he, bel⟩ => ?_
  subst he
  exact ⟨_, rfl, _, _, _, [], _, [], hW', trodAll_mk1 (shut_bool Try.underlying4 _), (trodAll_cons_mk (shut_string Try.underlying9 w0) (trodAll_cons_mk (shut_int Try.underlying3 w1) (trodAll_cons_mk (shut_int Try.underlying33 w2) trodAll_mk0))), rfl, bel.frame _, fun h => by cases h⟩

theorem frameBursts_over : Rows.frameBurstsRow.holds Try.pinned (OpenSpec.ofChange Rows.frameBurstsSpec) :=
  OpenClaim.holds_of_wide 7 Try.f7 rfl rfl rfl rfl rfl rfl rfl ⟨rfl, rfl, rfl, rfl, rfl⟩ rfl rfl rfl rfl rfl (by kernel_rfl) Try.func7 (by kernel_rfl)
    (of_decide_eq_true (by kernel_rfl)) (by unfold Func.isWrapper; first | (rw [if_pos (by decide +kernel)]; kernel_rfl) | (rw [if_neg (by decide +kernel)]; exact ⟨rfl, rfl⟩))
    (fun os started H enc _ => frameBursts_lifted os started H enc)

/-- THE STATEMENT -/
theorem frameBursts_holds : Rows.FrameBurstsSaid := frameBursts_over
#print axioms frameBursts_holds
end Go.Proofs.Ytpgakhdcbkcmdaa
