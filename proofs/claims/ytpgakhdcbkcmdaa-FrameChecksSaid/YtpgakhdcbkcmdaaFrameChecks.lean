/- FrameChecks: for every text and every place, the check of the text is as the document says, and goes on from that of what is ahead of the place. No condition. -/
import Derived.Test.YtpgakhdcbkcmdaaAlive
import Derived.Test.YtpgakhdcbkcmdaaLib2
import Derived.ProofKit
import Derived.OpenShut
import Derived.ShutString
import Derived.ChangeOld
import Derived.Below
import Derived.WalkLawsBesides
import Derived.WalkSpells
import Derived.Deep.DeepCutAuto
namespace Go.Proofs.Ytpgakhdcbkcmdaa
open Go.ChangeShapes Go.WideShapes Go.ChangeAt Go.RowKit
open Go.ChangeMaps (open_string shut_string)

set_option maxHeartbeats 800000 in
set_option maxRecDepth 100000 in
theorem frameChecks_walk (a0 : ByteArray) (w0 : a0.size ≤ maxLen) (a1 : Int) (w1 : (Lit.int .i64 a1).wf = true) (w : World) :
    Calls Try.prog 4 #[.string a0, .int .i64 a1] w fun e w' => e = .returned (.bool true) ∧ Below w.heap.size w w' := by
  clear w1
  unfold maxLen at w0
  go_enter Try.func4, Try.ntmps4
  go_upto_region 1 with fail
  go_cut [0] (fun s wx => ∃ s1 : ByteArray, s = .string s1 ∧ s1.size ≤ 400 ∧ w = wx)
  case first =>
    by_cases h4 : a0.size ≤ 400
    all_goals
      go_wp2_with fail
      go_meet
      exact ⟨_, rfl, by first | omega | (simp; omega), rfl⟩
  case rest =>
    obtain ⟨s1, rfl, hs1, rfl⟩ := hcut
    clear w0 
    have hm := Int.tmod_lt_of_pos a1 (show (0 : Int) < (s1.size : Int) + 1 by omega)
    have hm2 : -((s1.size : Int) + 1) < a1.tmod ((s1.size : Int) + 1) := by 
      have := Int.tmod_lt_of_pos (-a1) (show (0 : Int) < (s1.size : Int) + 1 by omega)
      rw [Int.neg_tmod] at this
      omega
    go_upto_region 2 with fail
    go_cut [1] (fun x wx => ∃ A : Nat, x = .int .i64 A ∧ A ≤ s1.size ∧ w = wx)
    case first =>
      go_wp2_with fail
      go_meet
      refine ⟨((a1.tmod (s1.size + 1) + s1.size + 1) % (s1.size + 1)).toNat, ?_, ?_, rfl⟩
      · have := Int.emod_nonneg (a1.tmod (s1.size + 1) + s1.size + 1) (show (s1.size : Int) + 1 ≠ 0 by omega)
        congr 1; omega
      · have := Int.emod_lt_of_pos (a1.tmod (s1.size + 1) + s1.size + 1) (show (0 : Int) < (s1.size : Int) + 1 by omega)
        omega
    case rest =>
      obtain ⟨A, rfl, hA, rfl⟩ := hcut
      clear hm hm2
      have hcl := crcN_lt (s1.extract 0 A).data.toList
      have hc0 := fun W => crc_any (s1.extract 0 A) W (by unfold maxLen; simp; omega)
      generalize hC : crcN (s1.extract 0 A).data.toList = C at *
      have HC := Lib.hid hC
      have H0 := Lib.hid hc0
      clear hC hc0
      go_upto_region 4 with ((go_at_call 15; refine (H0.out _).mono ?_; rintro e w2 ⟨rfl, hb2⟩))
      go_cut [34, 35, 36] (fun v n i wx => ∃ g c : Nat, v = .slice (some ⟨g, 0, none⟩) (s1.size - A) c ∧ n = .int .i64 ((s1.size - A : Nat) : Int) ∧ i = .int .i64 0 ∧ Below w.heap.size w wx ∧ ∀ j (hj : j < s1.size - A), wx.cell? ⟨g, j, none⟩ = some (.int .u8 ((s1[A + j]'(by omega)).toNat : Int)))
      case first =>
        have hbs := fun (W : World) => run_bytes_of_string (P := Try.prog) W 9 35 5 (s1.extract A s1.size) Try.underlying9 Try.underlying35 Try.underlying5
        go_wp2_with fail
        go_meet
        exact ⟨w2.heap.size, _, rfl, rfl, rfl, (hb2.alloc hb2.size _).drew, fun j hj => cell_bytesRow w2 s1 A _ _ _ rfl j hj⟩
      case rest =>
        obtain ⟨g, c, rfl, rfl, rfl, hb, hcells⟩ := hcut
        have HB := Lib.hid hb
        have HX := Lib.hid hcells
        clear hb hcells
        have hex : (s1.extract 0 A).data.toList = s1.data.toList.take A := by simp [ByteArray.data_extract]
        have hc0 : 4294967295 - C = crcS 4294967295 (s1.data.toList.take A) := by
          rw [← HC.out, hex, crcN, ← sub_ones (crcS_lt _ (by omega))]
          have := crcS_lt (s1.data.toList.take A) (c := 4294967295) (by omega)
          omega
        have hc1 : (4294967295 : Int) - (C : Int) = ((crcS 4294967295 (s1.data.toList.take A) : Nat) : Int) := by omega
        have HC1 := Lib.hid hc1
        clear hc0 hc1 hex
        go_wp2_with fail
        go_loop [5, 36] (fun c i => ∃ k : Nat, k ≤ s1.size - A ∧ i = .int .i64 k ∧ c = .int .u32 (crcS 4294967295 (s1.data.toList.take (A + k)) : Nat)) (fun _ i => s1.size - A - (intOf i).toNat)
        case atStart => exact ⟨0, by omega, rfl, by rw [HC1.out]; rfl⟩
        case round =>
          obtain ⟨k, hk, rfl, rfl⟩ := hrel
          clear hcl
          have hlt := crcS_lt (s1.data.toList.take (A + k)) (c := 4294967295) (by omega)
          by_cases h1 : k < s1.size - A
          · have hcell := HX.out k h1
            have ht := take_snoc s1.data.toList (A + k) (by simp; omega)
            rw [show s1.data.toList[A + k]'(by simp; omega) = s1[A + k] from rfl] at ht
            have hn := crcS_snoc 4294967295 (s1.data.toList.take (A + k)) s1[A + k]
            rw [← ht] at hn
            have HN := Lib.hid hn
            clear hn ht
            go_wp2_with (go_at_call 16; refine (on_any _ s1[A + k].toNat _ hlt s1[A + k].toNat_lt).mono ?_; rintro e w2 ⟨rfl, rfl⟩)
            go_round
            case rel => exact ⟨k + 1, by omega, by go_num, by rw [← Nat.add_assoc, HN.out]⟩
            case measure => simp [intOf]; omega
          · have hall : s1.data.toList.take (A + k) = s1.data.toList := List.take_of_length_le (by simp; omega)
            rw [hall] at hlt ⊢
            have hcn := crcN_lt s1.data.toList
            have hsum : crcN s1.data.toList = 4294967295 - crcS 4294967295 s1.data.toList := by rw [sub_ones hlt, crcN]
            have hc3 := fun W => crc_any s1 W (by unfold maxLen; omega)
            have hc4 := fun W => rcrc_any s1 W (by unfold maxLen; omega)
            generalize crcN s1.data.toList = X at *
            generalize crcS 4294967295 s1.data.toList = Y at *
            have hq : ((X : Int) == 4294967295 - (Y : Int)) = true := by rw [beq_iff_eq]; omega
            have H3 := Lib.hid hc3
            have H4 := Lib.hid hc4
            clear hall hsum hc3 hc4 H0 HC HX HC1
            go_wp2_with (first | (go_at_call 13; refine (alive_any _).mono ?_; rintro e w5 ⟨rfl, hb5⟩) | (go_at_call 15; refine (H3.out _).mono ?_; rintro e w6 ⟨rfl, hb6⟩) | (go_at_call 17; refine (H4.out _).mono ?_; rintro e w7 ⟨rfl, rfl⟩))
            go_ret
            refine ⟨rfl, ?_⟩
            repeat (first | exact HB.out | refine bthen ?_ (by assumption))

set_option maxRecDepth 100000 in
theorem frameChecks_lifted (os : Os) (started : os.Started) (H : Type) (enc : TypeId × Value → H) :
    ReturnsInHanded {} Try.checked os 4 .any (Rows.frameChecksSpec.pre6 enc Try.prog Try.f4 Rows.frameChecksRow.domain false) (Rows.frameChecksSpec.post enc Try.prog Try.f4 false true false false) := by
  refine returnsInHanded_of_change (C := Try.checked) (by kernel_rfl) started (by kernel_rfl) Try.func4
    (ChangeSpec.witness6 (enc := enc) (C := Try.checked) false ⟨#[], #[.string ByteArray.empty, .int .i64 0], []⟩ 8 (by kernel_rfl) (by kernel_rfl) (by kernel_rfl) (by kernel_rfl)) ?_
  intro W base args ds gs before hval0 hW hcnd _
  have hval : ∀ (j : Nat) t v, Try.f4.params[j]? = some t → args[j]? = some v → Value.okWide Try.prog W .any base t v := hval0
  have hW' := hW
  obtain ⟨p, q, hA0, hV, rfl, hfz, hnd⟩ := hW
  have hA : DataW.TrodAll enc Try.prog W 0 (fun _ => true) true Try.f4.params.toList args.toList ds p := hA0
  rw [Try.params4] at hA hval
  obtain ⟨v0, vs0, d0, ds0, p0, q0, hargs, rfl, rfl, h0, r0⟩ := trodAll_cons hA
  obtain ⟨v1, vs1, d1, ds1, p1, q1, rfl, rfl, rfl, h1, r1⟩ := trodAll_cons r0
  obtain ⟨rfl, rfl, rfl⟩ := trodAll_nil r1
  obtain rfl : args = #[v0, v1] := by cases args; simp_all
  obtain ⟨rfl, rfl⟩ := trodVars_none hV
  obtain ⟨a0, rfl, rfl, rfl, w0⟩ := open_string Try.underlying9 (hval 0 9 v0 rfl rfl) h0
  obtain ⟨a1, rfl, rfl, rfl, w1⟩ := open_int Try.underlying3 (hval 1 3 v1 rfl rfl) h1
  clear hA0 hval0
  refine (frameChecks_walk a0 w0 a1 w1 W).mono fun e W' ⟨he, bel⟩ => ?_
  subst he
  exact ⟨_, rfl, _, _, _, [], _, [], hW', trodAll_mk1 (shut_bool Try.underlying4 _), (trodAll_cons_mk (shut_string Try.underlying9 w0) (trodAll_cons_mk (shut_int Try.underlying3 w1) trodAll_mk0)), rfl, bel.frame _, fun h => by cases h⟩

theorem frameChecks_over : Rows.frameChecksRow.holds Try.pinned (OpenSpec.ofChange Rows.frameChecksSpec) :=
  OpenClaim.holds_of_wide 4 Try.f4 rfl rfl rfl rfl rfl rfl rfl ⟨rfl, rfl, rfl, rfl, rfl⟩ rfl rfl rfl rfl rfl (by kernel_rfl) Try.func4 (by kernel_rfl)
    (of_decide_eq_true (by kernel_rfl)) (by unfold Func.isWrapper; first | (rw [if_pos (by decide +kernel)]; kernel_rfl) | (rw [if_neg (by decide +kernel)]; exact ⟨rfl, rfl⟩))
    (fun os started H enc _ => frameChecks_lifted os started H enc)

/-- THE STATEMENT -/
theorem frameChecks_holds : Rows.FrameChecksSaid := frameChecks_over
#print axioms frameChecks_holds
end Go.Proofs.Ytpgakhdcbkcmdaa
