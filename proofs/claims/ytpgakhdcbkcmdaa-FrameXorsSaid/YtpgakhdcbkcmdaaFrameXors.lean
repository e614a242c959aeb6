/- FrameXors: for all three texts, the check of their xor, byte by byte, is the checks of the three, xored. No condition. -/
import Derived.Test.YtpgakhdcbkcmdaaAlive
import Derived.Test.YtpgakhdcbkcmdaaBytes
import Derived.Test.YtpgakhdcbkcmdaaMath2
import Derived.ProofKit
import Derived.OpenShut
import Derived.ShutString
import Derived.ChangeOld
import Derived.Below
import Derived.WalkLawsBesides
import Derived.WalkSpells
import Derived.Deep.DeepCutAuto
import Derived.Deep.RegionHeld3
namespace Go.Proofs.Ytpgakhdcbkcmdaa
open Go.ChangeShapes Go.WideShapes Go.ChangeAt Go.RowKit
open Go.ChangeMaps (open_string shut_string)

/-- of n bytes the first k are xored already -/
def XorTo (A B C : List UInt8) (n k : Nat) (X : List UInt8) : Prop :=
  X.length = n ∧ (∀ j (_ : j < k) (h : j < X.length) (ha : j < A.length) (hb : j < B.length) (hc : j < C.length), X[j] = A[j] ^^^ (B[j] ^^^ C[j])) ∧ ∀ j (_ : k ≤ j) (h : j < X.length) (ha : j < A.length), X[j] = A[j]
theorem XorTo.start {A B C : List UInt8} {n : Nat} (h : n ≤ A.length) : XorTo A B C n 0 (A.take n) :=
  ⟨by simp [Nat.min_eq_left h], fun j hj => by omega, fun j _ hj ha => by simp⟩
theorem XorTo.step {A B C X : List UInt8} {n k : Nat} (h : XorTo A B C n k X) (hk : k < X.length) (ha : k < A.length) (hb : k < B.length) (hc : k < C.length) : XorTo A B C n (k + 1) (X.set k (X[k] ^^^ (B[k] ^^^ C[k]))) := by
  obtain ⟨h1, h2, h3⟩ := h
  refine ⟨by simpa using h1, fun j hj hx ha' hb' hc' => ?_, fun j hj hx ha' => ?_⟩
  · rw [List.getElem_set]
    by_cases e : k = j
    · subst e
      rw [if_pos rfl, h3 k (Nat.le_refl _) hk ha]
    · rw [if_neg e]
      exact h2 j (by omega) (by simpa using hx) ha' hb' hc'
  · rw [List.getElem_set, if_neg (by omega)]
    exact h3 j (by omega) (by simpa using hx) ha'

set_option maxHeartbeats 800000 in
set_option maxRecDepth 100000 in
theorem frameXors_walk (a0 : ByteArray) (w0 : a0.size ≤ maxLen) (a1 : ByteArray) (w1 : a1.size ≤ maxLen) (a2 : ByteArray) (w2 : a2.size ≤ maxLen) (w : World) :
    Calls Try.prog 9 #[.string a0, .string a1, .string a2] w fun e w' => e = .returned (.bool true) ∧ Below w.heap.size w w' := by
  unfold maxLen at w0 w1 w2
  go_enter Try.func9, Try.ntmps9
  have hmin := fun (W : World) (ts : Array TypeId) (t : TypeId) => run_min4 (P := Try.prog) W ts t a0.size a1.size a2.size
  go_upto_region 1 with fail
  go_cut [7] (fun s wx => ∃ n : Nat, s = .int .i64 n ∧ n ≤ 200 ∧ n ≤ a0.size ∧ n ≤ a1.size ∧ n ≤ a2.size ∧ w = wx)
  case first =>
    go_wp2_with fail
    go_meet
    exact ⟨min a0.size (min a1.size (min a2.size 200)), rfl, by omega, by omega, by omega, by omega, rfl⟩
  case rest =>
    obtain ⟨n, rfl, h200, h0, h1, h2, rfl⟩ := hcut
    clear w0 w1 w2
    go_upto_region 2 with fail
    go_cut [8] (fun v wx => ∃ g c : Nat, v = .slice (some ⟨g, 0, none⟩) n c ∧ HasBytes wx g (a0.data.toList.take n) ∧ w.heap.size ≤ g ∧ Below w.heap.size w wx)
    case first =>
      have hbs := fun (W : World) => run_bytes_of_string (P := Try.prog) W 9 35 5 (a0.extract 0 n) Try.underlying9 Try.underlying35 Try.underlying5
      go_wp2_with fail
      go_meet
      have hl := HasBytes.of_string w (a0.extract 0 n) (grownCap w n 0 5) 5 ((bytesRow (a0.extract 0 n) (grownCap w n 0 5)).size + 1)
      rw [show (a0.extract 0 n).data.toList = a0.data.toList.take n by simp [ByteArray.data_extract]] at hl
      exact ⟨w.heap.size, _, rfl, hl.drew, Nat.le_refl _, ((Below.refl _ _).alloc (Nat.le_refl _) _).drew⟩
    case rest =>
      obtain ⟨g, c, rfl, hx, hg, hb⟩ := hcut
      clear hmin
      have HB := Lib.hid hb
      clear hb
      go_wp2_with fail
      go_loopw [22] (fun i wr => ∃ (k : Nat) (X : List UInt8), k ≤ n ∧ i = .int .i64 k ∧ HasBytes wr g X ∧ Below w.heap.size w wr ∧ XorTo a0.data.toList a1.data.toList a2.data.toList n k X) (fun i _ => n - (intOf i).toNat)
      case atStart => exact ⟨0, _, by omega, rfl, hx, HB.out, XorTo.start (by simpa using h0)⟩
      case round =>
        obtain ⟨k, X, hk, rfl, hX, hb, hto⟩ := hrel
        have HB := Lib.hid hb
        have HT := Lib.hid hto
        clear hb
        have hlen := hto.1
        by_cases hkn : k < n
        · have hc := hX.cell k (by omega)
          have hf := hX.free k (by omega)
          have h1k : k < a1.size := by omega
          have h2k : k < a2.size := by omega
          have hx1 : bits .xor .u8 (a1[k].toNat : Int) (a2[k].toNat : Int) = ((a1[k].toNat ^^^ a2[k].toNat : Nat) : Int) := u8_xor_nat _ _ a1[k].toNat_lt a2[k].toNat_lt
          have hx2 : bits .xor .u8 (X[k].toNat : Int) ((a1[k].toNat ^^^ a2[k].toNat : Nat) : Int) = ((X[k].toNat ^^^ (a1[k].toNat ^^^ a2[k].toNat) : Nat) : Int) := u8_xor_nat _ _ X[k].toNat_lt (Nat.xor_lt_two_pow (n := 8) a1[k].toNat_lt a2[k].toNat_lt)
          have hset := hX.set k (X[k] ^^^ (a1[k] ^^^ a2[k]))
          rw [UInt8.toNat_xor, UInt8.toNat_xor] at hset
          go_wp2_with fail
          go_region
          all_goals
            go_wp2
            go_roundw
            case rel => exact ⟨k + 1, _, by omega, by go_num, hset.drew, (HB.out.setCell hg _).drew, HT.out.step (by omega) (by simpa using (show k < a0.size by omega)) (by simpa using h1k) (by simpa using h2k)⟩
            case measure => simp [intOf]; omega
        · obtain rfl : k = n := by omega
          have hXl : X.length = k := hlen
          have ex0 : (a0.extract 0 k).data.toList = a0.data.toList.take k := by simp [ByteArray.data_extract]
          have ex1 : (a1.extract 0 k).data.toList = a1.data.toList.take k := by simp [ByteArray.data_extract]
          have ex2 : (a2.extract 0 k).data.toList = a2.data.toList.take k := by simp [ByteArray.data_extract]
          have hcx : crcN X = crcN (a0.data.toList.take k) ^^^ crcN (a1.data.toList.take k) ^^^ crcN (a2.data.toList.take k) := by
            refine crcN_xor3 (by simp; omega) (by simp; omega) (by simp; omega) (fun j hj => ?_)
            have hj' : j < k := by simp at hj; omega
            have := hto.2.1 j hj' (by omega) (by simp; omega) (by simp; omega) (by simp; omega)
            simpa using this
          have cx := fun W => crc_any ⟨X.toArray⟩ W (by unfold maxLen; simp [ByteArray.size]; omega)
          have c0 := fun W => crc_any (a0.extract 0 k) W (by unfold maxLen; simp; omega)
          have c1 := fun W => crc_any (a1.extract 0 k) W (by unfold maxLen; simp; omega)
          have c2 := fun W => crc_any (a2.extract 0 k) W (by unfold maxLen; simp; omega)
          rw [ex0] at c0
          rw [ex1] at c1
          rw [ex2] at c2
          simp only [] at cx
          have l0 := crcN_lt (a0.data.toList.take k)
          have l1 := crcN_lt (a1.data.toList.take k)
          have l2 := crcN_lt (a2.data.toList.take k)
          generalize crcN (a0.data.toList.take k) = C0 at *
          generalize crcN (a1.data.toList.take k) = C1 at *
          generalize crcN (a2.data.toList.take k) = C2 at *
          rw [hcx] at cx
          have hx1 : bits .xor .u32 (C0 : Int) (C1 : Int) = ((C0 ^^^ C1 : Nat) : Int) := u32_xor_nat _ _ l0 l1
          have hx2 : bits .xor .u32 ((C0 ^^^ C1 : Nat) : Int) (C2 : Int) = ((C0 ^^^ C1 ^^^ C2 : Nat) : Int) := u32_xor_nat _ _ (Nat.xor_lt_two_pow (n := 32) l0 l1) l2
          have K0 := Lib.hid c0
          have K1 := Lib.hid c1
          have K2 := Lib.hid c2
          have KX := Lib.hid cx
          clear c0 c1 c2 cx hcx ex0 ex1 ex2 hto HT hlen
          have hconv : ∀ W, HasBytes W g X → (convert 35 9 (.slice (some ⟨g, 0, none⟩) k c)).run Try.prog W = .ok (.string ⟨X.toArray⟩) W := by
            intro W h
            have := h.str (P := Try.prog) (src := 35) (dst := 9) (cap := c) Try.underlying35 Try.underlying5 Try.underlying9
            rw [hXl] at this
            exact this
          have HV := Lib.hid hconv
          clear hconv hXl
          go_wp2_with fail
          go_region_held3 (fun w' => HasBytes w' g X ∧ (convert 35 9 (.slice (some ⟨g, 0, none⟩) k c)).run Try.prog w' = .ok (.string ⟨X.toArray⟩) w')
            (first | exact ⟨hX.drew, HV.out _ hX.drew⟩ | ((refine held_bytes HV.out ?_ (by assumption)); assumption))
            (first
              | (go_at_call 13; refine (alive_any _).mono ?_; rintro e w5 ⟨rfl, hb5⟩)
              | (go_at_call_of 15 (Value.string ⟨X.toArray⟩); refine (KX.out _).mono ?_; rintro e w6 ⟨rfl, hb6⟩)
              | (go_at_call_of 15 (Value.string (a0.extract 0 k)); refine (K0.out _).mono ?_; rintro e w7 ⟨rfl, hb7⟩)
              | (go_at_call_of 15 (Value.string (a1.extract 0 k)); refine (K1.out _).mono ?_; rintro e w8 ⟨rfl, hb8⟩)
              | (go_at_call_of 15 (Value.string (a2.extract 0 k)); refine (K2.out _).mono ?_; rintro e w9 ⟨rfl, hb9⟩))
          all_goals
            go_wp2
            go_ret
            refine ⟨rfl, ?_⟩
            repeat (first | exact HB.out.drew | refine bthen ?_ (by assumption))

set_option maxRecDepth 100000 in
theorem frameXors_lifted (os : Os) (started : os.Started) (H : Type) (enc : TypeId × Value → H) :
    ReturnsInHanded {} Try.checked os 9 .any (Rows.frameXorsSpec.pre6 enc Try.prog Try.f9 Rows.frameXorsRow.domain false) (Rows.frameXorsSpec.post enc Try.prog Try.f9 false true false false) := by
  refine returnsInHanded_of_change (C := Try.checked) (by kernel_rfl) started (by kernel_rfl) Try.func9
    (ChangeSpec.witness6 (enc := enc) (C := Try.checked) false ⟨#[], #[.string ByteArray.empty, .string ByteArray.empty, .string ByteArray.empty], []⟩ 8 (by kernel_rfl) (by kernel_rfl) (by kernel_rfl) (by kernel_rfl)) ?_
  intro W base args ds gs before hval0 hW hcnd _
  have hval : ∀ (j : Nat) t v, Try.f9.params[j]? = some t → args[j]? = some v → Value.okWide Try.prog W .any base t v := hval0
  have hW' := hW
  obtain ⟨p, q, hA0, hV, rfl, hfz, hnd⟩ := hW
  have hA : DataW.TrodAll enc Try.prog W 0 (fun _ => true) true Try.f9.params.toList args.toList ds p := hA0
  rw [Try.params9] at hA hval
  obtain ⟨v0, vs0, d0, ds0, p0, q0, hargs, rfl, rfl, h0, r0⟩ := trodAll_cons hA
  obtain ⟨v1, vs1, d1, ds1, p1, q1, rfl, rfl, rfl, h1, r1⟩ := trodAll_cons r0
  obtain ⟨v2, vs2, d2, ds2, p2, q2, rfl, rfl, rfl, h2, r2⟩ := trodAll_cons r1
  obtain ⟨rfl, rfl, rfl⟩ := trodAll_nil r2
  obtain rfl : args = #[v0, v1, v2] := by cases args; simp_all
  obtain ⟨rfl, rfl⟩ := trodVars_none hV
  obtain ⟨a0, rfl, rfl, rfl, w0⟩ := open_string Try.underlying9 (hval 0 9 v0 rfl rfl) h0
  obtain ⟨a1, rfl, rfl, rfl, w1⟩ := open_string Try.underlying9 (hval 1 9 v1 rfl rfl) h1
  obtain ⟨a2, rfl, rfl, rfl, w2⟩ := open_string Try.underlying9 (hval 2 9 v2 rfl rfl) h2
  clear hA0 hval0
  refine (frameXors_walk a0 w0 a1 w1 a2 w2 W).mono fun e W' ⟨he, bel⟩ => ?_
  subst he
  exact ⟨_, rfl, _, _, _, [], _, [], hW', trodAll_mk1 (shut_bool Try.underlying4 _), (trodAll_cons_mk (shut_string Try.underlying9 w0) (trodAll_cons_mk (shut_string Try.underlying9 w1) (trodAll_cons_mk (shut_string Try.underlying9 w2) trodAll_mk0))), rfl, bel.frame _, fun h => by cases h⟩

theorem frameXors_over : Rows.frameXorsRow.holds Try.pinned (OpenSpec.ofChange Rows.frameXorsSpec) :=
  OpenClaim.holds_of_wide 9 Try.f9 rfl rfl rfl rfl rfl rfl rfl ⟨rfl, rfl, rfl, rfl, rfl⟩ rfl rfl rfl rfl rfl (by kernel_rfl) Try.func9 (by kernel_rfl)
    (of_decide_eq_true (by kernel_rfl)) (by unfold Func.isWrapper; first | (rw [if_pos (by decide +kernel)]; kernel_rfl) | (rw [if_neg (by decide +kernel)]; exact ⟨rfl, rfl⟩))
    (fun os started H enc _ => frameXors_lifted os started H enc)

/-- THE STATEMENT -/
theorem frameXors_holds : Rows.FrameXorsSaid := frameXors_over
#print axioms frameXors_holds
end Go.Proofs.Ytpgakhdcbkcmdaa
