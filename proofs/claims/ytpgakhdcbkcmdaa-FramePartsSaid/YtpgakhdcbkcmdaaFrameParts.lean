/- FrameParts: for all rows of texts and every integer, texts bound in two rows, one behind the other, are those of both, and a number has one byte more for each 7 bits. No condition. -/
import Derived.Test.YtpgakhdcbkcmdaaAlive
import Derived.Test.YtpgakhdcbkcmdaaBind3
import Derived.ProofKit
import Derived.OpenShut
import Derived.ShutString
import Derived.ChangeOld
import Derived.Below
import Derived.Deep.DeepCutAuto
import Derived.Deep.RegionHeld3
namespace Go.Proofs.Ytpgakhdcbkcmdaa
open Go.ChangeShapes Go.WideShapes Go.ChangeAt Go.RowKit
open Go.ChangeMaps (open_string shut_string)

theorem bindL_app (ss ts : List ByteArray) : bindL (ss ++ ts) = bindL ss ++ bindL ts := by simp [bindL]
theorem mayB_app {ss ts : List ByteArray} (h1 : mayB ss = true) (h2 : mayB ts = true) : mayB (ss ++ ts) = decide (ss.length + ts.length ≤ 512) := by
  have a1 : (ss.all fun s => decide (s.size ≤ 8192)) = true := by simpa using (mayB_true h1).2
  have a2 : (ts.all fun s => decide (s.size ≤ 8192)) = true := by simpa using (mayB_true h2).2
  rw [mayB, List.all_append, a1, a2, List.length_append]; simp

/-- so many bytes more: one for each 7 bits -/
def moreB (x : Nat) : Nat := if x = 0 then 0 else (numB x).length
theorem moreB_step {x : Nat} (h : x ≠ 0) : moreB x = 1 + moreB (x / 128) := by
  rw [moreB, if_neg h, moreB]
  by_cases h1 : x < 128
  · rw [numB_lt h1, if_pos (by omega)]; rfl
  · rw [numB_ge (by omega), if_neg (by omega), List.length_cons]; omega
theorem numB_more (n : Nat) : (numB n).length = 1 + moreB (n / 128) := by
  by_cases h : n = 0
  · subst h; rw [numB_lt (by omega)]; simp [moreB]
  · rw [← moreB_step h, moreB, if_neg h]

set_option maxHeartbeats 1600000 in
set_option maxRecDepth 100000 in
theorem frameParts_walk (a0 : Option Addr) (len0 cap0 : Nat) (ss0 : List ByteArray) (w : World) (w0 : ss0.length = len0 ∧ HasStrs w a0 cap0 ss0) (a1 : Option Addr) (len1 cap1 : Nat) (ss1 : List ByteArray) (w1 : ss1.length = len1 ∧ HasStrs w a1 cap1 ss1)
    (a2 : Int) (w2 : (Lit.int .i64 a2).wf = true) :
    Calls Try.prog 8 #[.slice a0 len0 cap0, .slice a1 len1 cap1, .int .i64 a2] w fun e w' => e = .returned (.bool true) ∧ Below w.heap.size w w' := by
  obtain ⟨rfl, h0⟩ := w0
  obtain ⟨rfl, h1⟩ := w1
  have bd := bounds_i64 w2
  clear w2
  obtain ⟨i0, hi, hz0, hz1, hz2⟩ := info_parts Try.infoS
  go_enter Try.func8, Try.ntmps8
  go_upto_region 4 with (first
    | (go_at_call_of 18 (Value.slice a0 ss0.length cap0); refine (few_any _ _ ss0 _ h0).mono ?_; rintro e w2 ⟨p, q, rfl, hL, hb2⟩; have h1' := h1.call hb2)
    | (go_at_call_of 18 (Value.slice a1 ss1.length cap1); refine (few_any _ _ ss1 _ h1').mono ?_; rintro e w3 ⟨p', q', rfl, hM, hb3⟩; have hL' := hL.call hb3))
  have l0 := fewL_len ss0
  have l1 := fewL_len ss1
  have s0 := fewL_size ss0
  have s1 := fewL_size ss1
  clear h0 h1 h1' hL
  generalize fewL ss0 = L at *
  generalize fewL ss1 = M at *
  have hpre := bthen hb2 hb3
  clear hb2 hb3
  go_wp2_with (first
    | (go_at_call_of 19 (Value.slice p L.length q); refine (bind_any _ _ L _ hL').mono ?_; rintro e w4 ⟨rfl, hb4⟩; have hM4 := hM.call hb4; have hL4 := hL'.call hb4)
    | (go_at_call_of 19 (Value.slice p' M.length q'); refine (bind_any _ _ M _ hM4).mono ?_; rintro e w5 ⟨rfl, hb5⟩; have hM5 := hM4.call hb5; have hL5 := hL4.call hb5)
    | (at_builtin; refine wpList_append_src _ rfl _ _ 38 38 rfl w5.heap.size 9 i0 (.string ⟨#[]⟩) 1 16 Try.underlying38 hi hz0 hz1 hz2 rfl _ _ _ rfl (World.ownsRow_made _ #[] 0 ?c0 ?c4 ?c5) _ _ _ rfl (src_strs Try.underlying38 (hL5.call ((Below.refl _ _).alloc (Nat.le_refl _) _))) ?c1 ?c2 ?c3 ?_))
  case c0 => exact Nat.le_refl _
  case c4 => unfold maxLen; omega
  case c5 => rfl
  case c1 => unfold maxLen; omega
  case c2 => omega
  case c3 => simp
  intro v6 w6 hown6 hg6
  have hb6 : Below w5.heap.size w5 w6 := ((Below.refl _ _).alloc (Nat.le_refl _) _).grown hg6 (by simp) (fun k hk => by simp [Value.ownBlock] at hk; omega)
  have hM6 := hM5.call hb6
  clear hg6
  go_wp2_with (at_builtin; refine wpList_append_src _ rfl _ _ 38 38 rfl w5.heap.size 9 i0 (.string ⟨#[]⟩) 1 16 Try.underlying38 hi hz0 hz1 hz2 rfl _ _ _ rfl hown6 _ _ _ rfl (src_strs Try.underlying38 hM6) ?e1 ?e2 ?e3 ?_)
  case e1 => unfold maxLen; omega
  case e2 => omega
  case e3 => exact hb6.size
  intro v7 w7 hown7 hg7
  have hb7 : Below w5.heap.size w5 w7 := hb6.grown hg7 hb6.size (fun k hk => (hown6.lt k hk).1)
  have hall7 : ∀ s ∈ L ++ M, s.size ≤ 8200 := fun s hs => (List.mem_append.1 hs).elim (s0 s) (s1 s)
  obtain ⟨p7, q7, rfl, hLM⟩ := strs_of_own (w := w7) (base := w5.heap.size) (e := 9) (ss := L ++ M) (by rw [List.length_append]; simpa [strsV] using hown7) (fun s hs => by have := hall7 s hs; unfold maxLen; omega)
  have hpost := bthen (bthen (bthen hpre hb4) hb5) hb7
  clear hown6 hown7 hg7 hb6 hb7 hM6 hpre hb4 hb5 hM5 hL5 hM4 hL4 hL' hM
  have hla := bindL_app L M
  have hma := fun h1 h2 => mayB_app (ss := L) (ts := M) h1 h2
  have hmn : mayB (L ++ M) = true → mayB L = true ∧ mayB M = true := by
    intro h
    obtain ⟨x, y⟩ := mayB_true h
    rw [List.length_append] at x
    refine ⟨?_, ?_⟩
    · simp [mayB]; exact ⟨by omega, fun s hs => y s (List.mem_append.2 (.inl hs))⟩
    · simp [mayB]; exact ⟨by omega, fun s hs => y s (List.mem_append.2 (.inr hs))⟩
  have z0 := bindS_size L l0 s0
  have z1 := bindS_size M l1 s1
  generalize hNN : L ++ M = N at *
  have HLA := Lib.hid hla
  have HMA := Lib.hid hma
  have HMN := Lib.hid hmn
  clear hNN hla hma hmn hall7 s0 s1
  go_upto_region 5 with (go_at_call 19; refine (bind_any _ _ N _ hLM).mono ?_; rintro e w8 ⟨rfl, hb8⟩)
  go_cut [71] (fun b wx => b = .bool false ∧ Below w.heap.size w wx)
  case first =>
    have hend := bthen hpost hb8
    clear hpost hb8 hLM
    by_cases m0 : mayB L = true
    · by_cases m1 : mayB M = true
      · have hma := HMA.out m0 m1
        by_cases hlen : L.length + M.length ≤ 512
        · have m2 : mayB N = true := by rw [hma]; exact decide_eq_true hlen
          have e0 : bindE L = 0 := by rw [bindE, if_pos m0]
          have e1 : bindE M = 0 := by rw [bindE, if_pos m1]
          have e2 : bindE N = 0 := by rw [bindE, if_pos m2]
          have e3 : bindS N = bindS L ++ bindS M := by
            rw [bindS, bindS, bindS, if_pos m0, if_pos m1, if_pos m2, HLA.out]
            exact (ByteArray.mk_append_mk _ _).symm
          generalize bindE L = E0 at *
          generalize bindE M = E1 at *
          generalize bindE N = E2 at *
          subst e0 e1 e2
          generalize bindS N = S2 at *
          subst e3
          clear hma m0 m1 m2
          go_wp2_with (go_at_call 13; refine (alive_any _).mono ?_; rintro e w9 ⟨rfl, hb9⟩)
          go_meet
          exact ⟨rfl, bthen hend (by assumption)⟩
        · have m2 : ¬ mayB N = true := by rw [hma, decide_eq_true_iff]; exact hlen
          have hdd : decide ((L.length : Int) + (M.length : Int) ≤ 512) = false := by rw [decide_eq_false_iff_not]; omega
          have e0 : bindE L = 0 := by rw [bindE, if_pos m0]
          have e1 : bindE M = 0 := by rw [bindE, if_pos m1]
          have e2 : bindE N = 2 := by rw [bindE, if_neg m2]
          generalize bindE L = E0 at *
          generalize bindE M = E1 at *
          generalize bindE N = E2 at *
          subst e0 e1 e2
          clear hma m0 m1 m2
          go_wp2_with (go_at_call 13; refine (alive_any _).mono ?_; rintro e w9 ⟨rfl, hb9⟩)
          go_meet
          exact ⟨rfl, bthen hend (by assumption)⟩
      · have m2 : ¬ mayB N = true := fun h => m1 (HMN.out h).2
        have e0 : bindE L = 0 := by rw [bindE, if_pos m0]
        have e1 : bindE M = 2 := by rw [bindE, if_neg m1]
        have e2 : bindE N = 2 := by rw [bindE, if_neg m2]
        generalize bindE L = E0 at *
        generalize bindE M = E1 at *
        generalize bindE N = E2 at *
        subst e0 e1 e2
        clear m0 m1 m2
        go_wp2_with (go_at_call 13; refine (alive_any _).mono ?_; rintro e w9 ⟨rfl, hb9⟩)
        go_meet
        exact ⟨rfl, bthen hend (by assumption)⟩
    · have m2 : ¬ mayB N = true := fun h => m0 (HMN.out h).1
      have e0 : bindE L = 2 := by rw [bindE, if_neg m0]
      have e2 : bindE N = 2 := by rw [bindE, if_neg m2]
      generalize bindE L = E0 at *
      generalize bindE N = E2 at *
      subst e0 e2
      clear m0 m2
      go_wp2_with (go_at_call 13; refine (alive_any _).mono ?_; rintro e w9 ⟨rfl, hb9⟩)
      go_meet
      exact ⟨rfl, bthen hend (by assumption)⟩
  case rest =>
    obtain ⟨rfl, hb⟩ := hcut
    clear hpost hb8 hLM HLA HMA HMN z0 z1 l0 l1
    by_cases hbad : a2 < 0 ∨ 4611686018427387904 ≤ a2
    · by_cases h0 : a2 < 0
      · go_wp2_with (go_at_call 10; refine (number_bad _ _ hbad).mono ?_; rintro e wA ⟨rfl, rfl⟩)
        go_ret
        exact ⟨rfl, hb⟩
      · have h1 : 4611686018427387904 ≤ a2 := by omega
        go_wp2_with (go_at_call 10; refine (number_bad _ _ hbad).mono ?_; rintro e wA ⟨rfl, rfl⟩)
        go_ret
        exact ⟨rfl, hb⟩
    · obtain ⟨n, rfl⟩ := Int.eq_ofNat_of_zero_le (show 0 ≤ a2 by omega)
      have hn : n < 4611686018427387904 := by omega
      have hl9 := numB_len9 (n := n) (by omega)
      clear hbad bd
      have hnum := fun W => number_any n W hn
      obtain ⟨q, hq⟩ : ∃ q : ByteArray, q = ⟨(numB n).toArray⟩ := ⟨_, rfl⟩
      have hqs : q.size = (numB n).length := by rw [hq]; exact size_list _
      rw [← hq] at hnum
      have HN := Lib.hid hnum
      have HQ := Lib.hid hqs
      clear hnum hq hqs
      go_wp2_with (go_at_call 10; refine (HN.out _).mono ?_; rintro e wA ⟨rfl, hbA⟩)
      have hmore := numB_more n
      have HM := Lib.hid hmore
      clear hmore
      go_loop [15, 16] (fun a v => ∃ k x : Nat, a = .int .i64 k ∧ v = .int .i64 x ∧ x ≤ n ∧ k + moreB x = (numB n).length) (fun _ v => (intOf v).toNat)
      case atStart => exact ⟨1, n / 128, rfl, by go_num, by omega, by rw [HM.out]⟩
      case round =>
        obtain ⟨k, x, rfl, rfl, hx, hkx⟩ := hrel
        have hk9 : k ≤ 9 := by omega
        by_cases h0 : x = 0
        · subst h0
          have hkq : k = q.size := by rw [HQ.out, ← hkx]; rfl
          subst hkq
          clear hkx
          go_wp2
          go_ret
          exact ⟨rfl, bthen hb hbA⟩
        · have hst := moreB_step h0
          have hkx2 : (k + 1) + moreB (x / 128) = (numB n).length := by omega
          have HK := Lib.hid hkx2
          have hpos : 0 < x := by omega
          clear hst hkx hkx2 h0 hl9
          go_wp2
          go_round
          case rel => exact ⟨k + 1, x / 128, by go_num, by go_num, by omega, HK.out⟩
          case measure => simp [intOf]; omega

set_option maxRecDepth 100000 in
theorem frameParts_lifted (os : Os) (started : os.Started) (H : Type) (enc : TypeId × Value → H) :
    ReturnsInHanded {} Try.checked os 8 .any (Rows.framePartsSpec.pre6 enc Try.prog Try.f8 Rows.framePartsRow.domain false) (Rows.framePartsSpec.post enc Try.prog Try.f8 false true false false) := by
  refine returnsInHanded_of_change (C := Try.checked) (by kernel_rfl) started (by kernel_rfl) Try.func8
    (ChangeSpec.witness6 (enc := enc) (C := Try.checked) false ⟨#[], #[.slice none 0 0, .slice none 0 0, .int .i64 0], []⟩ 8 (by kernel_rfl) (by kernel_rfl) (by kernel_rfl) (by kernel_rfl)) ?_
  intro W base args ds gs before hval0 hW hcnd _
  have hval : ∀ (j : Nat) t v, Try.f8.params[j]? = some t → args[j]? = some v → Value.okWide Try.prog W .any base t v := hval0
  have hW' := hW
  obtain ⟨p, q, hA0, hV, rfl, hfz, hnd⟩ := hW
  have hA : DataW.TrodAll enc Try.prog W 0 (fun _ => true) true Try.f8.params.toList args.toList ds p := hA0
  rw [Try.params8] at hA hval
  obtain ⟨v0, vs0, d0, ds0, p0, q0, hargs, rfl, rfl, h0, r0⟩ := trodAll_cons hA
  obtain ⟨v1, vs1, d1, ds1, p1, q1, rfl, rfl, rfl, h1, r1⟩ := trodAll_cons r0
  obtain ⟨v2, vs2, d2, ds2, p2, q2, rfl, rfl, rfl, h2, r2⟩ := trodAll_cons r1
  obtain ⟨rfl, rfl, rfl⟩ := trodAll_nil r2
  obtain rfl : args = #[v0, v1, v2] := by cases args; simp_all
  obtain ⟨rfl, rfl⟩ := trodVars_none hV
  obtain ⟨a0, len0, cap0, rfl⟩ := okWide_slice Try.underlying38 (hval 0 38 v0 rfl rfl)
  have k0 := h0
  have lt0 : ∀ x ∈ p0, x.block < W.heap.size := by obtain ⟨m, hm⟩ := k0; exact DataW.trod_lt m _ _ _ hm
  obtain ⟨ss0, w0⟩ := strArg_of Try.underlying38 Try.underlying9 (by kernel_rfl) h0
  obtain ⟨a1, len1, cap1, rfl⟩ := okWide_slice Try.underlying38 (hval 1 38 v1 rfl rfl)
  have k1 := h1
  have lt1 : ∀ x ∈ p1, x.block < W.heap.size := by obtain ⟨m, hm⟩ := k1; exact DataW.trod_lt m _ _ _ hm
  obtain ⟨ss1, w1⟩ := strArg_of Try.underlying38 Try.underlying9 (by kernel_rfl) h1
  obtain ⟨a2, rfl, rfl, rfl, w2⟩ := open_int Try.underlying3 (hval 2 3 v2 rfl rfl) h2
  clear hA0 hval0
  refine (frameParts_walk (w := W) a0 len0 cap0 ss0 w0 a1 len1 cap1 ss1 w1 a2 w2).mono fun e W' ⟨he, bel⟩ => ?_
  subst he
  exact ⟨_, rfl, _, _, _, [], _, [], hW', trodAll_mk1 (shut_bool Try.underlying4 _), (trodAll_cons_mk (Below.trod (by kernel_rfl) (by kernel_rfl) (of_decide_eq_true (by kernel_rfl)) k0 bel lt0) (trodAll_cons_mk (Below.trod (by kernel_rfl) (by kernel_rfl) (of_decide_eq_true (by kernel_rfl)) k1 bel lt1) (trodAll_cons_mk (shut_int Try.underlying3 w2) trodAll_mk0))), rfl, bel.frame _, fun h => by cases h⟩

theorem frameParts_over : Rows.framePartsRow.holds Try.pinned (OpenSpec.ofChange Rows.framePartsSpec) :=
  OpenClaim.holds_of_wide 8 Try.f8 rfl rfl rfl rfl rfl rfl rfl ⟨rfl, rfl, rfl, rfl, rfl⟩ rfl rfl rfl rfl rfl (by kernel_rfl) Try.func8 (by kernel_rfl)
    (of_decide_eq_true (by kernel_rfl)) (by unfold Func.isWrapper; first | (rw [if_pos (by decide +kernel)]; kernel_rfl) | (rw [if_neg (by decide +kernel)]; exact ⟨rfl, rfl⟩))
    (fun os started H enc _ => frameParts_lifted os started H enc)

/-- THE STATEMENT -/
theorem frameParts_holds : Rows.FramePartsSaid := frameParts_over
#print axioms frameParts_holds
end Go.Proofs.Ytpgakhdcbkcmdaa
