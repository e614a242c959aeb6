/- The contracts of the document's own primes, root, Roots and Same: constants that are made of roots. -/
import Derived.Test.YtmmpnkcfekhkhaaDoorIntBy
namespace Go.Proofs.YtmmpnkcfekhkhaaDoor
open Go.RowKit

def firstP : List Nat := [2, 3, 5, 7, 11, 13, 17, 19]
def restP : List Nat := [23, 29, 31, 37, 41, 43, 47, 53, 59, 61, 67, 71, 73, 79, 83, 89, 97, 101, 103, 107, 109, 113, 127, 131, 137, 139, 149, 151, 157, 163, 167, 173, 179, 181, 191, 193, 197, 199, 211, 223, 227, 229, 233, 239, 241, 251, 257, 263, 269, 271, 277, 281, 283, 293, 307, 311]
set_option maxRecDepth 1000000 in
theorem prim64 : (primAt 310).1 = firstP ++ restP := by decide +kernel
set_option maxRecDepth 1000000 in
theorem prim64b : (primAt 309).1.length = 63 := by decide +kernel
set_option maxRecDepth 1000000 in
theorem prim8 : (primAt 18).1 = firstP := by decide +kernel
set_option maxRecDepth 1000000 in
theorem prim8b : (primAt 17).1.length = 7 := by decide +kernel
theorem primAt_snd : ∀ j, (primAt j).2 = j + 2
  | 0 => rfl
  | j + 1 => by rw [primAt, stepP]; show (primAt j).2 + 1 = _; rw [primAt_snd j]
theorem primAt_le : ∀ j, (primAt j).1.length ≤ (primAt (j + 1)).1.length := fun j => by
  rw [primAt, stepP]; dsimp only; split <;> simp
theorem primAt_mono (i : Nat) : ∀ k, (primAt i).1.length ≤ (primAt (i + k)).1.length
  | 0 => Nat.le_refl _
  | k + 1 => Nat.le_trans (primAt_mono i k) (primAt_le (i + k))
theorem prim_less {n J : Nat} (h : (primAt J).1.length < n) {j : Nat} (hj : j ≤ J) : (primAt j).1.length < n := by
  have := primAt_mono j (J - j)
  rw [show j + (J - j) = J by omega] at this
  omega
theorem primAt_small : ∀ j, j ≤ 400 → ∀ q ∈ (primAt j).1, 2 ≤ q ∧ q ≤ 402
  | 0, _, q, hq => by cases hq
  | j + 1, hj, q, hq => by
    rw [primAt, stepP] at hq
    dsimp only at hq
    split at hq
    · rcases List.mem_append.1 hq with hq | hq
      · exact primAt_small j (by omega) q hq
      · rw [List.mem_singleton] at hq; rw [hq, primAt_snd]; omega
    · exact primAt_small j (by omega) q hq

def intsV (X : List Nat) : List Value := X.map fun x : Nat => Value.int .i64 (x : Int)
theorem intsV_push (X : List Nat) (x : Nat) : intsV X ++ [.int .i64 (x : Int)] = intsV (X ++ [x]) := by simp [intsV]
theorem intsV_at (X : List Nat) (i : Nat) (h : i < X.length) : (intsV X)[i]? = some (.int .i64 ((X.getD i 0 : Nat) : Int)) := by simp [intsV, List.getD, h]

set_option maxHeartbeats 3200000 in
set_option maxRecDepth 100000 in
theorem primes_any (n J : Nat) (w : World) (hJ : 0 < J) (hJ4 : J ≤ 400) (h1 : (primAt (J - 1)).1.length < n) (h2 : (primAt J).1.length = n) (hn : n ≤ 100) :
    Calls Tryd.prog 34 #[.int .i64 (n : Int)] w fun e w' => ∃ g c, e = .returned (.slice (some ⟨g, 0, none⟩) n c) ∧ n ≤ c ∧ w.heap.size ≤ g ∧ g < w'.heap.size ∧ (∀ i, i < n → w'.cell? ⟨g, i, none⟩ = some (.int .i64 (((primAt J).1.getD i 0 : Nat) : Int))) ∧ Below w.heap.size w w' := by
  obtain ⟨i0, hi, hz0, hz1, hz2⟩ := info_partsI Tryd.infoInt
  have HL := Lib.hid (fun j (hj : j < J) => prim_less h1 (show j ≤ J - 1 by omega))
  have H2 := Lib.hid h2
  clear h1 h2
  go_enter Tryd.func34, Tryd.ntmps34
  go_wp2_with fail
  go_loopg [3, 4] J (fun gg v pv wr => ∃ (j : Nat) (u : Value), u = v ∧ j + gg = J ∧ pv = .int .i64 ((j + 2 : Nat) : Int) ∧ wr.ownsRow w.heap.size 3 1 u (primAt j).1.length (intsV (primAt j).1) ∧ Below w.heap.size w wr)
  case atStart => exact ⟨0, _, rfl, by omega, rfl, World.ownsRow_made w #[] 0 (Nat.le_refl _) (by unfold maxLen; omega) (by simp), (Below.refl _ _).alloc (Nat.le_refl _) _⟩
  case round =>
    obtain ⟨j, u, rfl, hjg, rfl, hown, hb⟩ := hrel
    cases gk with
    | zero =>
      obtain rfl : j = J := by omega
      have hh := hown
      rw [H2.out] at hown
      have hn0 : 0 < n := by have := HL.out 0 hJ; omega
      rcases hown.2 with ⟨rfl, h0⟩ | ⟨g, cap, cur, rfl, hbg, hg, hnc, hcm, hcs, htk⟩
      · omega
      · have hcells : ∀ i, i < n → wr.cell? ⟨g, i, none⟩ = some (.int .i64 (((primAt j).1.getD i 0 : Nat) : Int)) := fun i hi => by
          have h2 := hown.cellAt i (by omega)
          rw [intsV_at _ _ (by rw [H2.out]; exact hi)] at h2
          exact h2
        have HCS := Lib.hid hcells
        have hglt := lt_of_block hg
        clear hh hown hcells hg hcs htk
        go_wp2_with fail
        go_ret
        exact ⟨g, cap, rfl, hnc, hbg, hglt, HCS.out, hb⟩
    | succ gg =>
      have hln := HL.out j (by omega)
      have hsm := primAt_small j (by omega)
      have hnx : primAt (j + 1) = (if (primAt j).1.all (fun q => (primAt j).2 % q != 0) then (primAt j).1 ++ [(primAt j).2] else (primAt j).1, (primAt j).2 + 1) := rfl
      rw [primAt_snd] at hnx
      obtain ⟨X, hX⟩ : ∃ X, (primAt j).1 = X := ⟨_, rfl⟩
      rw [hX] at hown hln hsm hnx
      obtain ⟨p, hp⟩ : ∃ p, j + 2 = p := ⟨_, rfl⟩
      rw [hp] at hnx ⊢
      have hp1 : 2 ≤ p := by omega
      have hp2 : p ≤ 402 := by omega
      have HNX := Lib.hid hnx
      have HSM := Lib.hid hsm
      have HOWN := Lib.hid hown
      have HB := Lib.hid hb
      have HP := Lib.hid hp
      obtain ⟨N, hN⟩ : ∃ N, X.length = N := ⟨_, rfl⟩
      have HN := Lib.hid hN
      have hval : ∃ a c, u = .slice a N c := by
        rcases hown.2 with ⟨rfl, h0⟩ | ⟨g, cap, cur, rfl, _⟩
        · exact ⟨none, 0, by rw [← hN, h0]⟩
        · exact ⟨_, _, by rw [← hN]⟩
      obtain ⟨a, c, rfl⟩ := hval
      rw [hN] at hln
      clear hnx hsm hX hown hb hp hN
      go_upto_block 2 with fail
      go_cut [5] (fun b wy => b = .bool (X.all fun q => p % q != 0) ∧ wr = wy)
      case first =>
        go_wp2_with fail
        go_loopg [5, 15] N (fun g2 is iv wj => ∃ i : Nat, i + g2 = N ∧ iv = .int .i64 (i : Int) ∧ is = .bool ((X.take i).all fun q => p % q != 0) ∧ wr = wj)
        case atStart => exact ⟨0, by omega, rfl, by simp, rfl⟩
        case round =>
          obtain ⟨i, hig, rfl, rfl, rfl⟩ := hrel
          cases gk with
          | zero =>
            obtain rfl : i = N := by omega
            have e : X.take i = X := List.take_of_length_le (by rw [HN.out]; exact Nat.le_refl _)
            rw [e]
            clear e
            go_wp2_with fail
            go_meet
            exact ⟨rfl, rfl⟩
          | succ g2 =>
            have hiX : i < X.length := by rw [HN.out]; omega
            have hiN : i < N := by omega
            have hown := HOWN.out
            rcases hown.2 with ⟨e0, h0⟩ | ⟨g, cap, cur, e0, hbg, hg, hnc, hcm, hcs, htk⟩
            · omega
            simp only [Value.slice.injEq] at e0
            obtain ⟨rfl, _, rfl⟩ := e0
            have hc := (show wr.ownsRow w.heap.size 3 1 (.slice (some ⟨g, 0, none⟩) X.length c) X.length (intsV X) by rw [← HN.out] at hown; exact hown).cellAt i (show i < X.length * 1 by omega)
            rw [intsV_at _ _ hiX] at hc
            have hq := HSM.out _ (List.getElem_mem hiX)
            have hgd : X.getD i 0 = X[i] := by simp [List.getD, hiX]
            rw [hgd] at hc
            have htk2 : (X.take (i + 1)).all (fun q => p % q != 0) = (((X.take i).all fun q => p % q != 0) && (p % X[i] != 0)) := by
              rw [List.take_succ_eq_append_getElem hiX, List.all_append]; simp
            obtain ⟨q, hqe⟩ : ∃ q, X[i] = q := ⟨_, rfl⟩
            rw [hqe] at hc hq htk2
            have HTK := Lib.hid htk2
            obtain ⟨A, hA⟩ : ∃ A, ((X.take i).all fun q => p % q != 0) = A := ⟨_, rfl⟩
            have HA := Lib.hid hA
            rw [hA]
            obtain ⟨hq1, hq2⟩ := hq
            have hcap : N ≤ c := by rw [← HN.out]; exact hnc
            clear hown hg hcs htk hgd hqe htk2 hA hbg hcm hnc
            by_cases hm : p % q = 0
            · have t1 : ((p : Int) % (q : Int) == 0) = true := by rw [beq_iff_eq]; omega
              have HM := Lib.hid hm
              clear hm
              go_wp2_with fail
              go_roundg g2
              case measure => omega
              case rel => exact ⟨i + 1, by omega, by go_num, by rw [HTK.out, HM.out]; simp, rfl⟩
            · have t1 : ((p : Int) % (q : Int) == 0) = false := by rw [beq_eq_false_iff_ne]; omega
              have HM := Lib.hid hm
              clear hm
              go_wp2_with fail
              go_roundg g2
              case measure => omega
              case rel => exact ⟨i + 1, by omega, by go_num, by rw [HTK.out, HA.out, bne_iff_ne.2 HM.out, Bool.and_true], rfl⟩
      case rest =>
        obtain ⟨rfl, rfl⟩ := hcut
        have hown := HOWN.out
        cases hall : (X.all fun q => p % q != 0) with
        | false =>
          have hnx : primAt (j + 1) = (X, p + 1) := by rw [HNX.out, hall]; rfl
          have HNX2 := Lib.hid hnx
          clear hnx hall
          go_wp2_with fail
          go_roundg gg
          case measure => omega
          case rel => exact ⟨j + 1, _, rfl, by omega, by have := HP.out; congr 1; omega, by rw [HNX2.out]; exact hown, HB.out⟩
        | true =>
          have hnx : primAt (j + 1) = (X ++ [p], p + 1) := by rw [HNX.out, hall]; rfl
          have HNX2 := Lib.hid hnx
          have hXl : X.length ≤ 100 := by rw [HN.out]; omega
          have hbs := HB.out.size
          clear hnx hall
          go_wp2_with (at_builtin; refine (wpList_push wr rfl _ _ 53 rfl w.heap.size 3 i0 (.int .i64 0) 8 Tryd.underlying53 hi hz0 hz1 hz2 rfl (.slice a N c) X.length (intsV X) rfl hown (.int .i64 (p : Int)) rfl rfl ?c1 ?c2 ?c3 ?_))
          case c1 => unfold maxLen; omega
          case c2 => omega
          case c3 => exact hbs
          intro g2 c2 w2 hown2 hg2
          have hlen : (X ++ [p]).length = X.length + 1 := by simp
          have HO2 := Lib.hid hown2
          have HG2 := Lib.hid hg2
          have HLE := Lib.hid hlen
          clear hown2 hg2 hlen
          go_wp2_with fail
          go_roundg gg
          case measure => omega
          case rel => exact ⟨j + 1, _, rfl, by omega, by have := HP.out; congr 1; omega, by rw [HNX2.out]; dsimp only; rw [HLE.out, ← intsV_push]; exact HO2.out, HB.out.grown HG2.out hbs (fun k hk => (hown.lt k hk).1)⟩

theorem carAt_low (X : List Nat) : ∀ i j, j < i → (carAt X i).1.getD j 0 < 65536
  | 0, j, h => by omega
  | i + 1, j, h => by
    rw [carAt]
    simp only [List.getD_eq_getElem?_getD, List.getElem?_set]
    split
    · split
      · simp only [Option.getD_some]; omega
      · simp
    · have := carAt_low X i j (by omega)
      simpa [List.getD_eq_getElem?_getD] using this
theorem byL_upto (A B : List Nat) : Upto (byL A B) 2097152 := fun j => by
  unfold byL
  by_cases h : j < (convAt A B A.length).length
  · have := carAt_low (convAt A B A.length) _ j h
    omega
  · have : (carAt (convAt A B A.length) (convAt A B A.length).length).1.getD j 0 = 0 := by
      rw [List.getD_eq_getElem?_getD, List.getElem?_eq_none (by rw [carAt_len]; omega)]; rfl
    omega
theorem rootStep_len {p n : Nat} {a : List Nat} {bit : Nat} (h : a.length = 3) : (rootStep p n a bit).length = 3 := by
  unfold rootStep
  dsimp only
  repeat' split
  all_goals first | exact h | (rw [addAt_len]; exact h)
theorem rootAt_len (p n : Nat) : ∀ k, (rootAt p n k).length = 3
  | 0 => rfl
  | k + 1 => by rw [rootAt]; exact rootStep_len (rootAt_len p n k)
theorem two_pow_small (b : Nat) : 2 ^ (b % 16) ≤ 32768 := by
  have h : b % 16 ≤ 15 := by omega
  exact Nat.le_trans (Nat.pow_le_pow_right (by omega) h) (by decide)
theorem rootAt_upto (p n : Nat) : ∀ k, k ≤ 37 → Upto (rootAt p n k) (k * 32768)
  | 0, _ => fun i => by
    rw [rootAt]
    rcases Nat.lt_or_ge i 3 with h | h
    · have : i = 0 ∨ i = 1 ∨ i = 2 := by omega
      rcases this with rfl | rfl | rfl <;> decide
    · rw [List.getD_eq_getElem?_getD, List.getElem?_eq_none (by simpa using h)]; exact Nat.zero_le _
  | k + 1, hk => by
    have ih := rootAt_upto p n k (by omega)
    have ha := upto_add (v := 2 ^ ((36 - k) % 16)) (k := (36 - k) / 16) ih (by rw [rootAt_len]; omega)
    have hp := two_pow_small (36 - k)
    rw [rootAt]
    unfold rootStep
    dsimp only
    repeat' split
    all_goals first
      | exact ih.mono (by omega)
      | exact ha.mono (by omega)
theorem addAt_back (a : List Nat) (k v : Nat) (hk : k < a.length) : (addAt a k v).set k (a.getD k 0) = a := by
  apply List.ext_getElem (by simp [addAt])
  intro i h1 h2
  by_cases h : k = i
  · subst h; simp [List.getD, hk]
  · simp [addAt, h]

set_option maxHeartbeats 6400000 in
set_option maxRecDepth 100000 in
theorem root2_any (p : Nat) (w : World) (_hp : p ≤ 1000) :
    Calls Tryd.prog 35 #[.int .i64 (p : Int), .int .i64 2] w fun e w' => e = .returned (.int .u32 (rootF p 2 : Nat)) ∧ Below w.heap.size w w' := by
  have hrl := rootAt_len p 2
  have hru := rootAt_upto p 2
  have hrs : ∀ k, rootAt p 2 (k + 1) = rootStep p 2 (rootAt p 2 k) (36 - k) := fun k => rfl
  have hrf : rootF p 2 = (65536 * (rootAt p 2 37).getD 1 0 + (rootAt p 2 37).getD 0 0) % 4294967296 := rfl
  have h00 : rootAt p 2 0 = [0, 0, 0] := rfl
  have HRL := Lib.hid hrl
  have HRU := Lib.hid hru
  have HRS := Lib.hid hrs
  have HRF := Lib.hid hrf
  have H00 := Lib.hid h00
  clear hrl hru hrs hrf h00
  generalize rootF p 2 = RF at *
  generalize rootAt p 2 = R at *
  go_enter Tryd.func35, Tryd.ntmps35
  go_upto_region 2 with fail
  have hx0 : HasIs (w.alloc (.cells #[.int .i64 0, .int .i64 0, .int .i64 0] 3)) w.heap.size (R 0) := by rw [H00.out]; exact HasIs.new w [0, 0, 0] 3
  have hb0 := (Below.refl w.heap.size w).alloc (Nat.le_refl _) (.cells #[.int .i64 0, .int .i64 0, .int .i64 0] 3)
  generalize w.alloc (.cells #[.int .i64 0, .int .i64 0, .int .i64 0] 3) = wx at *
  go_wp2_with fail
  go_loopg [6] 37 (fun gg iv wr => ∃ k : Nat, k + gg = 37 ∧ iv = .int .i64 ((gg : Int) - 1) ∧ HasIs wr w.heap.size (R k) ∧ Below w.heap.size w wr)
  case atStart => exact ⟨0, by omega, rfl, hx0, hb0⟩
  case round =>
    obtain ⟨k, hkg, rfl, hx, hb⟩ := hrel
    clear hx0 hb0
    cases gk with
    | zero =>
      obtain rfl : k = 37 := by omega
      have hneg : ¬ (0 : Int) ≤ ((0 : Nat) : Int) - 1 := by omega
      have hl := HRL.out 37
      have c0 := hx.cell 0 (by omega)
      have c1 := hx.cell 1 (by omega)
      have hu := HRU.out 37 (Nat.le_refl _)
      have u0 := hu 0
      have u1 := hu 1
      have hrf := HRF.out
      generalize (R 37).getD 0 0 = x0 at *
      generalize (R 37).getD 1 0 = x1 at *
      have HF := Lib.hid hrf
      clear hu hrf hx hl hkg
      go_upto_region 16 with fail
      have q1 : IntKind.i64.wrap (65536 * (x1 : Int)) = 65536 * (x1 : Int) := IntWalk.i64_in _ (by omega)
      have q2 : IntKind.i64.wrap (65536 * (x1 : Int) + (x0 : Int)) = 65536 * (x1 : Int) + (x0 : Int) := IntWalk.i64_in _ (by omega)
      go_region
      all_goals
        go_wp2
        go_ret
        exact ⟨by rw [HF.out]; rfl, hb.drew⟩
    | succ bit =>
      have hbe : (((bit + 1 : Nat) : Int) - 1) = (bit : Int) := by omega
      rw [hbe]
      have hk36 : 36 - k = bit := by omega
      have hrs := HRS.out k
      rw [hk36] at hrs
      unfold rootStep at hrs
      dsimp only at hrs
      have hl := HRL.out k
      have hu := HRU.out k (by omega)
      obtain ⟨a, ha⟩ : ∃ a, R k = a := ⟨_, rfl⟩
      rw [ha] at hrs hl hu hx
      have hp16 := two_pow_small bit
      obtain ⟨M, hM⟩ : ∃ M, bit % 16 = M := ⟨_, rfl⟩
      obtain ⟨D, hD⟩ : ∃ D, bit / 16 = D := ⟨_, rfl⟩
      rw [hM] at hrs hp16
      rw [hD] at hrs
      have hD2 : D ≤ 2 := by omega
      have hM15 : M ≤ 15 := by omega
      have hMi : (bit : Int) % 16 = (M : Int) := by omega
      have hDi : (bit : Int) / 16 = (D : Int) := by omega
      have hbi0 : (0 : Int) ≤ (bit : Int) := by omega
      have hbi36 : (bit : Int) ≤ 36 := by omega
      have HRS2 := Lib.hid hrs
      have HHK := Lib.hid ha
      have HL := Lib.hid hl
      have HU := Lib.hid hu
      have HX := Lib.hid hx
      have HB := Lib.hid hb
      have HPW := Lib.hid hp16
      clear hbe hk36 hrs ha hM hD hl hu hx hb hp16
      go_upto_block 2 with fail
      go_cut [7] (fun v wy => v = .int .i64 ((2 ^ M : Nat) : Int) ∧ wr = wy)
      case first =>
        go_wp2_with fail
        go_loopg [7, 8] M (fun gg v iv wj => ∃ i : Nat, i + gg = M ∧ iv = .int .i64 (i : Int) ∧ v = .int .i64 ((2 ^ i : Nat) : Int) ∧ wr = wj)
        case atStart => exact ⟨0, by omega, rfl, rfl, rfl⟩
        case round =>
          obtain ⟨i, hig, rfl, rfl, rfl⟩ := hrel
          cases gk with
          | zero =>
            obtain rfl : i = M := by omega
            have hge : ¬ (i : Int) < (i : Int) := by omega
            clear hig
            generalize 2 ^ i = T at *
            go_wp2_with fail
            go_meet
            exact ⟨rfl, rfl⟩
          | succ gg =>
            have hil : (i : Int) < (M : Int) := by omega
            have hpw : 2 ^ (i + 1) = 2 * 2 ^ i := by rw [Nat.pow_succ, Nat.mul_comm]
            have hps : 2 ^ i ≤ 32768 := Nat.le_trans (Nat.pow_le_pow_right (by omega) (show i ≤ 15 by omega)) (by decide)
            have HPP := Lib.hid hpw
            clear hpw
            generalize 2 ^ i = T at *
            go_wp2_with fail
            go_roundg gg
            case measure => omega
            case rel => exact ⟨i + 1, by omega, by go_num, by rw [HPP.out]; congr 1, rfl⟩
      case rest =>
        obtain ⟨rfl, rfl⟩ := hcut
        have hx := HX.out
        have hl := HL.out
        have c0 := hx.cell D (by omega)
        have f0 := hx.free D
        have hst := hx.set D (a.getD D 0 + 2 ^ M) (by omega)
        have hua := (upto_add (v := 2 ^ M) HU.out (show D < a.length by omega)).mono (show k * 32768 + 2 ^ M ≤ 2097152 by have := HPW.out; omega)
        have hbk := addAt_back a D (2 ^ M) (by omega)
        have hAl := addAt_len a D (2 ^ M)
        have hag := addAt_get a D (2 ^ M) D (by omega)
        rw [if_pos rfl] at hag
        have hst1 : HasIs (wr.setCell ⟨w.heap.size, D, none⟩ (.int .i64 ((a.getD D 0 + 2 ^ M : Nat) : Int))) w.heap.size (addAt a D (2 ^ M)) := hst
        have hux := HU.out D
        have hpm := HPW.out
        obtain ⟨A, hA⟩ : ∃ A, addAt a D (2 ^ M) = A := ⟨_, rfl⟩
        rw [hA] at hst1 hua hbk hAl hag HRS2
        rw [hl] at hAl
        generalize 2 ^ M = T at *
        generalize a.getD D 0 = x at *
        obtain ⟨y, hy⟩ : ∃ y, x + T = y := ⟨_, rfl⟩
        rw [hy] at hst1 hag
        have hyi : (x : Int) + (T : Int) = (y : Int) := by omega
        have HST := Lib.hid hst1
        have HUA := Lib.hid hua
        have HBK := Lib.hid hbk
        have HAL := Lib.hid hAl
        have HAG := Lib.hid hag
        have HY := Lib.hid hy
        have hyb : (y : Int) ≤ 2097152 := by have := hua D; rw [hag] at this; omega
        have hy0 : (0 : Int) ≤ (y : Int) := by omega
        clear hx hl hst hst1 hua hbk hAl hag hA hux hpm hy
        have hD3 : (D : Int) < 3 := by omega
        go_upto_region 11 with fail
        have hb1 := HB.out.setCell (p := ⟨w.heap.size, D, none⟩) (Nat.le_refl _) (.int .i64 (y : Int))
        generalize wr.setCell ⟨w.heap.size, D, none⟩ (.int .i64 (y : Int)) = w1 at *
        clear c0 f0 HX HB
        have hX1 := byL_len A A
        rw [HAL.out] at hX1
        have hby1 : Calls Tryd.prog 49 #[.slice (some ⟨w.heap.size, 0, none⟩) 3 3, .slice (some ⟨w.heap.size, 0, none⟩) 3 3] w1 fun e w' => ∃ g, e = .returned (.slice (some ⟨g, 0, none⟩) 7 7) ∧ w1.heap.size ≤ g ∧ HasIs w' g (byL A A) ∧ Below w1.heap.size w1 w' := by
          have h := by_any A A w.heap.size 3 w.heap.size 3 w1 HST.out HST.out (by rw [HAL.out]; omega) (by rw [HAL.out]; omega) (by rw [HAL.out]; omega) (by rw [HAL.out]; omega) HUA.out HUA.out
          unfold IsPost at h
          rw [HAL.out, hX1] at h
          exact h
        have HBY1 := Lib.hid hby1
        have HX1 := Lib.hid hX1
        have hu1 := byL_upto A A
        have HU1 := Lib.hid hu1
        have HB1 := Lib.hid hb1
        clear hby1 hX1 hu1 hb1
        have hov : ∀ g W, HasIs W g (byL A A) → Calls Tryd.prog 50 #[.slice (some ⟨g, 0, none⟩) 7 7, .int .i64 (p : Int), .int .i64 4] W fun e w' => e = .returned (.bool (overF (byL A A) p 4 7)) ∧ W = w' := fun g W h => by
          have h2 := over_any (byL A A) g 7 p 4 W h (by rw [HX1.out]; omega) (by rw [HX1.out]; omega)
          rw [HX1.out] at h2
          exact h2
        have hrs2 : R (k + 1) = if overF (byL A A) p 4 7 then a else A := by
          have h := HRS2.out
          rw [if_neg (show ¬ (2 : Nat) = 3 by decide), HX1.out] at h
          exact h
        have HOV := Lib.hid hov
        have HRS3 := Lib.hid hrs2
        clear hov hrs2 HRS2
        obtain ⟨O, hO⟩ : ∃ O, overF (byL A A) p 4 7 = O := ⟨_, rfl⟩
        rw [hO] at HOV HRS3
        clear hO
        go_upto_region 14 with (go_at_call 49; (with_reducible refine HBY1.out.mono ?_); rintro e w2 ⟨gx, rfl, hgx, hX, hb2⟩)
        have hsame := HST.out.call hb2
        have hbx := bthen HB1.out hb2
        have HS2 := Lib.hid hsame
        have HBX := Lib.hid hbx
        have c0 := hsame.cell D (by rw [HAL.out]; omega)
        have f0 := hsame.free D
        rw [HAG.out] at c0
        have hst2 := hsame.set D x (by rw [HAL.out]; omega)
        rw [HBK.out] at hst2
        have hyx : (y : Int) - (T : Int) = (x : Int) := by omega
        have HST2 := Lib.hid hst2
        have HXX := Lib.hid hX
        clear hsame hbx hst2 hX hb2
        cases O with
        | false =>
          go_wp2_with (go_at_call 50; (with_reducible refine (HOV.out _ _ HXX.out).mono ?_); rintro e w3 ⟨rfl, rfl⟩)
          go_roundg bit
          case measure => omega
          case rel => exact ⟨k + 1, by omega, by first | rfl | go_num, by rw [HRS3.out]; exact HS2.out, HBX.out⟩
        | true =>
          go_wp2_with (go_at_call 50; (with_reducible refine (HOV.out _ _ HXX.out).mono ?_); rintro e w3 ⟨rfl, rfl⟩)
          go_roundg bit
          case measure => omega
          case rel => exact ⟨k + 1, by omega, by first | rfl | go_num, by rw [HRS3.out]; exact HST2.out, HBX.out.setCell (Nat.le_refl _) _⟩
end Go.Proofs.YtmmpnkcfekhkhaaDoor
