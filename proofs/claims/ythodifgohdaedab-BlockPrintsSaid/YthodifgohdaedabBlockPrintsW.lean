/- The walk of the statement BlockPrints: which blocks may be, the text of any, whether two are alike, and any key's value, is as the document says, or refused. -/
import Derived.Test.YthodifgohdaedabBlkF
import Derived.Test.YthodifgohdaedabBlkS
import Derived.Test.YthodifgohdaedabBlkT
import Derived.Test.YthodifgohdaedabDefsArg
import Derived.Deep.CutBlock
import Derived.Outline
import Derived.IntWalk
namespace Go.Proofs.Ythodifgohdaedab
open Go.RowKit

/-- the first place from k on, counted from behind -/
def fromK (ks : List ByteArray) (x : ByteArray) (k : Nat) : Int := match keyI (ks.drop k) x with | none => -1 | some i => ((k + i : Nat) : Int)
theorem fromK_end (ks : List ByteArray) (x : ByteArray) : fromK ks x ks.length = -1 := by simp [fromK, keyI]
theorem fromK_zero (ks : List ByteArray) (x : ByteArray) : fromK ks x 0 = idxI (keyI ks x) := by
  simp only [fromK, List.drop_zero, Nat.zero_add]
  cases keyI ks x <;> rfl
theorem fromK_step (ks : List ByteArray) (x : ByteArray) (k : Nat) (h : k < ks.length) : fromK ks x k = if (ks[k].toList == x.toList) = true then (k : Int) else fromK ks x (k + 1) := by
  unfold fromK keyI
  rw [List.drop_eq_getElem_cons h, List.findIdx?_cons, strEq]
  by_cases e : ks[k] = x
  · simp [e]
  · simp only [decide_eq_false e]
    cases List.findIdx? (fun x_1 => decide (x_1 = x)) (List.drop (k + 1) ks) with
    | none => rfl
    | some i => simp; omega

theorem fewD_sizes (ds : List Dfn) : (fewD ds).length ≤ 66 := by simp [fewD]; omega
theorem likeDs_refl (ds : List Dfn) : likeDs ds ds = true := (likeDs_iff ds ds).2 rfl

set_option maxHeartbeats 6400000 in
set_option maxRecDepth 100000 in
theorem blockPrints_walk {w : World} (a0 : Option Addr) (len0 cap0 : Nat) (ds0 : List Dfn) (w0 : ds0.length = len0 ∧ HasDefs w a0 cap0 ds0) (a1 : Option Addr) (len1 cap1 : Nat) (ds1 : List Dfn) (w1 : ds1.length = len1 ∧ HasDefs w a1 cap1 ds1) (key : ByteArray) (wk : key.size ≤ maxLen) :
    Calls Try.prog 3 #[.slice a0 len0 cap0, .slice a1 len1 cap1, .string key] w (BoolW true w) := by
  obtain ⟨rfl, h0⟩ := w0
  obtain ⟨rfl, h1⟩ := w1
  have HF0 := Lib.hid (few_any a0 cap0 ds0 w h0)
  have HF1 := Lib.hid (fun W (h : Below w.heap.size w W) => few_any a1 cap1 ds1 W (h1.call h))
  clear h0 h1
  generalize fewD ds0 = D at *
  generalize fewD ds1 = M at *
  go_enter Try.func3, Try.ntmps3
  go_upto_region 2 with (first
    | (go_at_call 4; (with_reducible refine HF0.out.mono ?_); rintro e w2 ⟨a, c, rfl, hD, hb2⟩)
    | (go_at_call 4; (with_reducible refine (HF1.out _ hb2).mono ?_); rintro e w3 ⟨a', c', rfl, hM, hb3⟩))
  have hD3 := hD.call hb3
  have FD := Lib.hid (fun W (h : Below w3.heap.size w3 W) => hD3.call h)
  have FM := Lib.hid (fun W (h : Below w3.heap.size w3 W) => hM.call h)
  have HB3 := Lib.hid (bthen hb2 hb3)
  have HP := Lib.hid (bPrint_any a c D w3 hD3)
  have hcD : D.length ≤ c ∧ c ≤ maxLen := ⟨hD3.1, hD3.2.1⟩
  obtain ⟨hc1, hc2⟩ := hcD
  unfold maxLen at hc2
  clear hD hD3 hM hb2 hb3 HF0 HF1
  go_upto_region 3 with (go_at_call 5; (with_reducible refine HP.out.mono ?_); rintro e w4 ⟨rfl, hb4⟩)
  have HB4 := Lib.hid hb4
  clear hb4 HP
  have HRf := Lib.hid (likeDs_refl D)
  have HDC : Hid (∃ B, defsC D = B) := Lib.hid ⟨_, rfl⟩
  have hR := fun W (h : Below w3.heap.size w3 W) => bRight_any a c D W (FD.out _ h)
  have hRR := fun W (h : Below w3.heap.size w3 W) => rRight_any a c D W (FD.out _ h)
  have hL := fun W (h : Below w3.heap.size w3 W) => bLike_any a a' c c' D M W (FD.out _ h) (FM.out _ h)
  have hRL := fun W (h : Below w3.heap.size w3 W) => rLike_any a a' c c' D M W (FD.out _ h) (FM.out _ h)
  have hLL := fun W (h : Below w3.heap.size w3 W) => bLike_any a a c c D D W (FD.out _ h) (FD.out _ h)
  rw [HRf.out] at hLL
  obtain ⟨B, hB⟩ : ∃ B, defsC D = B := ⟨_, rfl⟩
  obtain ⟨L, hL'⟩ : ∃ L, likeDs D M = L := ⟨_, rfl⟩
  rw [hB] at hR hRR
  rw [hL'] at hL hRL
  have HR := Lib.hid hR
  have HRR := Lib.hid hRR
  have HL := Lib.hid hL
  have HRL := Lib.hid hRL
  have HLL := Lib.hid hLL
  have HBq := Lib.hid hB
  have eL : (L != L) = false := by simp
  have eB : (B != B) = false := by simp
  clear hR hRR hL hRL hLL hB hL' HDC HRf
  go_upto_region 5 with (first
    | (go_at_call 6; (with_reducible refine (HR.out _ HB4.out).mono ?_); rintro e w5 ⟨rfl, hb5⟩; have hc5 := bthen HB4.out hb5)
    | (go_at_call 7; (with_reducible refine (HRR.out _ hc5).mono ?_); rintro e w6 ⟨rfl, hb6⟩; have hc6 := bthen hc5 hb6)
    | (go_at_call 8; (with_reducible refine (HL.out _ hc6).mono ?_); rintro e w7 ⟨rfl, hb7⟩; have hc7 := bthen hc6 hb7)
    | (go_at_call 9; (with_reducible refine (HRL.out _ hc7).mono ?_); rintro e w8 ⟨rfl, hb8⟩; have hc8 := bthen hc7 hb8)
    | (go_at_call 8; (with_reducible refine (HLL.out _ hc8).mono ?_); rintro e w9 ⟨rfl, hb9⟩; have hc9 := bthen hc8 hb9)
    | (go_at_call 10; (with_reducible refine (alive_any _).mono ?_); rintro e w10 ⟨rfl, hb10⟩; have hc10 := bthen hc9 hb10))
  have HC10 := Lib.hid hc10
  have HP1 : Hid (B = false → printT D = ⟨#[]⟩ ∧ printE D = 1) := Lib.hid (fun h => by
    have hB := HBq.out
    rw [h] at hB
    exact ⟨by simp [printT, hB], by simp [printE, hB]⟩)
  have HP2 : Hid (B = true → ¬ (defsT D).length ≤ 8192 → printT D = ⟨#[]⟩ ∧ printE D = 2) := Lib.hid (fun h h2 => by
    have hB := HBq.out
    rw [h] at hB
    exact ⟨by simp [printT, hB, h2], by simp [printE, hB, h2]⟩)
  have HP3 : Hid (B = true → (defsT D).length ≤ 8192 → printT D = ⟨(defsT D).toArray⟩ ∧ printE D = 0) := Lib.hid (fun h h2 => by
    have hB := HBq.out
    rw [h] at hB
    exact ⟨by simp [printT, hB, h2], by simp [printE, hB, h2]⟩)
  clear hb5 hb6 hb7 hb8 hb9 hb10 hc5 hc6 hc7 hc8 hc9 hc10 eL eB HR HL HRL HLL HB4
  generalize printT D = PT at *
  generalize printE D = PE at *
  go_wp2_with fail
  go_loopg [51, 10, 11, 12, 13, 14] D.length (fun gg iv _ _ _ _ _ wr => ∃ (k : Nat), k + gg = D.length ∧ iv = .int .i64 (k : Int) ∧ Below w3.heap.size w3 wr)
  case atStart => exact ⟨0, by omega, rfl, HC10.out⟩
  case round =>
    obtain ⟨k, hkg, rfl, hb⟩ := hrel
    cases gk with
    | zero =>
      obtain rfl : k = D.length := by omega
      clear hkg
      have HB := Lib.hid hb
      have hfin : ∀ W, Below w3.heap.size w3 W → Below w.heap.size w W := fun W h => bthen HB3.out h
      have HFIN := Lib.hid hfin
      clear hb hfin
      cases B with
      | false =>
        obtain ⟨rfl, rfl⟩ := HP1.out rfl
        go_wp2_with (go_at_call 7; (with_reducible refine (HRR.out _ HB.out).mono ?_); rintro e w11 ⟨rfl, hb11⟩)
        go_ret
        exact ⟨rfl, HFIN.out _ (bthen HB.out hb11)⟩
      | true =>
        have HTX := Lib.hid (fun W (h : Below w3.heap.size w3 W) => rText_any a c D W (FD.out _ h) HBq.out)
        by_cases h8 : (defsT D).length ≤ 8192
        · obtain ⟨rfl, rfl⟩ := HP3.out rfl h8
          have hsz : (⟨(defsT D).toArray⟩ : ByteArray).size = (defsT D).length := List.size_toArray
          have hself : ((⟨(defsT D).toArray⟩ : ByteArray).toList == (⟨(defsT D).toArray⟩ : ByteArray).toList) = true := by simp
          have htx := HTX.out
          unfold TextP at htx
          obtain ⟨T, hT⟩ : ∃ T : ByteArray, (⟨(defsT D).toArray⟩ : ByteArray) = T := ⟨_, rfl⟩
          rw [hT] at hsz hself
          have htx2 : ∀ W, Below w3.heap.size w3 W → Calls Try.prog 12 #[.slice a D.length c] W fun e w' => e = .returned (.string T) ∧ Below W.heap.size W w' := fun W h => by rw [← hT]; exact htx W h
          have HTX2 := Lib.hid htx2
          have hTs : T.size ≤ 8192 := by omega
          rw [hT]
          clear hT hsz htx htx2 h8 HP1 HP2 HP3 HTX
          go_wp2_with (first
            | (go_at_call 7; (with_reducible refine (HRR.out _ HB.out).mono ?_); rintro e w11 ⟨rfl, hb11⟩; have hc11 := bthen HB.out hb11)
            | (go_at_call 12; (with_reducible refine (HTX2.out _ hc11).mono ?_); rintro e w12 ⟨rfl, hb12⟩))
          go_ret
          exact ⟨rfl, HFIN.out _ (bthen hc11 hb12)⟩
        · obtain ⟨rfl, rfl⟩ := HP2.out rfl h8
          have hsz : (⟨(defsT D).toArray⟩ : ByteArray).size = (defsT D).length := List.size_toArray
          have htx := HTX.out
          unfold TextP at htx
          obtain ⟨T, hT⟩ : ∃ T : ByteArray, (⟨(defsT D).toArray⟩ : ByteArray) = T := ⟨_, rfl⟩
          rw [hT] at hsz
          have htx2 : ∀ W, Below w3.heap.size w3 W → Calls Try.prog 12 #[.slice a D.length c] W fun e w' => e = .returned (.string T) ∧ Below W.heap.size W w' := fun W h => by rw [← hT]; exact htx W h
          have HTX2 := Lib.hid htx2
          have hTs : ¬ T.size ≤ 8192 := by omega
          clear hT hsz htx htx2 h8 HP1 HP2 HP3 HTX
          go_wp2_with (first
            | (go_at_call 7; (with_reducible refine (HRR.out _ HB.out).mono ?_); rintro e w11 ⟨rfl, hb11⟩; have hc11 := bthen HB.out hb11)
            | (go_at_call 12; (with_reducible refine (HTX2.out _ hc11).mono ?_); rintro e w12 ⟨rfl, hb12⟩))
          go_ret
          exact ⟨rfl, HFIN.out _ (bthen hc11 hb12)⟩
    | succ gg =>
      have hkl : k < D.length := by omega
      obtain ⟨b, off, rfl⟩ : ∃ b off, a = some ⟨b, off, none⟩ := by
        rcases (FD.out _ hb).place with h | h
        · rw [h] at hkl; simp at hkl
        · exact h
      obtain ⟨W0, rfl⟩ : ∃ W0, W0 = wr := ⟨_, rfl⟩
      obtain ⟨q, hq, ⟨c0, c1, c2⟩, hqo⟩ := (FD.out _ hb).at k hkl
      have hx := Blk.new W0 32 (dCells q)
      have hbx := (Below.refl W0.heap.size W0).alloc (Nat.le_refl _) (.cells (dCells q) 32)
      have hbb := bthen hb hbx
      have hqo2 := hqo.call hbx
      have hget := bGet_any q key _ hqo2
      obtain ⟨d, ka, kc, va, vc⟩ := q
      unfold GetP at hget
      simp only at c0 c1 c2 hget
      have HGET := Lib.hid hget
      have HX := Lib.hid (show Blk (W0.alloc (.cells (dCells ⟨d, ka, kc, va, vc⟩) 32)) W0.heap.size 32 #[.string d.kind, .slice ka d.keys.length kc, .slice va d.vals.length vc] from hx)
      have HQO := Lib.hid hqo2
      have HBB := Lib.hid hbb
      clear hx hbx hbb hqo2 hqo hq hget hb
      go_upto_region 8 with fail
      clear c0 c1 c2
      have HX2 := Lib.hid HX.out.cells3
      obtain ⟨x0, x1, x2⟩ := HX2.out
      go_upto_region 10 with (go_at_call 11; (with_reducible refine HGET.out.mono ?_); rintro e w5 ⟨rfl, hb5⟩)
      have HX5 := Lib.hid (HX.out.call hb5).cells3
      have HQ5 := Lib.hid (HQO.out.call hb5)
      have HB5 := Lib.hid (bthen HBB.out hb5)
      clear hb5 HX HX2 HGET HQO HBB x0 x1 x2
      obtain ⟨x0, x1, x2⟩ := HX5.out
      have l1 : d.keys.length ≤ kc := HQ5.out.1.1
      have l2 : kc ≤ maxLen := HQ5.out.1.2.1
      have l3 : d.vals.length ≤ vc := HQ5.out.2.1.1
      have l4 : vc ≤ maxLen := HQ5.out.2.1.2.1
      unfold maxLen at l2 l4
      have hw1 : IntKind.i64.wrap ((d.keys.length : Int) - 1) = (d.keys.length : Int) - 1 := IntWalk.i64_in _ (by omega)
      go_upto_block 2 with fail
      clear hw1
      go_cut [13, 14] (fun v _ wy => v = .int .i64 (idxI (keyI d.keys key)) ∧ w5 = wy)
      case first =>
        go_wp2_with fail
        go_loopg [14, 13] (d.keys.length + 1) (fun gg iv v wr => ∃ m : Nat, m + 1 = gg ∧ m ≤ d.keys.length ∧ iv = .int .i64 ((m : Int) - 1) ∧ v = .int .i64 (fromK d.keys key m) ∧ w5 = wr)
        case atStart => exact ⟨d.keys.length, rfl, Nat.le_refl _, rfl, by rw [fromK_end], rfl⟩
        case round =>
          obtain ⟨m, rfl, hml, rfl, rfl, rfl⟩ := hrel
          cases m with
          | zero =>
            have hz := fromK_zero d.keys key
            have HZ := Lib.hid hz
            clear hz
            rw [show ((0 : Nat) : Int) - 1 = -1 from rfl]
            go_wp2_with fail
            go_meet
            exact ⟨by rw [HZ.out], rfl⟩
          | succ j =>
            have e1 : ((j + 1 : Nat) : Int) - 1 = (j : Int) := by omega
            rw [e1]
            have hjl : j < d.keys.length := by omega
            obtain ⟨b1, o1, rfl⟩ : ∃ b1 o1, ka = some ⟨b1, o1, none⟩ := by
              rcases HQ5.out.1.2.2.2 with h | ⟨b1, o1, h, _⟩
              · rw [show d.keys = [] from h] at hjl; simp at hjl
              · exact ⟨b1, o1, h⟩
            have e2 := HQ5.out.1.at j hjl
            have hst := fromK_step d.keys key j hjl
            have hw2 : IntKind.i64.wrap ((j : Int) - 1) = (j : Int) - 1 := IntWalk.i64_in _ (by omega)
            obtain ⟨X, hX⟩ : ∃ X, d.keys[j] = X := ⟨_, rfl⟩
            simp only at e2
            rw [hX] at e2 hst
            clear hX e1
            cases hq : (X.toList == key.toList) with
            | true =>
              rw [hq] at hst
              have HST := Lib.hid (show fromK d.keys key j = (j : Int) by rw [hst]; rfl)
              clear hst
              go_wp2_with fail
              go_roundg (j + 1)
              case measure => omega
              case rel => exact ⟨j, rfl, by omega, rfl, by rw [HST.out], rfl⟩
            | false =>
              rw [hq] at hst
              have HST := Lib.hid (show fromK d.keys key j = fromK d.keys key (j + 1) by rw [hst]; rfl)
              clear hst
              go_wp2_with fail
              go_roundg (j + 1)
              case measure => omega
              case rel => exact ⟨j, rfl, by omega, rfl, by rw [HST.out], rfl⟩
      case rest =>
      obtain ⟨rfl, rfl⟩ := hcut
      obtain ⟨_, h1 | ⟨i, hil, h1⟩⟩ := memB_key d.keys key
      · have e1 : getT d key = ⟨#[]⟩ := by simp [getT, getV, h1]
        have e2 : getE d key = 9 := by simp [getE, getV, h1]
        rw [h1, e1, e2, show idxI none = -1 from rfl]
        clear h1 e1 e2
        go_wp2_with fail
        go_roundg gg
        case measure => omega
        case rel => exact ⟨k + 1, by omega, by go_num, HB5.out⟩
      by_cases hiv : i < d.vals.length
      case neg =>
        have e1 : getT d key = ⟨#[]⟩ := by simp [getT, getV, h1, hiv]
        have e2 : getE d key = 9 := by simp [getE, getV, h1, hiv]
        rw [h1, e1, e2, show idxI (some i) = (i : Int) from rfl]
        have hge : (d.vals.length : Int) ≤ (i : Int) := by omega
        clear h1 e1 e2
        go_wp2_with fail
        go_roundg gg
        case measure => omega
        case rel => exact ⟨k + 1, by omega, by go_num, HB5.out⟩
      have e1 : getT d key = d.vals[i] := by simp [getT, getV, h1, hiv]
      have e2 : getE d key = 0 := by simp [getE, getV, h1, hiv]
      rw [h1, e1, e2, show idxI (some i) = (i : Int) from rfl]
      obtain ⟨b1, o1, rfl⟩ : ∃ b1 o1, va = some ⟨b1, o1, none⟩ := by
        rcases HQ5.out.2.1.2.2.2 with h | ⟨b1, o1, h, _⟩
        · rw [show d.vals = [] from h] at hiv; simp at hiv
        · exact ⟨b1, o1, h⟩
      have c1 := HQ5.out.2.1.at i hiv
      simp only at c1
      obtain ⟨Y, hY⟩ : ∃ Y, d.vals[i] = Y := ⟨_, rfl⟩
      rw [hY] at c1 ⊢
      have hlt : (i : Int) < (d.vals.length : Int) := by omega
      have hYY : (Y.toList == Y.toList) = true := by simp
      clear h1 e1 e2 hY
      go_wp2_with fail
      go_roundg gg
      case measure => omega
      case rel => exact ⟨k + 1, by omega, by go_num, HB5.out⟩
end Go.Proofs.Ythodifgohdaedab
