/- The walk of SealApart. -/
import Derived.Test.YtmmpnkcfekhkhaaDoorApM
import Derived.Test.YtmmpnkcfekhkhaaDoorFrameS
import Derived.Test.YtmmpnkcfekhkhaaDoorShelf
import Derived.Test.YtmmpnkcfekhkhaaDoorSealCutW
import Derived.Test.YtmmpnkcfekhkhaaDoorBytes
import Derived.Deep.LoopGhost
import Derived.Deep.RegionWith
namespace Go.Proofs.YtmmpnkcfekhkhaaDoor
open Go.ChangeShapes Go.WideShapes Go.ChangeAt Go.RowKit

def cut200 (s : ByteArray) : ByteArray := if s.size ≤ 200 then s else s.extract 0 200
theorem cut200_ext (s : ByteArray) : s.extract 0 (min s.size 200) = cut200 s := by
  unfold cut200
  split
  · rw [Nat.min_eq_left (by assumption)]; simp
  · rw [Nat.min_eq_right (by omega)]
theorem cut200_size (s : ByteArray) : (cut200 s).size ≤ 200 := by
  unfold cut200; split
  · assumption
  · simp; omega
theorem run_min200 {P : Program} (w : World) (ts : Array TypeId) (t : TypeId) (x : Nat) : (Builtin.min_ ts t #[.int .i64 (x : Int), .int .i64 200]).run P w = .ok (.int .i64 ((min x 200 : Nat) : Int)) w := by
  simp [Builtin.min_, Builtin.min2]
  repeat' split
  all_goals omega
theorem run_cut200 {P : Program} (w : World) (t : TypeId) (s : ByteArray) (h : P.underlying t = some .string) :
    (Instr.slice t (.string s) none (some (.int .i64 ((min s.size 200 : Nat) : Int))) none).run P w = .ok (.string (cut200 s)) w := by
  have hj : (0 : Int) ≤ ((min s.size 200 : Nat) : Int) ∧ ((min s.size 200 : Nat) : Int) ≤ (s.size : Int) := ⟨by omega, by omega⟩
  rw [← cut200_ext]
  simp [Instr.slice, run_underlying h, hj, go_sem]

theorem bal {w W : World} {o : Obj} (h : Below w.heap.size w W) : Below w.heap.size w (W.alloc o) := h.alloc h.size o

theorem cv_at (S : ByteArray) {W W2 : World} (h : HasBytes W2 W.heap.size S.data.toList) :
    (convert 41 9 (.slice (some ⟨W.heap.size, 0, none⟩) S.size (grownCap W S.size 0 5))).run Tryd.prog W2 = .ok (.string S) W2 := by
  have := h.str (P := Tryd.prog) (src := 41) (dst := 9) (cap := grownCap W S.size 0 5) Tryd.underlying41 Tryd.underlying5 Tryd.underlying9
  rw [← size_list] at this
  exact this
theorem cv_now (S : ByteArray) (W : World) :
    (convert 41 9 (.slice (some ⟨W.heap.size, 0, none⟩) S.size (grownCap W S.size 0 5))).run Tryd.prog (W.alloc (.cells (bytesRow S (grownCap W S.size 0 5)) 5 ((bytesRow S (grownCap W S.size 0 5)).size, (bytesRow S (grownCap W S.size 0 5)).size + 1))).drew = .ok (.string S) (W.alloc (.cells (bytesRow S (grownCap W S.size 0 5)) 5 ((bytesRow S (grownCap W S.size 0 5)).size, (bytesRow S (grownCap W S.size 0 5)).size + 1))).drew :=
  cv_at S (HasBytes.of_string W S _ _ _).drew
theorem cv_after (S : ByteArray) {W W2 : World} (hb : Below (W.alloc (.cells (bytesRow S (grownCap W S.size 0 5)) 5 ((bytesRow S (grownCap W S.size 0 5)).size, (bytesRow S (grownCap W S.size 0 5)).size + 1))).drew.heap.size (W.alloc (.cells (bytesRow S (grownCap W S.size 0 5)) 5 ((bytesRow S (grownCap W S.size 0 5)).size, (bytesRow S (grownCap W S.size 0 5)).size + 1))).drew W2) :
    (convert 41 9 (.slice (some ⟨W.heap.size, 0, none⟩) S.size (grownCap W S.size 0 5))).run Tryd.prog W2 = .ok (.string S) W2 :=
  cv_at S ((HasBytes.of_string W S _ _ _).drew.call hb)

set_option maxHeartbeats 6400000 in
set_option maxRecDepth 100000 in
theorem sealApart_walk {w : World} (a0 : Option Addr) (len0 cap0 : Nat) (ss0 : List ByteArray) (w0 : ss0.length = len0 ∧ HasStrs w a0 cap0 ss0) (a1 : Option Addr) (len1 cap1 : Nat) (ss1 : List ByteArray) (w1 : ss1.length = len1 ∧ HasStrs w a1 cap1 ss1) (a2 : ByteArray) (_w2 : a2.size ≤ maxLen) (hT : Tabs w) (hM : MaxD w) :
    Calls Tryd.prog 7 #[.slice a0 len0 cap0, .slice a1 len1 cap1, .string a2] w fun e w' => e = .returned (.bool true) ∧ Below w.heap.size w w' := by
  obtain ⟨rfl, h0⟩ := w0
  obtain ⟨rfl, h1⟩ := w1
  have HT := Lib.hid (fun W (h : Below w.heap.size w W) => Tabs.after hT h)
  have HM := Lib.hid (fun W (h : Below w.heap.size w W) => hM.call h)
  have H0 := Lib.hid (fun W (h : Below w.heap.size w W) => h0.call h)
  have H1 := Lib.hid (fun W (h : Below w.heap.size w W) => h1.call h)
  clear hT hM h0 h1
  have hm := fun W (t : TypeId) (ts : Array TypeId) => run_min200 (P := Tryd.prog) W ts t a2.size
  have hc := fun W => run_cut200 (P := Tryd.prog) W 9 a2 Tryd.underlying9
  have hs := cut200_size a2
  obtain ⟨S, hS⟩ : ∃ S, cut200 a2 = S := ⟨_, rfl⟩
  rw [hS] at hs
  simp only [hS] at hc
  obtain ⟨L, hL⟩ : ∃ L, fewL ss0 = L := ⟨_, rfl⟩
  obtain ⟨M, hMM⟩ : ∃ M, fewL ss1 = M := ⟨_, rfl⟩
  have hf0 : ∀ (a : Option Addr) (c : Nat) (W : World), HasStrs W a c ss0 → Calls Tryd.prog 18 #[.slice a ss0.length c] W (fun e w' => ∃ p q, e = .returned (.slice p L.length q) ∧ HasStrs w' p q L ∧ Below W.heap.size W w') := fun a c W h => by rw [← hL]; exact few_any a c ss0 W h
  have hf1 : ∀ (a : Option Addr) (c : Nat) (W : World), HasStrs W a c ss1 → Calls Tryd.prog 18 #[.slice a ss1.length c] W (fun e w' => ∃ p q, e = .returned (.slice p M.length q) ∧ HasStrs w' p q M ∧ Below W.heap.size W w') := fun a c W h => by rw [← hMM]; exact few_any a c ss1 W h
  have hc0 := fun a c W (h : HasStrs W a c L) (hT : Tabs W) => close_any a c L W h hT
  have hc1 := fun a c W (h : HasStrs W a c M) (hT : Tabs W) => close_any a c M W h hT
  obtain ⟨e0, he0⟩ : ∃ e, closeE L = e := ⟨_, rfl⟩
  obtain ⟨e1, he1⟩ : ∃ e, closeE M = e := ⟨_, rfl⟩
  rw [he0] at hc0
  rw [he1] at hc1
  have HF0 := Lib.hid hf0
  have HF1 := Lib.hid hf1
  have HC0 := Lib.hid hc0
  have HC1 := Lib.hid hc1
  have HE0 := Lib.hid he0
  have HE1 := Lib.hid he1
  clear hf0 hf1 hc0 hc1 he0 he1 hL hMM hS
  obtain ⟨C, hC⟩ : ∃ C, closeS L = C := ⟨_, rfl⟩
  obtain ⟨D, hD⟩ : ∃ D, closeS M = D := ⟨_, rfl⟩
  rw [hC] at HC0
  rw [hD] at HC1
  have HCC := Lib.hid hC
  have HDD := Lib.hid hD
  clear hC hD
  go_enter Tryd.func7, Tryd.ntmps7
  go_upto_region 5 with (first
    | ((with_reducible refine (HF0.out _ _ _ (H0.out _ (Below.refl _ _))).mono ?_); rintro e w3 ⟨p, q, rfl, hL3, hb3⟩)
    | ((with_reducible refine (HF1.out _ _ _ (H1.out _ hb3)).mono ?_); rintro e w4 ⟨p', q', rfl, hM4, hb4⟩)
    | ((with_reducible refine (HC0.out _ _ _ (hL3.call hb4) (HT.out _ (bthen hb3 hb4))).mono ?_); rintro e w5 ⟨rfl, hb5⟩)
    | ((with_reducible refine (HC1.out _ _ _ (hM4.call hb5) (HT.out _ (bthen (bthen hb3 hb4) hb5))).mono ?_); rintro e w6 ⟨rfl, hb6⟩))
  have hb0 : Below w.heap.size w w6 := bthen (bthen (bthen hb3 hb4) hb5) hb6
  have hL6 := Lib.hid (fun W (h : Below w6.heap.size w6 W) => (((hL3.call hb4).call hb5).call hb6).call h)
  have hM6 := Lib.hid (fun W (h : Below w6.heap.size w6 W) => ((hM4.call hb5).call hb6).call h)
  clear hL3 hM4 hb3 hb4 hb5 hb6 H0 H1 HF0 HF1 HC0 HC1
  go_cut [48] (fun v wx => v = .bool false ∧ Below w6.heap.size w6 wx)
  case first =>
    have hmk := fun W hW => mark_any S W (by omega) hW
    obtain ⟨Y, hY⟩ : ∃ Y : ByteArray, (⟨(markL S.data.toList).toArray⟩ : ByteArray) = Y := ⟨_, rfl⟩
    have hY16 : Y.size = 16 := by rw [← hY]; show (markL S.data.toList).toArray.size = 16; rw [List.size_toArray, markL_len]
    rw [hY] at hmk
    have HMK := Lib.hid hmk
    have hbs := fun W => run_bytes_of_string (P := Tryd.prog) W 9 41 5 S Tryd.underlying9 Tryd.underlying41 Tryd.underlying5
    have hcv := cv_now S
    clear hmk hY hL6 hM6 hm hc HCC HDD HE0 HE1 HM
    go_region_with (first
      | (refine (HMK.out _ (HT.out _ ?hbel)).mono ?_; (case hbel => repeat (first | assumption | refine Below.drew ?_ | refine bal ?_ | refine bthen ?_ (by assumption))); rintro e w9 ⟨rfl, hb9⟩; (first | have hq := cv_after S hb9 | skip))
      | (refine (alive_any _ (HT.out _ ?hbel)).mono ?_; (case hbel => repeat (first | assumption | refine Below.drew ?_ | refine bal ?_ | refine bthen ?_ (by assumption))); rintro e w9 ⟨rfl, hb9⟩))
    all_goals
      go_wp2_with fail
      go_meet
      refine ⟨rfl, ?_⟩
      repeat (first | assumption | exact Below.refl _ _ | refine Below.drew ?_ | refine bal ?_ | refine bthen ?_ (by assumption))
  case rest =>
    obtain ⟨rfl, hb7⟩ := hcut
    obtain ⟨W7, hW7⟩ : ∃ W, W = wc := ⟨_, rfl⟩
    rw [← hW7] at hb7 ⊢
    clear hW7
    have hb := bthen hb0 hb7
    have hl := hL6.out _ hb7
    have hmm := hM6.out _ hb7
    clear hb0 hb7 hL6 hM6 hm hc hs
    cases hmL : mayC L with
    | false =>
      have e : e0 = 2 := by rw [← HE0.out, closeE, if_neg (by rw [hmL]; simp)]
      subst e
      clear hmL hl hmm
      go_wp2_with fail
      go_ret
      exact ⟨rfl, hb⟩
    | true =>
      have e : e0 = 0 := by rw [← HE0.out, closeE, if_pos hmL]
      subst e
      cases hmM : mayC M with
      | false =>
        have e : e1 = 2 := by rw [← HE1.out, closeE, if_neg (by rw [hmM]; simp)]
        subst e
        clear hmL hmM hl hmm
        go_wp2_with fail
        go_ret
        exact ⟨rfl, hb⟩
      | true =>
        have e : e1 = 0 := by rw [← HE1.out, closeE, if_pos hmM]
        subst e
        have hM7 := HM.out _ hb
        obtain ⟨m, hmx⟩ := hM7
        have hCs : C.size ≤ 300032 := by rw [← HCC.out]; exact closeS_size L
        have hct : ∀ k (h : k < L.length), Calls Tryd.prog 27 #[.string C, .string L[k]] W7 fun e w' => e = .returned (.bool true) ∧ w' = W7 := fun k h => by
          have := Tryd.strings_Contains C L[k] m W7 (by omega) hmx
          rw [← HCC.out, close_has hmL (List.getElem_mem h), HCC.out] at this
          exact this
        have hpx : ∀ W, Calls Tryd.prog 28 #[.string C, .string ⟨#[115, 101, 97, 108]⟩] W fun e w' => e = .returned (.bool true) ∧ w' = W := fun W => by
          have := Tryd.strings_HasPrefix C ⟨#[115, 101, 97, 108]⟩ W
          rw [← HCC.out] at this
          rw [show (⟨#[115, 101, 97, 108]⟩ : ByteArray).data.toList = [115, 101, 97, 108] from rfl, close_seal hmL, HCC.out] at this
          exact this
        have hC36 : 36 ≤ C.size := by
          rw [← HCC.out, closeS_true hmL, size_list]
          show 36 ≤ (closeL L).length
          rw [closeL_len, bodyL, List.length_append]
          show 36 ≤ 4 + _ + 32
          omega
        obtain ⟨n, hn⟩ : ∃ n, C.size = n + 32 := ⟨C.size - 32, by omega⟩
        have hcs := close_sum hmL n (by rw [HCC.out]; exact hn)
        rw [HCC.out] at hcs
        have hl64 : L.length ≤ 64 := (mayC_true hmL).1
        have hxn : ((n : Int) + 32 - min ((n : Int) + 32) 32).toNat = n := by omega
        have hsu : ∀ W, Tabs W → Calls Tryd.prog 10 #[.string (C.extract 0 ((n : Int) + 32 - min ((n : Int) + 32) 32).toNat)] W fun e w' => e = .returned (.string ⟨(shaL (bodyL L)).toArray⟩) ∧ Below W.heap.size W w' := fun W hW => by
          have := sum_any (C.extract 0 n) W (by simp; omega) hW
          rw [hcs.1] at this
          rw [hxn]
          exact this
        have hsx : ∀ W, Calls Tryd.prog 29 #[.string C, .string ⟨(shaL (bodyL L)).toArray⟩] W fun e w' => e = .returned (.bool true) ∧ w' = W := fun W => by
          have := Tryd.strings_HasSuffix C ⟨(shaL (bodyL L)).toArray⟩ W (by omega)
          rw [show (⟨(shaL (bodyL L)).toArray⟩ : ByteArray).data.toList = shaL (bodyL L) from rfl, hcs.2] at this
          exact this
        have hsame := same_any p p' q q' L M W7 hl hmm
        have hcd : (C.toList == D.toList) = decide (L = M) := by
          by_cases h : L = M
          · rw [← HCC.out, ← HDD.out, h]; simp
          · rw [decide_eq_false h, beq_eq_false_iff_ne, ne_eq, ByteArray.toList_eq, ByteArray.toList_eq]
            intro e
            refine h (close_inj hmL hmM ?_)
            rw [HCC.out, HDD.out]
            exact Go.WideShapes.bytes_inj e
        obtain ⟨b0, hb00⟩ : ∃ b, decide (L = M) = b := ⟨_, rfl⟩
        rw [hb00] at hcd hsame
        obtain ⟨Z, hZ⟩ : ∃ Z : ByteArray, (⟨(shaL (bodyL L)).toArray⟩ : ByteArray) = Z := ⟨_, rfl⟩
        rw [hZ] at hsu hsx
        have hql : L.length ≤ q := hl.1
        have hcell : ∀ k (h : k < L.length), ∃ b off, p = some ⟨b, off, none⟩ ∧ W7.cell? ⟨b, off + k, none⟩ = some (.string L[k]) := fun k h => by
          rcases hl.2.2.2 with h0 | ⟨b, off, h1, h2, h3⟩
          · rw [h0] at h; exact absurd h (by simp)
          · exact ⟨b, off, h1, h3 k h⟩
        have HCT := Lib.hid hct
        have HPX := Lib.hid hpx
        have HSU := Lib.hid hsu
        have HSX := Lib.hid hsx
        have HSA := Lib.hid hsame
        have HCE := Lib.hid hcell
        clear hct hpx hsu hsx hsame hcell hcs hl hmm hmL hmM hmx hb00 hZ hC36 hxn
        clear HCC HDD HE0 HE1
        go_wp2_with fail
        go_loopg [57] L.length (fun gg iv wr => ∃ k : Nat, k + gg = L.length ∧ iv = .int .i64 (k : Int) ∧ W7 = wr)
        case atStart => exact ⟨0, by omega, rfl, rfl⟩
        case round =>
          obtain ⟨k, hkg, rfl, rfl⟩ := hrel
          cases gk with
          | zero =>
            have hke : k = L.length := by omega
            have hkn : decide ((k : Int) < (L.length : Int)) = false := by simp; omega
            clear hke
            cases b0
            all_goals
              go_wp2_with (first
                | ((with_reducible refine (HSA.out).mono ?_); rintro e w8 ⟨rfl, hb8⟩)
                | ((with_reducible refine (HPX.out _).mono ?_); rintro e w9 ⟨rfl, rfl⟩)
                | ((with_reducible refine (HSU.out _ (HT.out _ (bthen hb hb8))).mono ?_); rintro e w10 ⟨rfl, hb10⟩)
                | ((with_reducible refine (HSX.out _).mono ?_); rintro e w11 ⟨rfl, rfl⟩))
              go_ret
              exact ⟨rfl, bthen (bthen hb hb8) hb10⟩
          | succ gg =>
            have hlt : k < L.length := by omega
            obtain ⟨b, off, rfl, hc⟩ := HCE.out k (by omega)
            have hct := HCT.out k (by omega)
            have HK := Lib.hid hct
            clear hct
            generalize L[k] = x at *
            go_wp2_with ((with_reducible refine (HK.out).mono ?_); rintro e w8 ⟨rfl, rfl⟩)
            go_roundg gg
            case measure => omega
            case rel => exact ⟨k + 1, by omega, by go_num, rfl⟩
end Go.Proofs.YtmmpnkcfekhkhaaDoor
