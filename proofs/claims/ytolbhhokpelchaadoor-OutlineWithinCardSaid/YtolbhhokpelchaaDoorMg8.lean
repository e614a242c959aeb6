/- The contract of the document's own Lines of layer 5. -/
import Derived.Test.YtolbhhokpelchaaDoorMg7
import Derived.Test.YtolbhhokpelchaaDoorMg5
import Derived.Test.YtolbhhokpelchaaDoorMg4
import Derived.IntWalk
import Derived.Test.YtolbhhokpelchaaDoorZOtlK
import Derived.Test.YtolbhhokpelchaaDoorSlcS
namespace Go.Proofs.YtolbhhokpelchaaDoor
open Go.RowKit

theorem bapp (a b : ByteArray) : (a ++ b).data.toList = a.data.toList ++ b.data.toList := by simp [ByteArray.data_append]
theorem bytesA_eq {S : ByteArray} {l : Bs} (h : S.data.toList = l) : S = bytesA l := bytes_ext h
theorem bsize {S : ByteArray} {l : Bs} (h : S.data.toList = l) : S.size = l.length := by rw [← lenB, h]
theorem mul2 (d : Nat) (h : d ≤ 100) : IntKind.i64.wrap (2 * (d : Int)) = ((2 * d : Nat) : Int) := by rw [IntWalk.i64_in _ (by omega)]; omega
def LiM (w0 : World) (q : NdAt) : Prop := ∀ (d r : Nat) (w : World), rightD r q.n = true → d + r ≤ 12 → Below w0.heap.size w0 w → (q.n.linesT d).length ≤ 10000000 →
  Calls Tryd.prog 16 #[.agg (nCells q), .int .i64 (d : Int)] w (StrB (bytesA (q.n.linesT d)) w)

set_option maxHeartbeats 12800000 in
set_option maxRecDepth 100000 in
theorem rLines_any {w0 : World} {q : NdAt} (h : q.ok w0) : LiM w0 q := by
  refine NdAt.ok.ind (M := LiM w0) ?_ h
  intro q hq hpl d r w hr hd hw hL
  obtain ⟨hparts, s, rfl, hkids⟩ := rightD_parts hr
  have hb := below_alK (o := .cells (nCells q) 25) (Below.refl w.heap.size w)
  have hk := Blk.new w 25 (nCells q)
  have hw1 := bthen hw hb
  have hd12 : d ≤ 12 := by omega
  have hnm3 := partsC_names hparts
  have hnmz := partsC_name hparts
  have hhead := hq.head
  have hln := hhead.2.2.2
  have HSTR := Lib.hid hhead.1
  have hlm1 := hhead.1.1
  have hlm2 := hhead.1.2.1
  have HNM3 := Lib.hid hnm3
  have HNMZ := Lib.hid hnmz
  obtain ⟨TX, hTX⟩ : ∃ X, q.n.linesT d = X := ⟨_, rfl⟩
  have HTX := Lib.hid hTX
  rw [hTX] at hL ⊢
  have HLL := Lib.hid hL
  have HW := Lib.hid hw1
  have HPL := Lib.hid hpl
  have HKI := Lib.hid hkids
  have HB := Lib.hid hb
  have HSP := Lib.hid (fun j => linesT_split q.n d j)
  have HUP := Lib.hid (fun j h => linesT_upto q.n d j h)
  have HEQ := Lib.hid (linesT_eq q.n d)
  unfold maxLen at hln hlm2
  obtain ⟨hln1, hln2⟩ := hln
  clear hq hpl hr hw hw1 hb hparts hkids hnm3 hnmz hhead hTX hL
  obtain ⟨n, na, nc, ia, ic⟩ := q
  simp only [nCells] at *
  go_enter Tryd.func16, Tryd.ntmps16
  go_upto_region 1 with fail
  generalize w.alloc (.cells #[.int .i64 n.kind, .string n.word, .slice na n.names.length nc, .slice ia n.items.length ic] 25) = wx at *
  obtain ⟨g1, hg1⟩ : ∃ g, w.heap.size = g := ⟨_, rfl⟩
  have HG := Lib.hid hg1
  rw [hg1] at hk ⊢
  clear hg1
  obtain ⟨c0, c1, c2, c3⟩ := hk.cells4
  go_wp2_with fail
  go_loopg [12, 5, 6, 7, 8] n.items.length (fun gg iv ov _ _ _ wr => ∃ (k : Nat) (S : ByteArray), k + gg = n.items.length ∧ iv = .int .i64 k ∧ ov = .string S ∧ S.data.toList = linesLs n.kind n.names (n.items.take k) d ∧ Below wx.heap.size wx wr)
  case atStart => exact ⟨0, ⟨#[]⟩, by omega, rfl, rfl, by simp [linesLs_nil], Below.refl _ _⟩
  case round =>
    obtain ⟨k, S, hkg, rfl, rfl, hS, hbr⟩ := hrel
    cases gk with
    | zero =>
      obtain rfl : k = n.items.length := by omega
      rw [List.take_length, ← HEQ.out, HTX.out] at hS
      go_wp2_with fail
      go_ret
      exact ⟨by rw [← bytesA_eq hS]; rfl, bthen HB.out hbr⟩
    | succ gg =>
      have hkl : k < n.items.length := by omega
      obtain ⟨b1, o1, rfl, r, hrn, hrl, hro, hrM⟩ : ∃ b off, ia = some ⟨b, off, none⟩ ∧ ∃ r : NdAt, r.n = n.items[k] ∧ r.lies w0 b (off + k * 4) ∧ r.ok w0 ∧ LiM w0 r := by
        rcases HPL.out with h | ⟨b, off, h1, h2, h3⟩
        · rw [h] at hkl; simp at hkl
        · exact ⟨b, off, h1, h3 k hkl⟩
      have hwr := bthen HW.out hbr
      obtain ⟨x0, x1, x2, x3⟩ := hrl.call hwr
      have hup := HUP.out k hkl
      have hsp := HSP.out (k + 1)
      rw [hup, HTX.out] at hsp
      have hrr : rightD s r.n = true := by rw [hrn]; exact HKI.out _ (List.getElem_mem hkl)
      have hrp := (rightD_parts hrr).1
      have hrw := partsC_word hrp
      have hlen := HLL.out
      rw [hsp, ← hrn] at hlen
      simp only [List.length_append] at hlen
      rw [← hrn] at hup
      have hSz := bsize hS
      obtain ⟨O, hO⟩ : ∃ X, linesLs n.kind n.names (n.items.take k) d = X := ⟨_, rfl⟩
      rw [hO] at hS hup hlen hSz
      have hr7 := Blk.new wr 25 (nCells r)
      have hbr7 := below_alK (o := .cells (nCells r) 25) (Below.refl wr.heap.size wr)
      have hit : (itemT n.kind (nmAt n.names k) r.n d).length = 2 * d + ((hdNm n.kind (nmAt n.names k)).length + (behT r.n (d + 1)).length) := by simp [itemT]
      rw [hit] at hlen
      obtain ⟨NM, hNM⟩ : ∃ X, nmAt n.names k = X := ⟨_, rfl⟩
      rw [hNM] at hup hlen
      have HUPN := Lib.hid hup
      have HNM := Lib.hid hNM
      have HLEN := Lib.hid hlen
      have hli := fun W h1 h2 => hrM (d + 1) s W hrr (by omega) h1 h2
      have HLI : Hid (∀ (W : World), Below w0.heap.size w0 W → (r.n.linesT (d + 1)).length ≤ 10000000 → Calls Tryd.prog 16 #[.agg (nCells r), .int .i64 ((d : Int) + 1)] W (StrB (bytesA (r.n.linesT (d + 1))) W)) := Lib.hid (fun W h1 h2 => by
        have := hli W h1 h2
        rw [show ((d + 1 : Nat) : Int) = (d : Int) + 1 by omega] at this
        exact this)
      have HRP := Lib.hid hrp
      have HS := Lib.hid hS
      have HQT := Lib.hid (fun W => rQuote_any r.n.word W (by omega))
      have hm2 := mul2 d (by omega)
      have HBR := Lib.hid hbr
      clear hup hNM hlen hli hrn hrl hro hrM hrr hrp hS hit hsp hO hwr hbr
      obtain ⟨m, ma, mc, ja, jc⟩ := r
      simp only [nCells] at *
      go_upto_region 5 with fail
      have HWR := Lib.hid (bthen HW.out (bthen HBR.out hbr7))
      have HBR7 := Lib.hid (bthen HBR.out hbr7)
      generalize wr.alloc (.cells #[.int .i64 m.kind, .string m.word, .slice ma m.names.length mc, .slice ja m.items.length jc] 25) = w1 at *
      obtain ⟨g7, hg⟩ : ∃ g, wr.heap.size = g := ⟨_, rfl⟩
      rw [hg] at hr7 ⊢
      clear x0 x1 x2 x3 hg hbr7 c0 c1 c2 c3
      go_upto_block 2 with fail
      go_cut [5] (fun v wy => ∃ S1 : ByteArray, v = .string S1 ∧ S1.data.toList = O ++ List.replicate (2 * d) 32 ∧ w1 = wy)
      case first =>
        go_wp2_with fail
        go_loopg [8, 5] (2 * d) (fun gg iv ov wq => ∃ (j : Nat) (S1 : ByteArray), j + gg = 2 * d ∧ iv = .int .i64 (j : Int) ∧ ov = .string S1 ∧ S1.data.toList = O ++ List.replicate j 32 ∧ w1 = wq)
        case atStart => exact ⟨0, S, by omega, rfl, rfl, by simpa using HS.out, rfl⟩
        case round =>
          obtain ⟨j, S1, hj, rfl, rfl, hS1, rfl⟩ := hrel
          have hsz1 : S1.size ≤ 10001000 := by
            rw [bsize hS1, List.length_append, List.length_replicate]
            have := HLEN.out
            omega
          cases gk with
          | zero =>
            obtain rfl : j = 2 * d := by omega
            have dj : decide (((2 * d : Nat) : Int) < ((2 * d : Nat) : Int)) = false := decide_eq_false (Int.lt_irrefl _)
            go_wp2_with fail
            go_meet
            exact ⟨S1, rfl, hS1, rfl⟩
          | succ g3 =>
            have dj : decide ((j : Int) < ((2 * d : Nat) : Int)) = true := decide_eq_true (by omega)
            have hp1 : ¬ 9223372036854775807 < S1.size + (⟨#[32]⟩ : ByteArray).size := by show ¬ 9223372036854775807 < S1.size + 1; omega
            have hp2 : ¬ 9223372036854775807 < S1.size + 1 := by omega
            have HS1 := Lib.hid hS1
            clear hS1
            go_wp2_with fail
            go_roundg g3
            case measure => omega
            case rel => exact ⟨j + 1, S1 ++ ⟨#[32]⟩, by omega, by go_num, rfl, by rw [bapp, HS1.out, List.append_assoc, ← List.replicate_succ'], rfl⟩
      case rest =>
      obtain ⟨S1, rfl, hS1, rfl⟩ := hcut
      have hlen := HLEN.out
      have hz1 : S1.size = O.length + 2 * d := by rw [bsize hS1, List.length_append, List.length_replicate]
      have hkw := hk.call HBR7.out
      obtain ⟨c0, c1, c2, c3⟩ := hkw.cells4
      obtain ⟨x0, x1, x2, x3⟩ := hr7.cells4
      have HS1 := Lib.hid hS1
      clear hS1 hkw
      go_upto_if 27 with fail
      go_cut [5] (fun v wy => ∃ S2 : ByteArray, v = .string S2 ∧ S2.data.toList = O ++ List.replicate (2 * d) 32 ++ hdNm n.kind NM ∧ w1 = wy)
      case first =>
        by_cases hk3 : n.kind = 3
        case pos =>
          have t3 : (n.kind == 3) = true := by rw [hk3]; rfl
          have hkn : k < n.names.length := by rw [HNM3.out hk3]; exact hkl
          obtain ⟨b2, o2, rfl⟩ : ∃ b off, na = some ⟨b, off, none⟩ := by
            rcases HSTR.out.2.2.2 with h | ⟨b, off, h, _, _⟩
            · rw [h] at hkn; simp at hkn
            · exact ⟨b, off, h⟩
          have y1 := (HSTR.out.call HWR.out).atN k hkn
          have hsz := (bwC_size (HNMZ.out hk3 k hkn)).2
          have hnm : n.names[k] = NM := by rw [← HNM.out]; simp [nmAt, hkn]
          rw [hnm] at y1 hsz
          have hp1 : ¬ 9223372036854775807 < S1.size + NM.size := by omega
          have hp2 : ¬ 9223372036854775807 < (S1 ++ NM).size + 1 := by rw [ByteArray.size_append]; omega
          have hp3 : ¬ 9223372036854775807 < (S1 ++ NM).size + (⟨#[58]⟩ : ByteArray).size := hp2
          have hp4 : ¬ 9223372036854775807 < S1.size + NM.size + 1 := by omega
          have HD : Hid ((S1 ++ NM ++ ⟨#[58]⟩).data.toList = O ++ List.replicate (2 * d) 32 ++ hdNm n.kind NM) := Lib.hid (by rw [bapp, bapp, HS1.out, hdNm, if_pos hk3]; simp)
          clear hk3 hnm hlen hz1 hsz
          go_wp2_with fail
          go_meet
          exact ⟨_, rfl, HD.out, rfl⟩
        case neg =>
          have t3 : (n.kind == 3) = false := beq_eq_false_iff_ne.2 hk3
          have hp2 : ¬ 9223372036854775807 < S1.size + 1 := by omega
          have hp3 : ¬ 9223372036854775807 < S1.size + (⟨#[45]⟩ : ByteArray).size := hp2
          have HD : Hid ((S1 ++ ⟨#[45]⟩).data.toList = O ++ List.replicate (2 * d) 32 ++ hdNm n.kind NM) := Lib.hid (by rw [bapp, HS1.out, hdNm, if_neg hk3])
          clear hk3 hlen hz1
          go_wp2_with fail
          go_meet
          exact ⟨_, rfl, HD.out, rfl⟩
      case rest =>
      obtain ⟨S2, rfl, hS2, rfl⟩ := hcut
      have hz2 : S2.size = O.length + 2 * d + (hdNm n.kind NM).length := by rw [bsize hS2, List.length_append, List.length_append, List.length_replicate]
      have HS2 := Lib.hid hS2
      clear hS2 c0 c1 c2 c3 HS1 hz1
      have hbh : behT m (d + 1) = if m.items.isEmpty then 32 :: ((flatT m).data.toList ++ [10]) else 10 :: m.linesT (d + 1) := rfl
      have HBH := Lib.hid hbh
      have hie : m.items.isEmpty = decide (m.items.length = 0) := by cases m.items <;> simp
      have HIE := Lib.hid hie
      have hfl := flatT_len m
      have hls : (m.linesT (d + 1)).length ≤ 10000000 := by
        by_cases h0 : m.items.isEmpty = true
        · rw [linesT_eq, List.isEmpty_iff.1 h0, linesLs_nil]; simp
        · rw [hbh, if_neg h0] at hlen
          simp only [List.length_cons] at hlen
          omega
      have HLS := Lib.hid hls
      clear hbh hie hls
      go_upto_if 40 with fail
      go_cut [5] (fun v wy => ∃ S3 : ByteArray, v = .string S3 ∧ S3.data.toList = O ++ List.replicate (2 * d) 32 ++ hdNm n.kind NM ++ (if m.items.isEmpty then 32 :: (flatT m).data.toList else []) ∧ Below w1.heap.size w1 wy)
      case first =>
        by_cases h0 : m.items.length = 0
        case pos =>
          have hi0 : m.items.isEmpty = true := by rw [HIE.out]; simp [h0]
          rcases flat_is HRP.out hi0 with ⟨e, ho⟩ | e | e
          · have hk1 : m.kind = 1 := by rw [e]; rfl
            have hft : flatT m = wordT m.word := by rw [e]; rfl
            have t1 : (m.kind == 1) = true := by rw [hk1]; rfl
            rw [hft] at hfl
            obtain ⟨F, hF⟩ : ∃ F, wordT m.word = F := ⟨_, rfl⟩
            rw [hF] at HQT hfl
            have hp2 : ¬ 9223372036854775807 < S2.size + 1 := by omega
            have hp3 : ¬ 9223372036854775807 < S2.size + (⟨#[32]⟩ : ByteArray).size := hp2
            have hp4 : ¬ 9223372036854775807 < (S2 ++ ⟨#[32]⟩).size + F.size := by rw [ByteArray.size_append]; show ¬ _ < S2.size + 1 + F.size; omega
            have hp5 : ¬ 9223372036854775807 < S2.size + 1 + F.size := by omega
            have HD : Hid ((S2 ++ ⟨#[32]⟩ ++ F).data.toList = O ++ List.replicate (2 * d) 32 ++ hdNm n.kind NM ++ (if m.items.isEmpty then 32 :: (flatT m).data.toList else [])) := Lib.hid (by rw [bapp, bapp, HS2.out, if_pos hi0, hft, hF]; simp)
            clear hi0 e ho hk1 hft h0 hF hfl hlen hz2
            go_wp2_with (go_at_call 36; refine (HQT.out _).mono ?_; rintro e w2 ⟨rfl, hb2⟩)
            go_meet
            exact ⟨_, rfl, HD.out, hb2⟩
          · have t1 : (m.kind == 1) = false := by rw [e]; rfl
            have t2 : (m.kind == 2) = true := by rw [e]; rfl
            have l0 : ((m.items.length : Int) == 0) = true := by rw [h0]; rfl
            have hft : (flatT m).data.toList = [91, 93] := by rw [e]; rfl
            have hp2 : ¬ 9223372036854775807 < S2.size + 3 := by omega
            have hp3 : ¬ 9223372036854775807 < S2.size + (⟨#[32, 91, 93]⟩ : ByteArray).size := hp2
            have HD : Hid ((S2 ++ ⟨#[32, 91, 93]⟩).data.toList = O ++ List.replicate (2 * d) 32 ++ hdNm n.kind NM ++ (if m.items.isEmpty then 32 :: (flatT m).data.toList else [])) := Lib.hid (by rw [bapp, HS2.out, if_pos hi0, hft])
            clear hi0 e hft h0 hfl hlen hz2
            go_wp2_with fail
            go_meet
            exact ⟨_, rfl, HD.out, Below.refl _ _⟩
          · have t1 : (m.kind == 1) = false := by rw [e]; rfl
            have t2 : (m.kind == 2) = false := by rw [e]; rfl
            have l0 : ((m.items.length : Int) == 0) = true := by rw [h0]; rfl
            have hft : (flatT m).data.toList = [123, 125] := by rw [e]; rfl
            have hp2 : ¬ 9223372036854775807 < S2.size + 3 := by omega
            have hp3 : ¬ 9223372036854775807 < S2.size + (⟨#[32, 123, 125]⟩ : ByteArray).size := hp2
            have HD : Hid ((S2 ++ ⟨#[32, 123, 125]⟩).data.toList = O ++ List.replicate (2 * d) 32 ++ hdNm n.kind NM ++ (if m.items.isEmpty then 32 :: (flatT m).data.toList else [])) := Lib.hid (by rw [bapp, HS2.out, if_pos hi0, hft])
            clear hi0 e hft h0 hfl hlen hz2
            go_wp2_with fail
            go_meet
            exact ⟨_, rfl, HD.out, Below.refl _ _⟩
        case neg =>
          have hi0 : ¬ m.items.isEmpty = true := by rw [HIE.out]; simp [h0]
          have t1 : (m.kind == 1) = false := by
            refine beq_eq_false_iff_ne.2 fun h => h0 ?_
            have := HRP.out
            simp only [partsC, Bool.or_eq_true, Bool.and_eq_true, decide_eq_true_eq] at this
            rcases this with (⟨_, _, h⟩ | ⟨h2, _⟩) | ⟨h2, _⟩ <;> omega
          have l0 : ((m.items.length : Int) == 0) = false := beq_eq_false_iff_ne.2 (by omega)
          have HD : Hid (S2.data.toList = O ++ List.replicate (2 * d) 32 ++ hdNm n.kind NM ++ (if m.items.isEmpty then 32 :: (flatT m).data.toList else [])) := Lib.hid (by rw [HS2.out, if_neg hi0]; simp)
          clear hi0 h0 hfl hlen hz2
          go_wp2_with fail
          go_meet
          exact ⟨_, rfl, HD.out, Below.refl _ _⟩
      case rest =>
      obtain ⟨S3, rfl, hS3, hb3⟩ := hcut
      have hz3 : S3.size ≤ 10001000 := by
        rw [bsize hS3]
        simp only [List.length_append, List.length_replicate]
        have : (if m.items.isEmpty then (32 : UInt8) :: (flatT m).data.toList else []).length ≤ 700 := by
          split
          · rw [List.length_cons, lenB]; omega
          · simp
        omega
      have hfin : S3.data.toList ++ [10] ++ m.linesT (d + 1) = linesLs n.kind n.names (n.items.take (k + 1)) d := by
        rw [hS3, HUPN.out, itemT, HBH.out]
        by_cases h0 : m.items.isEmpty = true
        · rw [if_pos h0, if_pos h0, linesT_eq, List.isEmpty_iff.1 h0, linesLs_nil]
          simp
        · rw [if_neg h0, if_neg h0]
          simp
      have HFIN := Lib.hid hfin
      have hlz := HLS.out
      have hLI := HLI.out wc (HWR.out.trans (hb3.mono HWR.out.size)) HLS.out
      obtain ⟨LT, hLT⟩ : ∃ X, m.linesT (d + 1) = X := ⟨_, rfl⟩
      rw [hLT] at hLI HFIN hlz
      obtain ⟨BT, hBT⟩ : ∃ X, bytesA LT = X := ⟨_, rfl⟩
      have hbz : BT.size ≤ 10000000 := by rw [← hBT]; show (Array.size _) ≤ _; simp only [List.size_toArray]; exact hlz
      rw [hBT] at hLI
      have HLI2 := Lib.hid hLI
      have HBT : Hid (BT.data.toList = LT) := Lib.hid (by rw [← hBT]; rfl)
      obtain ⟨x0', x1', x2', x3'⟩ := (hr7.call hb3).cells4
      have hp2 : ¬ 9223372036854775807 < S3.size + 1 := by omega
      have hp3 : ¬ 9223372036854775807 < S3.size + (⟨#[10]⟩ : ByteArray).size := hp2
      have hp4 : ¬ 9223372036854775807 < (S3 ++ ⟨#[10]⟩).size + BT.size := by rw [ByteArray.size_append]; show ¬ _ < S3.size + 1 + BT.size; omega
      have hp5 : ¬ 9223372036854775807 < S3.size + 1 + BT.size := by omega
      have HB3 := Lib.hid (bthen HBR7.out hb3)
      clear x0 x1 x2 x3 hLI hLT hBT hbz hlz hfin hS3 hz3 hb3 hlen hz2 hfl HQT
      go_wp2_with (go_at_call 16; refine HLI2.out.mono ?_; rintro e w6 ⟨rfl, hb6⟩)
      go_roundg gg
      case measure => omega
      case rel => exact ⟨k + 1, S3 ++ ⟨#[10]⟩ ++ BT, by omega, by go_num, rfl, by rw [bapp, bapp, HBT.out]; exact HFIN.out, bthen HB3.out hb6⟩
end Go.Proofs.YtolbhhokpelchaaDoor
/- The contract of outline.Get where there is such an item. -/
namespace Go.Proofs.YtolbhhokpelchaaDoor
open Go.RowKit

theorem results_cell_tmpO {P : Program} {fn : Func} {p u : Tmp} {ty : TypeId} (h : fn.results = #[.cell p ty, .tmp u]) (tmps : Array Value) (w : World) (g : Nat) (t : TypeId) (cs : Array Value) (fr : Nat × Nat) (d : TypeDesc)
    (hp : tmps.getD p undef = .pointer (some ⟨g, 0, none⟩)) (hg : w.heap[g]? = some (.cells cs t fr))
    (hu : P.underlying ty = some d) (hd : (match d with | .struct _ | .array _ _ => true | _ => false) = true) (hi : (P.info? ty).map (·.size) = some cs.size) :
    (results fn tmps).run P w = .ok (.tuple #[.agg cs, tmps.getD u undef]) w := by
  have hp' : tmps[p]?.getD undef = .pointer (some ⟨g, 0, none⟩) := by simpa using hp
  simp [results, h, hp', asAddr, run_loadVar_row w g t ty cs fr d hg hu hd hi]

set_option maxHeartbeats 3200000 in
set_option maxRecDepth 100000 in
theorem getOk_any (q : NdAt) (w : World) (hq : q.ok w) (nm : ByteArray) (kd : Int) (i : Nat) (h3 : q.n.kind = 3) (hl : q.n.names.length = q.n.items.length) (hi : i < q.n.items.length) (hx : keyIB q.n.names nm = some i) (hk : q.n.items[i].kind = kd) :
    Calls Tryd.prog 27 #[.agg (nCells q), .string nm, .int .i64 kd] w (fun e w' => Below w.heap.size w w' ∧ ∃ r : NdAt, r.n = q.n.items[i] ∧ r.ok w' ∧ e = .returned (.tuple #[.agg (nCells r), .int .i64 0])) := by
  obtain ⟨Q, hQ⟩ : ∃ Q : Ending → World → Prop, Q = (fun e w' => Below w.heap.size w w' ∧ ∃ r : NdAt, r.n = q.n.items[i] ∧ r.ok w' ∧ e = .returned (.tuple #[.agg (nCells r), .int .i64 0])) := ⟨_, rfl⟩
  have HQ := Lib.hid hQ
  rw [← hQ]
  have hb1 := below_al (o := .cells (nCells q) 25) (Below.refl w.heap.size w)
  have hB1 := Blk.new w 25 (nCells q)
  have hb2 := below_al (o := .cells #[.int .i64 0, .string ⟨#[]⟩, .slice none 0 0, .slice none 0 0] 25) hb1
  have hB2 := nbN w (.cells (nCells q) 25) #[.int .i64 0, .string ⟨#[]⟩, .slice none 0 0, .slice none 0 0] 25
  have hB1' := hB1.alloc (.cells #[.int .i64 0, .string ⟨#[]⟩, .slice none 0 0, .slice none 0 0] 25)
  have hh := hq.head
  have hst := hh.1
  have hic := hh.2.2.2
  obtain ⟨b1, o1, hia, hlt, r, hrn, hrl, hro⟩ : ∃ b off, q.ia = some ⟨b, off, none⟩ ∧ b < w.heap.size ∧ ∃ r : NdAt, r.n = q.n.items[i] ∧ r.lies w b (off + i * 4) ∧ r.ok w := by
    rcases hq.place with h | ⟨b, off, h1, h2, h3⟩
    · rw [h] at hi; simp at hi
    · exact ⟨b, off, h1, h2, h3 i hi⟩
  have HIX := Lib.hid (fun W (h : Below w.heap.size w W) => index_any q.na q.nc q.n.names nm W (hst.call h))
  rw [hx] at HIX
  have HX : Hid (∀ W, Below w.heap.size w W → Calls Tryd.prog 48 #[.slice q.na q.n.names.length q.nc, .string nm] W (IntS (i : Int) W)) := Lib.hid HIX.out
  obtain ⟨x0, x1, x2, x3⟩ := hrl.call hb2
  have HRO := Lib.hid hro
  have f1 : (q.n.kind != 3) = false := by rw [h3]; rfl
  have f2 : ((q.n.names.length : Int) != (q.n.items.length : Int)) = false := by rw [hl]; simp
  have f3 : (r.n.kind != kd) = false := by rw [hrn, hk]; simp
  have HB2 := Lib.hid hb2
  have HRN := Lib.hid hrn
  unfold maxLen at hic
  obtain ⟨hic1, hic2⟩ := hic
  have hneb : w.heap.size ≠ w.heap.size + 1 := by omega
  clear HIX hrn hrl hro hh hst hq hx hk h3 hl hb1 hb2 hQ hB1 hlt
  obtain ⟨n, na, nc, ia, ic⟩ := q
  obtain ⟨m, ma, mc, ja, jc⟩ := r
  simp only [nCells] at *
  subst hia
  go_enter Tryd.func27, Tryd.ntmps27
  go_upto_region 1 with fail
  generalize (w.alloc (.cells #[.int .i64 n.kind, .string n.word, .slice na n.names.length nc, .slice (some ⟨b1, o1, none⟩) n.items.length ic] 25)).alloc (.cells #[.int .i64 0, .string ⟨#[]⟩, .slice none 0 0, .slice none 0 0] 25) = wx at *
  obtain ⟨g1, hg1⟩ : ∃ g, w.heap.size = g := ⟨_, rfl⟩
  have HG := Lib.hid hg1
  rw [hg1] at hB1' hB2 ⊢
  clear hg1 hneb
  obtain ⟨c0, c1, c2, c3⟩ := hB1'.cells4
  obtain ⟨d0, d1, d2, d3⟩ := hB2.cells4
  have z0 := hB2.frozen 0
  have z1 := hB2.frozen 1
  have z2 := hB2.frozen 2
  have z3 := hB2.frozen 3
  have y3 := fun a b c d => ((((hB1'.setO ⟨g1 + 1, 0, none⟩ a (show g1 ≠ g1 + 1 by omega)).setO ⟨g1 + 1, 1, none⟩ b (show g1 ≠ g1 + 1 by omega)).setO ⟨g1 + 1, 2, none⟩ c (show g1 ≠ g1 + 1 by omega)).setO ⟨g1 + 1, 3, none⟩ d (show g1 ≠ g1 + 1 by omega)).cell 3
  clear hB1'
  go_wp2_with (go_at_call 48; refine (HX.out _ HB2.out).mono ?_; rintro e w2 ⟨rfl, rfl⟩)
  obtain ⟨s1, s2, s3, s4, s5, s6⟩ := st4b hB2 (.int .i64 m.kind) (.string m.word) (.slice ma m.names.length mc) (.slice ja m.items.length jc) _ rfl
  have hbe := below_set4N HB2.out (show w.heap.size ≤ g1 + 1 by have := HG.out; omega) (.int .i64 m.kind) (.string m.word) (.slice ma m.names.length mc) (.slice ja m.items.length jc)
  refine bodyPost_ret (v := .tuple #[.agg (nCells ⟨m, ma, mc, ja, jc⟩), .int .i64 0]) ?_ rfl ?_
  · refine (results_cell_tmpO rfl _ _ (g1 + 1) _ (nCells ⟨m, ma, mc, ja, jc⟩) _ _ ?_ (hB2.set4N _ _ _ _) Tryd.underlying25 rfl (by kernel_rfl)).trans ?_
    · rfl
    · rfl
  · rw [HQ.out]
    exact ⟨hbe, ⟨m, ma, mc, ja, jc⟩, HRN.out, HRO.out.call hbe, rfl⟩
end Go.Proofs.YtolbhhokpelchaaDoor
