/- The contract of (*writer).items. -/
import Derived.Test.YtolbhhokpelchaaDoorZWrtC
import Derived.Test.YtolbhhokpelchaaDoorOutQ
import Derived.Test.YtolbhhokpelchaaDoorOutF
namespace Go.Proofs.YtolbhhokpelchaaDoor
open Go.RowKit

set_option maxHeartbeats 12800000 in
set_option maxRecDepth 100000 in
theorem wItems_any {w0 : World} {q : NdAt} (h : q.ok w0) : ItM w0 q := by
  refine NdAt.ok.ind (M := ItM w0) ?_ h
  intro q hq hpl d r gw B L w hr hd hw hgw hB0 hB ht hL
  obtain ⟨hparts, s, rfl, hkids⟩ := rightD_parts hr
  have hb := below_alK (o := .cells (nCells q) 25) (Below.refl w.heap.size w)
  have hk := Blk.new w 25 (nCells q)
  have hw1 := bthen hw hb
  have ht1 := ht.call hb
  have hf1 : FrW gw B w (w.alloc (.cells (nCells q) 25)) := FrW.of hb
  have hB1 : B ≤ (w.alloc (.cells (nCells q) 25)).heap.size := Nat.le_trans hB hb.size
  have hgb : w.heap.size ≠ gw := by
    obtain ⟨v, h, _⟩ := ht
    exact Nat.ne_of_gt h.lt
  have hgl : gw < w.heap.size := by
    obtain ⟨v, h, _⟩ := ht
    exact h.lt
  have hd7 : d ≤ 7 := by omega
  have hnm3 := partsC_names hparts
  have hnmz := partsC_name hparts
  have hhead := hq.head
  have hln := hhead.2.2.2
  have HSTR := Lib.hid hhead.1
  have hlm1 := hhead.1.1
  have hlm2 := hhead.1.2.1
  have HNM3 := Lib.hid hnm3
  have HNMZ := Lib.hid hnmz
  obtain ⟨R, hR⟩ : ∃ R, PutP gw B (L ++ q.n.linesT d) w = R := ⟨_, rfl⟩
  have HR := Lib.hid hR
  rw [hR]
  have HF1 := Lib.hid hf1
  have HT1 := Lib.hid ht1
  have HW := Lib.hid hw1
  have HPL := Lib.hid hpl
  have HKI := Lib.hid hkids
  have HW0 := Lib.hid hw
  have HSP := Lib.hid (linesT_split q.n d)
  have HUP := Lib.hid (fun j h => linesT_upto q.n d j h)
  have HEQ := Lib.hid (linesT_eq q.n d)
  unfold maxLen at hln hlm2
  obtain ⟨hln1, hln2⟩ := hln
  have hz0 : w0.heap.size ≤ (w.alloc (.cells (nCells q) 25)).heap.size := hw1.size
  have hgl1 : gw < (w.alloc (.cells (nCells q) 25)).heap.size := Nat.lt_of_lt_of_le hgl hb.size
  clear hq hpl hr hw ht hR hf1 ht1 hw1 hb hparts hkids hnm3 hnmz hhead hgl
  obtain ⟨n, na, nc, ia, ic⟩ := q
  simp only [nCells] at *
  go_enter Tryd.func31, Tryd.ntmps31
  go_upto_region 1 with fail
  generalize w.alloc (.cells #[.int .i64 n.kind, .string n.word, .slice na n.names.length nc, .slice ia n.items.length ic] 25) = wx at *
  obtain ⟨c0, c1, c2, c3⟩ := hk.cells4
  go_wp2_with fail
  go_loopg [11, 6, 7] n.items.length (fun gg iv _ _ wr => ∃ k : Nat, k + gg = n.items.length ∧ iv = .int .i64 k ∧ FrW gw B wx wr ∧ TxtAt wr gw B (L ++ linesLs n.kind n.names (n.items.take k) d) ∧ (L ++ linesLs n.kind n.names (n.items.take k) d).length ≤ 8192)
  case atStart => exact ⟨0, by omega, rfl, FrW.refl _ _ _, by simpa [linesLs_nil] using HT1.out, by simpa [linesLs_nil] using hL⟩
  case round =>
    obtain ⟨k, hkg, rfl, hf, htx, hl8⟩ := hrel
    cases gk with
    | zero =>
      obtain rfl : k = n.items.length := by omega
      rw [List.take_length, ← HEQ.out] at htx hl8
      go_wp2_with fail
      go_end0
      rw [← HR.out]
      exact ⟨HF1.out.trans hf, .inl ⟨hl8, rfl, htx⟩⟩
    | succ gg =>
      have hkl : k < n.items.length := by omega
      obtain ⟨b1, o1, rfl, hlt1, r, hrn, hrl, hro, hrM⟩ : ∃ b off, ia = some ⟨b, off, none⟩ ∧ b < w0.heap.size ∧ ∃ r : NdAt, r.n = n.items[k] ∧ r.lies w0 b (off + k * 4) ∧ r.ok w0 ∧ ItM w0 r := by
        rcases HPL.out with h | ⟨b, off, h1, h2, h3⟩
        · rw [h] at hkl; simp at hkl
        · exact ⟨b, off, h1, h2, h3 k hkl⟩
      have hwr := HW.out.trans (hf.below hz0 hgw hB0)
      obtain ⟨x0, x1, x2, x3⟩ := hrl.call hwr
      have hup := HUP.out k hkl
      have hsp := HSP.out (k + 1)
      have hrr : rightD s r.n = true := by rw [hrn]; exact HKI.out _ (List.getElem_mem hkl)
      have hbe := fun L2 W h1 h2 h3 h4 => behind_of hrM (d + 1) s gw B L2 W hrr (by omega) h1 hgw hB0 h2 h3 h4
      have HBE0 := Lib.hid hbe
      rw [← hrn] at hup
      obtain ⟨NM, hNM⟩ : ∃ X, nmAt n.names k = X := ⟨_, rfl⟩
      rw [hNM] at hup
      obtain ⟨T1, hT1⟩ : ∃ X, linesLs n.kind n.names (n.items.take (k + 1)) d = X := ⟨_, rfl⟩
      rw [hT1] at hup hsp
      have hr7 := Blk.new wr 25 (nCells r)
      have hbr7 := below_alK (o := .cells (nCells r) 25) (Below.refl wr.heap.size wr)
      obtain ⟨L0, hL0⟩ : ∃ X, L ++ linesLs n.kind n.names (n.items.take k) d = X := ⟨_, rfl⟩
      obtain ⟨L1, hL1⟩ : ∃ X, L0 ++ List.replicate (2 * d) 32 = X := ⟨_, rfl⟩
      obtain ⟨L2, hL2⟩ : ∃ X, L1 ++ hdNm n.kind NM = X := ⟨_, rfl⟩
      obtain ⟨L3, hL3⟩ : ∃ X, L2 ++ behT r.n (d + 1) = X := ⟨_, rfl⟩
      rw [hL0] at htx hl8
      have h3 : L3 = L ++ T1 := by rw [← hL3, ← hL2, ← hL1, ← hL0, hup, itemT]; simp
      have H3 : Hid (L3 = L ++ linesLs n.kind n.names (n.items.take (k + 1)) d) := Lib.hid (by rw [hT1]; exact h3)
      have HLT : Hid (L3.length ≤ (L ++ n.linesT d).length) := Lib.hid (by rw [hsp, h3]; simp only [List.length_append]; omega)
      have HL32 : Hid (L1.length ≤ L2.length ∧ L2.length ≤ L3.length) := Lib.hid (by rw [← hL3, ← hL2]; simp only [List.length_append]; omega)
      have HL1 := Lib.hid hL1
      have HL2 := Lib.hid hL2
      have HBE : Hid (∀ (L2 : Bs) (W : World), Below w0.heap.size w0 W → B ≤ W.heap.size → TxtAt W gw B L2 → L2.length ≤ 8192 → Calls Tryd.prog 54 #[.pointer (some ⟨gw, 0, none⟩), .agg (nCells r), .int .i64 ((d : Int) + 1)] W (PutP gw B (L2 ++ behT r.n (d + 1)) W)) := Lib.hid (fun L2 W h1 h2 h3 h4 => by
        have := HBE0.out L2 W h1 h2 h3 h4
        rw [show ((d + 1 : Nat) : Int) = (d : Int) + 1 by omega] at this
        exact this)
      have hBE2 := HBE.out L2
      rw [hL3] at hBE2
      have HBE2 := Lib.hid hBE2
      have hf7 := hf.trans (FrW.of (gw := gw) (B := B) hbr7)
      have ht7 := htx.call hbr7
      have hg7 : wr.heap.size ≠ gw := by have := hf.size; omega
      have HNM := Lib.hid hNM
      clear hrn hf htx hrl hro hrM hrr hbe HBE0 HBE hup hsp hNM hT1 hL0 hL1 hL2 hL3 h3 hBE2 hwr
      obtain ⟨m, ma, mc, ja, jc⟩ := r
      simp only [nCells] at *
      go_upto_region 4 with fail
      generalize wr.alloc (.cells #[.int .i64 m.kind, .string m.word, .slice ma m.names.length mc, .slice ja m.items.length jc] 25) = w1 at *
      obtain ⟨g7, hg⟩ : ∃ g, wr.heap.size = g := ⟨_, rfl⟩
      rw [hg] at hr7 hg7 ⊢
      clear x0 x1 x2 x3 hg hbr7 c0 c1 c2 c3
      have HBE := HBE2
      clear HBE2
      have hBw1 : B ≤ w1.heap.size := Nat.le_trans hB1 hf7.size
      have HC1 : Hid (L0 ++ catB [bytesA (List.replicate (2 * d) 32)] = L1) := Lib.hid (by rw [← HL1.out]; simp [catB, bytesA])
      have HZ1 : Hid ((catB [bytesA (List.replicate (2 * d) 32)]).length ≤ 1000000) := Lib.hid (by simp [catB, bytesA]; omega)
      have HRP := Lib.hid (fun W => repeat_any d W (by omega))
      generalize bytesA (List.replicate (2 * d) 32) = RP at *
      by_cases h1 : L1.length ≤ 8192
      case neg =>
        go_wp2_with (first
          | (go_at_call 53; refine (HRP.out _).mono ?_; rintro e w2 ⟨rfl, hb2⟩)
          | (go_at_call 52; refine (put_no gw B w2.heap.size 1 L0 L1 [RP] _ ((ht7.call hb2).alloc _) (Blk.new w2 _ _) rfl (by omega) HZ1.out (by simp) (Nat.le_trans (Nat.le_trans hBw1 hb2.size) (size_al _ _)) HC1.out h1).mono ?_; rintro e w3 ⟨rfl, hf3⟩))
        simp only [bodyPost]
        refine ⟨trivial, ?_⟩
        rw [← HR.out]
        exact ⟨HF1.out.trans (hf7.trans (((FrW.of hb2).alloc _).trans hf3)), .inr ⟨by have := HLT.out; have := HL32.out; omega, rfl⟩⟩
      go_upto_region 5 with (first
        | (go_at_call 53; refine (HRP.out _).mono ?_; rintro e w2 ⟨rfl, hb2⟩)
        | (go_at_call 52; refine (put_ok gw B w2.heap.size 1 L0 L1 [RP] _ ((ht7.call hb2).alloc _) (Blk.new w2 _ _) rfl (by simp) (Nat.le_trans (Nat.le_trans hBw1 hb2.size) (size_al _ _)) HC1.out h1).mono ?_; rintro e w3 ⟨rfl, hf3, ht3⟩))
      have hfB : FrW gw B w1 w3 := ((FrW.of hb2).alloc _).trans hf3
      have hfC := hf7.trans hfB
      have hBw3 : B ≤ w3.heap.size := Nat.le_trans hBw1 hfB.size
      obtain ⟨c0, c1, c2, c3⟩ := (hk.frw hfC hgb (by decide)).cells4
      have hw3 := HW.out.trans (hfC.below hz0 hgw hB0)
      clear hb2 hf3 hf7 ht7 HRP HC1 HZ1
      by_cases hk3 : n.kind = 3
      case pos =>
        have t3 : (n.kind == 3) = true := by rw [hk3]; rfl
        have hkn : k < n.names.length := by rw [HNM3.out hk3]; exact hkl
        obtain ⟨b2, o2, rfl⟩ : ∃ b off, na = some ⟨b, off, none⟩ := by
          rcases HSTR.out.2.2.2 with h | ⟨b, off, h, _, _⟩
          · rw [h] at hkn; simp at hkn
          · exact ⟨b, off, h⟩
        have y1 := (HSTR.out.call hw3).atN k hkn
        have hsz := (bwC_size (HNMZ.out hk3 k hkn)).2
        have hnm : n.names[k] = NM := by rw [← HNM.out]; simp [nmAt, hkn]
        rw [hnm] at y1 hsz
        have HC2 : Hid (L1 ++ catB [NM, ⟨#[58]⟩] = L2) := Lib.hid (by rw [← HL2.out, hdNm, if_pos hk3]; simp [catB])
        have HZ2 : Hid ((catB [NM, ⟨#[58]⟩]).length ≤ 1000000) := Lib.hid (by simp only [catB, List.flatMap_cons, List.flatMap_nil, List.length_append, List.length_nil, lenB]; show NM.size + (1 + 0) ≤ _; omega)
        clear hk3 hnm
        by_cases h2 : L2.length ≤ 8192
        case neg =>
          go_wp2_with (go_at_call 52; refine (put_no gw B w3.heap.size 2 L1 L2 [NM, ⟨#[58]⟩] _ (ht3.alloc _) (Blk.new w3 _ _) rfl (by omega) HZ2.out (by simp) (Nat.le_trans hBw3 (size_al _ _)) HC2.out h2).mono ?_; rintro e w5 ⟨rfl, hf4⟩)
          have hf5 := ((FrW.refl gw B w3).alloc (.cells #[.string NM, .string ⟨#[58]⟩] 9)).trans hf4
          simp only [bodyPost]
          refine ⟨trivial, ?_⟩
          rw [← HR.out]
          exact ⟨HF1.out.trans (hfC.trans hf5), .inr ⟨by have := HLT.out; have := HL32.out; omega, rfl⟩⟩
        case pos =>
          go_upto_region 8 with (go_at_call 52; refine (put_ok gw B w3.heap.size 2 L1 L2 [NM, ⟨#[58]⟩] _ (ht3.alloc _) (Blk.new w3 _ _) rfl (by simp) (Nat.le_trans hBw3 (size_al _ _)) HC2.out h2).mono ?_; rintro e w5 ⟨rfl, hf4, ht5⟩)
          have hf5 := ((FrW.refl gw B w3).alloc (.cells #[.string NM, .string ⟨#[58]⟩] 9)).trans hf4
          clear hf4
          have hfD := hfC.trans hf5
          obtain ⟨m0, m1, m2, m3⟩ := (hr7.frw (hfB.trans hf5) hg7 (by decide)).cells4
          have HMK := Lib.hid (HBE.out w5 (HW.out.trans (hfD.below hz0 hgw hB0)) (Nat.le_trans hB1 hfD.size) ht5 h2)
          clear hf5 ht5 hfC hr7 hfB
          go_wp2_with (go_at_call 54; refine HMK.out.mono ?_; rintro e w6 ⟨hf6, ⟨h3, rfl, ht6⟩ | ⟨h3, rfl⟩⟩)
          · go_roundg gg
            case measure => omega
            case rel => exact ⟨k + 1, by omega, by go_num, hfD.trans hf6, by rw [← H3.out]; exact ht6, by rw [← H3.out]; exact h3⟩
          · simp only [bodyPost]
            refine ⟨trivial, ?_⟩
            rw [← HR.out]
            exact ⟨HF1.out.trans (hfD.trans hf6), .inr ⟨by have := HLT.out; omega, rfl⟩⟩

      case neg =>
        have t3 : (n.kind == 3) = false := beq_eq_false_iff_ne.2 hk3
        have HC2 : Hid (L1 ++ catB [⟨#[45]⟩] = L2) := Lib.hid (by rw [← HL2.out, hdNm, if_neg hk3]; simp [catB])
        have HZ2 : Hid ((catB [⟨#[45]⟩]).length ≤ 1000000) := Lib.hid (by decide)
        clear hk3
        by_cases h2 : L2.length ≤ 8192
        case neg =>
          go_wp2_with (go_at_call 52; refine (put_no gw B w3.heap.size 1 L1 L2 [⟨#[45]⟩] _ (ht3.alloc _) (Blk.new w3 _ _) rfl (by omega) HZ2.out (by simp) (Nat.le_trans hBw3 (size_al _ _)) HC2.out h2).mono ?_; rintro e w5 ⟨rfl, hf4⟩)
          have hf5 := ((FrW.refl gw B w3).alloc (.cells #[.string ⟨#[45]⟩] 9)).trans hf4
          simp only [bodyPost]
          refine ⟨trivial, ?_⟩
          rw [← HR.out]
          exact ⟨HF1.out.trans (hfC.trans hf5), .inr ⟨by have := HLT.out; have := HL32.out; omega, rfl⟩⟩
        case pos =>
          go_upto_region 8 with (go_at_call 52; refine (put_ok gw B w3.heap.size 1 L1 L2 [⟨#[45]⟩] _ (ht3.alloc _) (Blk.new w3 _ _) rfl (by simp) (Nat.le_trans hBw3 (size_al _ _)) HC2.out h2).mono ?_; rintro e w5 ⟨rfl, hf4, ht5⟩)
          have hf5 := ((FrW.refl gw B w3).alloc (.cells #[.string ⟨#[45]⟩] 9)).trans hf4
          clear hf4
          have hfD := hfC.trans hf5
          obtain ⟨m0, m1, m2, m3⟩ := (hr7.frw (hfB.trans hf5) hg7 (by decide)).cells4
          have HMK := Lib.hid (HBE.out w5 (HW.out.trans (hfD.below hz0 hgw hB0)) (Nat.le_trans hB1 hfD.size) ht5 h2)
          clear hf5 ht5 hfC hr7 hfB
          go_wp2_with (go_at_call 54; refine HMK.out.mono ?_; rintro e w6 ⟨hf6, ⟨h3, rfl, ht6⟩ | ⟨h3, rfl⟩⟩)
          · go_roundg gg
            case measure => omega
            case rel => exact ⟨k + 1, by omega, by go_num, hfD.trans hf6, by rw [← H3.out]; exact ht6, by rw [← H3.out]; exact h3⟩
          · simp only [bodyPost]
            refine ⟨trivial, ?_⟩
            rw [← HR.out]
            exact ⟨HF1.out.trans (hfD.trans hf6), .inr ⟨by have := HLT.out; omega, rfl⟩⟩

theorem wBehind_any {w0 : World} {q : NdAt} (h : q.ok w0) : BeM w0 q := behind_of (wItems_any h)
end Go.Proofs.YtolbhhokpelchaaDoor
/- The contract of outline.caught around Print's own function. -/
namespace Go.Proofs.YtolbhhokpelchaaDoor
open Go.RowKit

set_option maxHeartbeats 1600000 in
theorem caughtW_any (p n : Option Addr) (w : World) (A : World → Prop) (Z : Int → World → Prop)
    (h : Calls Tryd.prog 30 #[.pointer p, .pointer n] (w.alloc (.cells #[.int .i64 0] 28)) (MayP w.heap.size A Z)) :
    Calls Tryd.prog 29 #[.func (.func 30) #[] #[.pointer p, .pointer n]] w fun e w' =>
      (e = .returned (.int .i64 0) ∧ ∃ w1, A w1 ∧ w' = w1.setCell ⟨w.heap.size, 0, none⟩ (.int .i64 0)) ∨ ∃ c w1, e = .returned (.int .i64 c) ∧ Z c w1 ∧ w' = w1.setCell ⟨w.heap.size, 0, none⟩ (.int .i64 c) := by
  have hmf : ∀ (fn : Fn) (first cap : Array Value) (w : World), (Instr.makeFunc fn first cap).run Tryd.prog w = .ok (.func fn first cap) w := fun _ _ _ _ => rfl
  have H := Lib.hid h
  clear h
  go_enter_defers Tryd.func29, Tryd.ntmps29
  go_wp2_with (go_at_call 30; refine H.out.mono ?_; rintro e w1 ⟨⟨rfl, hA⟩ | ⟨c, rfl, hZ⟩, hc, hz⟩)
  · refine leaves_cons (f := 51) (args := #[.pointer (some ⟨w.heap.size, 0, none⟩)]) (by simp) (by simp [go_sem]) ?_
    refine (catch_idle ⟨w.heap.size, 0, none⟩ _).mono ?_
    rintro e u' w'' ⟨rfl, rfl, rfl⟩
    have hr : (w1.setCell ⟨w.heap.size, 0, none⟩ (.int .i64 0)).cell? ⟨w.heap.size, 0, none⟩ = some (.int .i64 0) := World.cell?_setCell_same _ _ _ hc
    simp [Leaves, settle, results, Tryd.results29, go_sem, hr]
    exact .inl ⟨w1, hA, rfl⟩
  · refine leaves_cons (f := 51) (args := #[.pointer (some ⟨w.heap.size, 0, none⟩)]) (by simp) (by simp [go_sem]) ?_
    refine (catch_panicking ⟨w.heap.size, 0, none⟩ 0 c w1 hc hz).mono ?_
    rintro e u' w'' ⟨rfl, rfl, rfl⟩
    have hr : (w1.setCell ⟨w.heap.size, 0, none⟩ (.int .i64 c)).cell? ⟨w.heap.size, 0, none⟩ = some (.int .i64 c) := World.cell?_setCell_same _ _ _ hc
    simp [Leaves, settle, results, Tryd.results29, go_sem, hr]
    exact .inr ⟨w1, hZ, rfl⟩
end Go.Proofs.YtolbhhokpelchaaDoor
/- The contract of outline.Print. -/
namespace Go.Proofs.YtolbhhokpelchaaDoor
open Go.RowKit

/-- which error a node's text has, and the text -/
def printE (n : Nd) : Int := if nodeC n = false ∨ n.items.length = 0 then 1 else if (n.linesT 0).length ≤ 8192 then 0 else 2
def printS (n : Nd) : ByteArray := if nodeC n = false ∨ n.items.length = 0 then ⟨#[]⟩ else if (n.linesT 0).length ≤ 8192 then bytesA (n.linesT 0) else ⟨#[]⟩
theorem below_setN {B : Nat} {w0 w : World} {g i : Nat} (h : Below B w0 w) (hg : B ≤ g) (v : Value) : Below B w0 (w.setCell ⟨g, i, none⟩ v) :=
  ⟨h.os, h.tape, h.output, by simpa [World.setCell] using h.size, fun k hk => (Below.heap_setCell w ⟨g, i, none⟩ v k (by show k ≠ g; omega)).trans (h.block k hk)⟩
def PrintP (n : Nd) (w : World) (e : Ending) (w' : World) : Prop := e = .returned (.tuple #[.string (printS n), .int .i64 (printE n)]) ∧ Below w.heap.size w w'

set_option maxHeartbeats 3200000 in
set_option maxRecDepth 100000 in
theorem print1_any {w0 : World} {q : NdAt} (h : q.ok w0) (gw g1 ge B : Nat) (w : World) (hr : nodeC q.n = true) (hw : Below w0.heap.size w0 w) (hgw : w0.heap.size ≤ gw) (hB0 : w0.heap.size ≤ B) (hB : B ≤ w.heap.size) (ht : TxtAt w gw B []) (hg : Blk w g1 25 (nCells q)) (he : Blk w ge 28 #[.int .i64 0]) (hgb : ge < B) :
    Calls Tryd.prog 30 #[.pointer (some ⟨gw, 0, none⟩), .pointer (some ⟨g1, 0, none⟩)] w
      (MayP ge (fun w' => FrW gw B w w' ∧ TxtAt w' gw B (q.n.linesT 0) ∧ (q.n.linesT 0).length ≤ 8192) (fun c w' => c = 2 ∧ FrW gw B w w' ∧ 8192 < (q.n.linesT 0).length)) := by
  have hne : ge ≠ gw := by
    obtain ⟨v, h1, _⟩ := ht
    exact blkNe he h1 (by decide)
  have hke : ∀ w', FrW gw B w w' → Blk w' ge 28 #[.int .i64 0] := fun w' hf => (hf.blk ge he.lt hne (.inl hgb)).trans he
  have hI := wItems_any h 0 8 gw B [] w hr (by omega) hw hgw hB0 hB ht (by simp)
  rw [List.nil_append] at hI
  obtain ⟨R, hR⟩ : ∃ R, (MayP ge (fun w' => FrW gw B w w' ∧ TxtAt w' gw B (q.n.linesT 0) ∧ (q.n.linesT 0).length ≤ 8192) (fun c w' => c = 2 ∧ FrW gw B w w' ∧ 8192 < (q.n.linesT 0).length)) = R := ⟨_, rfl⟩
  have HR := Lib.hid hR
  rw [hR]
  have HI := Lib.hid hI
  have HKE := Lib.hid hke
  clear hI hR hke h hr hw ht he
  obtain ⟨n, na, nc, ia, ic⟩ := q
  simp only [nCells] at *
  obtain ⟨c0, c1, c2, c3⟩ := hg.cells4
  go_enter Tryd.func30, Tryd.ntmps30
  go_wp2_with (go_at_call 31; refine HI.out.mono ?_; rintro e w2 ⟨hf, ⟨h8, rfl, ht2⟩ | ⟨h8, rfl⟩⟩)
  · go_end0
    rw [← HR.out]
    exact ⟨.inl ⟨rfl, hf, ht2, h8⟩, (HKE.out _ hf).cell 0, (HKE.out _ hf).frozen 0⟩
  · simp only [bodyPost]
    refine ⟨trivial, ?_⟩
    rw [← HR.out]
    exact ⟨.inr ⟨2, rfl, rfl, hf, h8⟩, (HKE.out _ hf).cell 0, (HKE.out _ hf).frozen 0⟩

set_option maxHeartbeats 6400000 in
set_option maxRecDepth 100000 in
theorem oPrint_any (q : NdAt) (w : World) (h : q.ok w) : Calls Tryd.prog 11 #[.agg (nCells q)] w (PrintP q.n w) := by
  have hmf : ∀ (fn : Fn) (first cap : Array Value) (w : World), (Instr.makeFunc fn first cap).run Tryd.prog w = .ok (.func fn first cap) w := fun _ _ _ _ => rfl
  have hb := below_alK (o := .cells (nCells q) 25) (Below.refl w.heap.size w)
  have hk := Blk.new w 25 (nCells q)
  have hRG := oRight_any q _ (h.call hb)
  obtain ⟨R, hR⟩ : ∃ R, PrintP q.n w = R := ⟨_, rfl⟩
  have HR := Lib.hid hR
  rw [hR]
  have H1 := Lib.hid (fun gw g1 ge B W hr hw hgw hB0 hB ht hg he hgb => print1_any h gw g1 ge B W hr hw hgw hB0 hB ht hg he hgb)
  have HRG := Lib.hid hRG
  have HB := Lib.hid hb
  clear hRG hR h hb
  obtain ⟨n, na, nc, ia, ic⟩ := q
  simp only [nCells] at *
  obtain ⟨C, hC⟩ : ∃ C, nodeC n = C := ⟨_, rfl⟩
  rw [hC] at HRG
  have HC := Lib.hid hC
  clear hC
  go_enter Tryd.func11, Tryd.ntmps11
  go_upto_region 1 with fail
  generalize w.alloc (.cells #[.int .i64 n.kind, .string n.word, .slice na n.names.length nc, .slice ia n.items.length ic] 25) = wx at *
  obtain ⟨g1, hg1⟩ : ∃ g, w.heap.size = g := ⟨_, rfl⟩
  have HG := Lib.hid hg1
  rw [hg1] at hk ⊢
  clear hg1
  obtain ⟨c0, c1, c2, c3⟩ := hk.cells4
  cases C with
  | false =>
    go_wp2_with (go_at_call 12; refine HRG.out.mono ?_; rintro e w2 ⟨rfl, hb2⟩)
    rw [← HR.out]
    exact ⟨by rw [printS, printE, if_pos (.inl HC.out), if_pos (.inl HC.out)]; rfl, bthen HB.out hb2⟩
  | true =>
  by_cases hz : n.items.length = 0
  case pos =>
    have d0 : ((n.items.length : Int) == 0) = true := by rw [hz]; rfl
    have HZ := Lib.hid hz
    clear hz
    go_wp2_with (go_at_call 12; refine HRG.out.mono ?_; rintro e w2 ⟨rfl, hb2⟩; have hk2 := hk.call hb2; obtain ⟨d0, d1, d2, d3⟩ := hk2.cells4)
    rw [← HR.out]
    exact ⟨by rw [printS, printE, if_pos (.inr HZ.out), if_pos (.inr HZ.out)]; rfl, bthen HB.out hb2⟩
  case neg =>
    have d0 : ((n.items.length : Int) == 0) = false := beq_eq_false_iff_ne.2 (by omega)
    have HZ := Lib.hid hz
    clear hz
    go_upto_region 4 with (go_at_call 12; refine HRG.out.mono ?_; rintro e w2 ⟨rfl, hb2⟩; have hk2 := hk.call hb2; obtain ⟨d0, d1, d2, d3⟩ := hk2.cells4)
    have hb3 := below_alK (o := .cells #[.slice none 0 0] 50) (Below.refl w2.heap.size w2)
    have hb4 := below_alK (o := .cells #[.int .i64 0] 28) (Below.refl (w2.alloc (.cells #[.slice none 0 0] 50)).heap.size (w2.alloc (.cells #[.slice none 0 0] 50)))
    have hkw := (Blk.new w2 50 #[.slice none 0 0]).call hb4
    have hke := Blk.new (w2.alloc (.cells #[.slice none 0 0] 50)) 28 #[.int .i64 0]
    have hkn := (hk2.call hb3).call hb4
    have hbw := bthen (bthen HB.out hb2) (bthen hb3 hb4)
    have hgl : w.heap.size ≤ w2.heap.size := (bthen HB.out hb2).size
    have hsz : (w2.alloc (.cells #[.slice none 0 0] 50)).heap.size = w2.heap.size + 1 := by simp
    have hsz2 : ((w2.alloc (.cells #[.slice none 0 0] 50)).alloc (.cells #[.int .i64 0] 28)).heap.size = w2.heap.size + 2 := by simp
    have h1 := H1.out w2.heap.size g1 (w2.alloc (.cells #[.slice none 0 0] 50)).heap.size (w2.heap.size + 2) ((w2.alloc (.cells #[.slice none 0 0] 50)).alloc (.cells #[.int .i64 0] 28)) HC.out hbw hgl (by omega) (by rw [hsz2]; exact Nat.le_refl _) ⟨_, hkw, World.ownsRow_nil _ _ _ _⟩ hkn hke (by rw [hsz]; omega)
    have hca := caughtW_any _ _ _ _ _ h1
    have hBW := Lib.hid hbw
    have HCA := Lib.hid hca
    have hb5 := Lib.hid (bthen (bthen HB.out hb2) hb3)
    have hkw3 := Blk.new w2 50 #[.slice none 0 0]
    clear hbw h1 hca hke hkn hkw hk2 d0 d1 d2 d3 hb2 H1 hb3 hb4
    have HGL := Lib.hid hgl
    have HSZ := Lib.hid hsz
    have HSZ2 := Lib.hid hsz2
    clear hgl hsz hsz2 hkw3
    by_cases h8 : (n.linesT 0).length ≤ 8192
    case pos =>
      have HPE : Hid (printE n = 0) := Lib.hid (by rw [printE, if_neg (by simp [HC.out, HZ.out]), if_pos h8])
      have HPS : Hid (printS n = bytesA (n.linesT 0)) := Lib.hid (by rw [printS, if_neg (by simp [HC.out, HZ.out]), if_pos h8])
      have HC2 : Hid (Calls Tryd.prog 29 #[.func (.func 30) #[] #[.pointer (some ⟨w2.heap.size, 0, none⟩), .pointer (some ⟨g1, 0, none⟩)]] (w2.alloc (.cells #[.slice none 0 0] 50)) fun e w' => e = .returned (.int .i64 0) ∧ Below w.heap.size w w' ∧ ∃ a c, Blk w' w2.heap.size 50 #[.slice a (n.linesT 0).length c] ∧ OwnB 5 w' (w2.heap.size + 2) (.slice a (n.linesT 0).length c) (n.linesT 0)) := Lib.hid (HCA.out.mono (by
        rintro e w' (⟨rfl, w5, ⟨hf5, ⟨v, hv, ho⟩, _⟩, rfl⟩ | ⟨c, w5, rfl, ⟨rfl, _, h9⟩, rfl⟩)
        · obtain ⟨a, c, rfl⟩ := ho.form
          have hE : (w2.alloc (.cells #[.slice none 0 0] 50)).heap.size = w2.heap.size + 1 := HSZ.out
          refine ⟨rfl, ?_, a, c, ?_, ?_⟩
          · refine below_setN (hBW.out.trans (hf5.below (b := w.heap.size) (by rw [HSZ2.out]; have := HGL.out; omega) HGL.out (by have := HGL.out; omega))) ?_ _
            rw [hE]
            have := HGL.out
            omega
          · exact hv.setO _ _ (Nat.ne_of_lt (show w2.heap.size < (w2.alloc (.cells #[.slice none 0 0] 50)).heap.size by rw [hE]; omega))
          · refine World.ownsRow.kept ho (row := some (w2.heap.size + 1)) ⟨rfl, rfl, rfl, by simp [World.setCell], fun k _ hk => ?_⟩ ?_
            · exact Below.heap_setCell w5 _ _ k (fun e => hk (by rw [e, hE]))
            · cases e : Value.ownBlock (.slice a (n.linesT 0).length c) with
              | none => simp
              | some g =>
                right
                intro e2
                have := (World.ownsRow.lt ho g e).1
                have : g = w2.heap.size + 1 := by simpa using e2
                omega
        · omega))
      clear HCA h8
      generalize hT : n.linesT 0 = T at *
      clear hT
      go_wp2_with (go_at_call 29; refine HC2.out.mono ?_; rintro e w6 ⟨rfl, hb6, a6, c6, hk6, ho6⟩; have e6 := hk6.cell 0; have hst := ho6.str Tryd.underlying48 Tryd.underlying5 Tryd.underlying9)
      rw [← HR.out]
      exact ⟨by rw [HPE.out, HPS.out]; rfl, hb6⟩
    case neg =>
      have HPE : Hid (printE n = 2) := Lib.hid (by rw [printE, if_neg (by simp [HC.out, HZ.out]), if_neg h8])
      have HPS : Hid (printS n = ⟨#[]⟩) := Lib.hid (by rw [printS, if_neg (by simp [HC.out, HZ.out]), if_neg h8])
      have HC2 : Hid (Calls Tryd.prog 29 #[.func (.func 30) #[] #[.pointer (some ⟨w2.heap.size, 0, none⟩), .pointer (some ⟨g1, 0, none⟩)]] (w2.alloc (.cells #[.slice none 0 0] 50)) fun e w' => e = .returned (.int .i64 2) ∧ Below w.heap.size w w') := Lib.hid (HCA.out.mono (by
        rintro e w' (⟨rfl, w5, ⟨_, _, h9⟩, rfl⟩ | ⟨c, w5, rfl, ⟨rfl, hf5, h9⟩, rfl⟩)
        · omega
        · have hE : (w2.alloc (.cells #[.slice none 0 0] 50)).heap.size = w2.heap.size + 1 := HSZ.out
          refine ⟨rfl, ?_⟩
          refine below_setN (hBW.out.trans (hf5.below (b := w.heap.size) (by rw [HSZ2.out]; have := HGL.out; omega) HGL.out (by have := HGL.out; omega))) ?_ _
          rw [hE]
          have := HGL.out
          omega))
      clear HCA h8
      generalize hT : n.linesT 0 = T at *
      clear hT
      go_wp2_with (go_at_call 29; refine HC2.out.mono ?_; rintro e w6 ⟨rfl, hb6⟩)
      rw [← HR.out]
      exact ⟨by rw [HPE.out, HPS.out]; rfl, hb6⟩
end Go.Proofs.YtolbhhokpelchaaDoor
