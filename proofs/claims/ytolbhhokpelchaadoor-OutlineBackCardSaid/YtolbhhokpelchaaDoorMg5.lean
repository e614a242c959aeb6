/- The contracts of (*writer).behind and items. -/
import Derived.Test.YtolbhhokpelchaaDoorMg4
import Derived.Test.YtolbhhokpelchaaDoorLikN
import Derived.Test.YtolbhhokpelchaaDoorMg1
import Derived.Test.YtolbhhokpelchaaDoorShelf
import Derived.Lib.Repeat
import Derived.Deep.CutBlock
import Derived.Outline
namespace Go.Proofs.YtolbhhokpelchaaDoor
open Go.RowKit

theorem repeat_any (d : Nat) (w : World) (hd : d ≤ 100) : Calls Tryd.prog 53 #[.string ⟨#[32, 32]⟩, .int .i64 (d : Int)] w fun e w' => e = .returned (.string (bytesA (List.replicate (2 * d) 32))) ∧ Below w.heap.size w w' := by
  have h := Tryd.strings_Repeat ⟨#[32, 32]⟩ d w (by omega) (by show 2 * d ≤ _; omega)
  have e : Lib.repeatL (⟨#[32, 32]⟩ : ByteArray).data.toList d = List.replicate (2 * d) 32 := by
    have := Lib.repeatL_replicate (32 : UInt8) 2 d
    rw [show (⟨#[32, 32]⟩ : ByteArray).data.toList = List.replicate 2 32 from rfl, this, Nat.mul_comm]
  rw [e] at h
  exact h
theorem put_ok (gw B gp n : Nat) (L L2 : Bs) (ss : List ByteArray) (w : World) (ht : TxtAt w gw B L) (hp : Blk w gp 9 (ss.map Value.string).toArray) (hn : n = ss.length) (hl : ss.length ≤ 10) (hB : B ≤ w.heap.size) (he : L ++ catB ss = L2) (h8 : L2.length ≤ 8192) :
    Calls Tryd.prog 52 #[.pointer (some ⟨gw, 0, none⟩), .slice (some ⟨gp, 0, none⟩) n n] w (fun e w' => e = .returned (.tuple #[]) ∧ FrW gw B w w' ∧ TxtAt w' gw B L2) := by
  subst he
  have h9 : L.length + (catB ss).length ≤ 8192 := by rw [List.length_append] at h8; exact h8
  refine (put_any gw B gp n L ss w ht hp hn (by omega) (by omega) hl hB).mono ?_
  rintro e w' ⟨hf, ⟨_, rfl, h⟩ | ⟨h, _⟩⟩
  · exact ⟨rfl, hf, h⟩
  · omega
theorem put_no (gw B gp n : Nat) (L L2 : Bs) (ss : List ByteArray) (w : World) (ht : TxtAt w gw B L) (hp : Blk w gp 9 (ss.map Value.string).toArray) (hn : n = ss.length) (hL : L.length ≤ 10000) (hss : (catB ss).length ≤ 1000000) (hl : ss.length ≤ 10) (hB : B ≤ w.heap.size) (he : L ++ catB ss = L2) (h8 : ¬ L2.length ≤ 8192) :
    Calls Tryd.prog 52 #[.pointer (some ⟨gw, 0, none⟩), .slice (some ⟨gp, 0, none⟩) n n] w (fun e w' => e = .panicked [longP] ∧ FrW gw B w w') := by
  subst he
  refine (put_any gw B gp n L ss w ht hp hn hL hss hl hB).mono ?_
  rintro e w' ⟨hf, ⟨h, _⟩ | ⟨_, rfl⟩⟩
  · omega
  · exact ⟨rfl, hf⟩
theorem partsC_word {n : Nd} (h : partsC n = true) : n.word.size ≤ 200 := by
  simp only [partsC, owC, Bool.or_eq_true, Bool.and_eq_true, decide_eq_true_eq] at h
  rcases h with (⟨_, ⟨⟨h, _⟩, _⟩, _⟩ | ⟨_, ⟨h, _⟩, _⟩) | ⟨_, ⟨h, _⟩, _⟩
  · rw [lenB] at h; exact h
  · rw [h]; show 0 ≤ 200; omega
  · rw [h]; show 0 ≤ 200; omega
theorem partsC_names {n : Nd} (h : partsC n = true) (h3 : n.kind = 3) : n.names.length = n.items.length := by
  simp only [partsC, Bool.or_eq_true, Bool.and_eq_true, decide_eq_true_eq] at h
  rcases h with (⟨h, _⟩ | ⟨h, _⟩) | ⟨_, ⟨_, h⟩, _⟩
  · omega
  · omega
  · exact h
theorem partsC_name {n : Nd} (h : partsC n = true) (h3 : n.kind = 3) (i : Nat) (hi : i < n.names.length) : bwC n.names[i].data.toList = true := by
  simp only [partsC, Bool.or_eq_true, Bool.and_eq_true, decide_eq_true_eq] at h
  rcases h with (⟨h, _⟩ | ⟨h, _⟩) | ⟨_, _, h⟩
  · omega
  · omega
  · simp only [namesC, Bool.and_eq_true, decide_eq_true_eq, List.all_eq_true, List.mem_range] at h
    have := h.2 i hi
    rw [onK_at _ _ hi, Bool.and_eq_true] at this
    exact this.1
/-- what items writes; what behind writes -/
theorem size_al (w : World) (o : Obj) : w.heap.size ≤ (w.alloc o).heap.size := by simp
theorem below_alK {w W : World} {o : Obj} (h : Below w.heap.size w W) : Below w.heap.size w (W.alloc o) := h.alloc h.size _
def ItM (w0 : World) (q : NdAt) : Prop := ∀ (d r gw B : Nat) (L : Bs) (w : World), rightD r q.n = true → d + r ≤ 8 → Below w0.heap.size w0 w → w0.heap.size ≤ gw → w0.heap.size ≤ B → B ≤ w.heap.size → TxtAt w gw B L → L.length ≤ 8192 →
  Calls Tryd.prog 31 #[.pointer (some ⟨gw, 0, none⟩), .agg (nCells q), .int .i64 (d : Int)] w (PutP gw B (L ++ q.n.linesT d) w)
def BeM (w0 : World) (q : NdAt) : Prop := ∀ (d r gw B : Nat) (L : Bs) (w : World), rightD r q.n = true → d + r ≤ 8 → Below w0.heap.size w0 w → w0.heap.size ≤ gw → w0.heap.size ≤ B → B ≤ w.heap.size → TxtAt w gw B L → L.length ≤ 8192 →
  Calls Tryd.prog 54 #[.pointer (some ⟨gw, 0, none⟩), .agg (nCells q), .int .i64 (d : Int)] w (PutP gw B (L ++ behT q.n d) w)
theorem rightD_parts {r : Nat} {n : Nd} (h : rightD r n = true) : partsC n = true ∧ ∃ s, r = s + 1 ∧ ∀ x ∈ n.items, rightD s x = true := by
  cases r with
  | zero => cases h
  | succ s =>
    simp only [rightD, Bool.and_eq_true, List.all_eq_true] at h
    exact ⟨h.1, s, rfl, h.2⟩

set_option maxHeartbeats 3200000 in
set_option maxRecDepth 100000 in
theorem behind_of {w0 : World} {q : NdAt} (hM : ItM w0 q) : BeM w0 q := by
  intro d r gw B L w hr hd hw hgw hB0 hB ht hL
  have hwz := partsC_word (rightD_parts hr).1
  have hb := below_alK (o := .cells (nCells q) 25) (Below.refl w.heap.size w)
  have hk := Blk.new w 25 (nCells q)
  have hw1 := bthen hw hb
  have ht1 := ht.call hb
  have hf1 : FrW gw B w (w.alloc (.cells (nCells q) 25)) := FrW.of hb
  have hB1 : B ≤ (w.alloc (.cells (nCells q) 25)).heap.size := Nat.le_trans hB hb.size
  have hgb : w.heap.size ≠ gw := by
    obtain ⟨v, h, _⟩ := ht
    exact Nat.ne_of_gt h.lt
  have HFL := Lib.hid (fun W => flat_any q W (by omega))
  have hfl := flatT_len q.n
  have HM := Lib.hid (fun L2 W h1 h2 h3 h4 => hM d r gw B L2 W hr hd h1 hgw hB0 h2 h3 h4)
  obtain ⟨P, hP⟩ : ∃ P, behT q.n d = P := ⟨_, rfl⟩
  have hP0 : P = if q.n.items.isEmpty then 32 :: ((flatT q.n).data.toList ++ [10]) else 10 :: q.n.linesT d := by rw [← hP, behT]
  rw [hP]
  obtain ⟨R, hR⟩ : ∃ R, PutP gw B (L ++ P) w = R := ⟨_, rfl⟩
  have HR := Lib.hid hR
  rw [hR]
  have HP := Lib.hid hP0
  have HF1 := Lib.hid hf1
  have HT1 := Lib.hid ht1
  have HW1 := Lib.hid hw1
  have hiE : q.n.items.isEmpty = decide (q.n.items.length = 0) := by cases q.n.items <;> simp
  have HIE := Lib.hid hiE
  clear hM hr hw ht hP hP0 hR hf1 ht1 hw1 hb hiE
  obtain ⟨n, na, nc, ia, ic⟩ := q
  simp only [nCells] at *
  go_enter Tryd.func54, Tryd.ntmps54
  go_upto_region 1 with fail
  generalize w.alloc (.cells #[.int .i64 n.kind, .string n.word, .slice na n.names.length nc, .slice ia n.items.length ic] 25) = wx at *
  obtain ⟨c0, c1, c2, c3⟩ := hk.cells4
  by_cases hz : n.items.length = 0
  case pos =>
    have d0 : decide ((0 : Int) < (n.items.length : Int)) = false := decide_eq_false (by omega)
    have d1 : decide (0 < n.items.length) = false := decide_eq_false (by omega)
    obtain rfl : P = 32 :: ((flatT n).data.toList ++ [10]) := by rw [HP.out, HIE.out]; simp [hz]
    clear hz HP HIE HM
    have hcat : ∀ F : ByteArray, catB [⟨#[32]⟩, F, ⟨#[10]⟩] = 32 :: (F.data.toList ++ [10]) := fun F => by simp [catB]
    have hF : (flatT n).size ≤ 500 := by omega
    generalize flatT n = F at *
    have hcl : (catB [⟨#[32]⟩, F, ⟨#[10]⟩]).length ≤ 1000000 := by
      rw [hcat]
      simp only [List.length_cons, List.length_append, List.length_nil, lenB]
      omega
    have HC := Lib.hid (hcat F)
    have HCL := Lib.hid hcl
    clear hcat hcl hF hfl
    obtain ⟨L2, hL2⟩ : ∃ X, L ++ 32 :: (F.data.toList ++ [10]) = X := ⟨_, rfl⟩
    have HL2 := Lib.hid (show L ++ catB [⟨#[32]⟩, F, ⟨#[10]⟩] = L2 by rw [HC.out, hL2])
    rw [hL2] at HR
    clear hL2
    by_cases h8 : L2.length ≤ 8192
    · go_wp2_with (first
        | (go_at_call 70; refine (HFL.out _).mono ?_; rintro e w2 ⟨rfl, hb2⟩)
        | (go_at_call 52; refine (put_ok gw B w2.heap.size 3 L L2 [⟨#[32]⟩, F, ⟨#[10]⟩] _ ((HT1.out.call hb2).alloc _) (Blk.new w2 _ _) rfl (by simp) (Nat.le_trans (Nat.le_trans hB1 hb2.size) (size_al _ _)) HL2.out h8).mono ?_; rintro e w3 ⟨rfl, hf3, ht3⟩))
      go_end0
      rw [← HR.out]
      exact ⟨(HF1.out.trans ((FrW.of hb2).alloc _)).trans hf3, .inl ⟨h8, rfl, ht3⟩⟩
    · go_wp2_with (first
        | (go_at_call 70; refine (HFL.out _).mono ?_; rintro e w2 ⟨rfl, hb2⟩)
        | (go_at_call 52; refine (put_no gw B w2.heap.size 3 L L2 [⟨#[32]⟩, F, ⟨#[10]⟩] _ ((HT1.out.call hb2).alloc _) (Blk.new w2 _ _) rfl (by omega) HCL.out (by simp) (Nat.le_trans (Nat.le_trans hB1 hb2.size) (size_al _ _)) HL2.out h8).mono ?_; rintro e w3 ⟨rfl, hf3⟩))
      simp only [bodyPost]
      refine ⟨trivial, ?_⟩
      rw [← HR.out]
      exact ⟨(HF1.out.trans ((FrW.of hb2).alloc _)).trans hf3, .inr ⟨by omega, rfl⟩⟩
  case neg =>
    have d0 : decide ((0 : Int) < (n.items.length : Int)) = true := decide_eq_true (by omega)
    have d1 : decide (0 < n.items.length) = true := decide_eq_true (by omega)
    obtain rfl : P = 10 :: n.linesT d := by rw [HP.out, HIE.out]; simp [hz]
    clear hz HP HIE HFL hfl
    obtain ⟨L2, hL2⟩ : ∃ X, L ++ [10] = X := ⟨_, rfl⟩
    have HL2 := Lib.hid (show L ++ catB [⟨#[10]⟩] = L2 by rw [← hL2]; simp [catB])
    have HR2 : Hid (PutP gw B (L2 ++ n.linesT d) w = R) := Lib.hid (by rw [← HR.out, ← hL2]; simp)
    clear HR hL2
    by_cases h8 : L2.length ≤ 8192
    · go_upto_region 3 with (go_at_call 52; refine (put_ok gw B wx.heap.size 1 L L2 [⟨#[10]⟩] _ (HT1.out.alloc _) (Blk.new wx _ _) rfl (by simp) (Nat.le_trans hB1 (size_al _ _)) HL2.out h8).mono ?_; rintro e w3 ⟨rfl, hf3, ht3⟩)
      have hf4 := ((FrW.refl gw B wx).alloc (.cells #[.string ⟨#[10]⟩] 9)).trans hf3
      obtain ⟨e0, e1, e2, e3⟩ := (hk.frw hf4 hgb (by decide)).cells4
      have hz0 : w0.heap.size ≤ wx.heap.size := HW1.out.size
      have hb4 := hf4.below hz0 hgw hB0
      clear c0 c1 c2 c3 hf3
      go_wp2_with (go_at_call 31; refine (HM.out L2 w3 (HW1.out.trans hb4) (Nat.le_trans hB1 hf4.size) ht3 h8).mono ?_; rintro e w5 ⟨hf5, ⟨h6, rfl, ht5⟩ | ⟨h6, rfl⟩⟩)
      · go_end0
        rw [← HR2.out]
        exact ⟨(HF1.out.trans hf4).trans hf5, .inl ⟨h6, rfl, ht5⟩⟩
      · simp only [bodyPost]
        refine ⟨trivial, ?_⟩
        rw [← HR2.out]
        exact ⟨(HF1.out.trans hf4).trans hf5, .inr ⟨h6, rfl⟩⟩
    · go_wp2_with (go_at_call 52; refine (put_no gw B wx.heap.size 1 L L2 [⟨#[10]⟩] _ (HT1.out.alloc _) (Blk.new wx _ _) rfl (by omega) (by decide) (by simp) (Nat.le_trans hB1 (size_al _ _)) HL2.out h8).mono ?_; rintro e w3 ⟨rfl, hf3⟩)
      simp only [bodyPost]
      refine ⟨trivial, ?_⟩
      rw [← HR2.out]
      exact ⟨(HF1.out.alloc _).trans hf3, .inr ⟨by rw [List.length_append]; omega, rfl⟩⟩
end Go.Proofs.YtolbhhokpelchaaDoor
/- The contract of (*writer).items. -/
namespace Go.Proofs.YtolbhhokpelchaaDoor
open Go.RowKit

set_option maxHeartbeats 12800000 in
set_option maxRecDepth 100000 in
theorem wItems_any {w0 : World} {q : NdAt} (h : q.ok w0) : ItM w0 q := by
  refine NdAt.ok.ind (M := ItM w0) ?_ h
  intro q hq hpl d r gw B L w hr hd hw hgw hB0 hB ht hL
  obtain ⟨hparts, s, rfl, hkids⟩ := rightD_parts hr
  have hb := below_alK (o := .cells (nCells q) 25) (Below.refl w.heap.size w)
  have hk := Blk.new w 25 (nCells q)
  have hw1 := bthen hw hb
  have ht1 := ht.call hb
  have hf1 : FrW gw B w (w.alloc (.cells (nCells q) 25)) := FrW.of hb
  have hB1 : B ≤ (w.alloc (.cells (nCells q) 25)).heap.size := Nat.le_trans hB hb.size
  have hgb : w.heap.size ≠ gw := by
    obtain ⟨v, h, _⟩ := ht
    exact Nat.ne_of_gt h.lt
  have hgl : gw < w.heap.size := by
    obtain ⟨v, h, _⟩ := ht
    exact h.lt
  have hd7 : d ≤ 7 := by omega
  have hnm3 := partsC_names hparts
  have hnmz := partsC_name hparts
  have hhead := hq.head
  have hln := hhead.2.2.2
  have HSTR := Lib.hid hhead.1
  have hlm1 := hhead.1.1
  have hlm2 := hhead.1.2.1
  have HNM3 := Lib.hid hnm3
  have HNMZ := Lib.hid hnmz
  obtain ⟨R, hR⟩ : ∃ R, PutP gw B (L ++ q.n.linesT d) w = R := ⟨_, rfl⟩
  have HR := Lib.hid hR
  rw [hR]
  have HF1 := Lib.hid hf1
  have HT1 := Lib.hid ht1
  have HW := Lib.hid hw1
  have HPL := Lib.hid hpl
  have HKI := Lib.hid hkids
  have HW0 := Lib.hid hw
  have HSP := Lib.hid (linesT_split q.n d)
  have HUP := Lib.hid (fun j h => linesT_upto q.n d j h)
  have HEQ := Lib.hid (linesT_eq q.n d)
  unfold maxLen at hln hlm2
  obtain ⟨hln1, hln2⟩ := hln
  have hz0 : w0.heap.size ≤ (w.alloc (.cells (nCells q) 25)).heap.size := hw1.size
  have hgl1 : gw < (w.alloc (.cells (nCells q) 25)).heap.size := Nat.lt_of_lt_of_le hgl hb.size
  clear hq hpl hr hw ht hR hf1 ht1 hw1 hb hparts hkids hnm3 hnmz hhead hgl
  obtain ⟨n, na, nc, ia, ic⟩ := q
  simp only [nCells] at *
  go_enter Tryd.func31, Tryd.ntmps31
  go_upto_region 1 with fail
  generalize w.alloc (.cells #[.int .i64 n.kind, .string n.word, .slice na n.names.length nc, .slice ia n.items.length ic] 25) = wx at *
  obtain ⟨c0, c1, c2, c3⟩ := hk.cells4
  go_wp2_with fail
  go_loopg [11, 6, 7] n.items.length (fun gg iv _ _ wr => ∃ k : Nat, k + gg = n.items.length ∧ iv = .int .i64 k ∧ FrW gw B wx wr ∧ TxtAt wr gw B (L ++ linesLs n.kind n.names (n.items.take k) d) ∧ (L ++ linesLs n.kind n.names (n.items.take k) d).length ≤ 8192)
  case atStart => exact ⟨0, by omega, rfl, FrW.refl _ _ _, by simpa [linesLs_nil] using HT1.out, by simpa [linesLs_nil] using hL⟩
  case round =>
    obtain ⟨k, hkg, rfl, hf, htx, hl8⟩ := hrel
    cases gk with
    | zero =>
      obtain rfl : k = n.items.length := by omega
      rw [List.take_length, ← HEQ.out] at htx hl8
      go_wp2_with fail
      go_end0
      rw [← HR.out]
      exact ⟨HF1.out.trans hf, .inl ⟨hl8, rfl, htx⟩⟩
    | succ gg =>
      have hkl : k < n.items.length := by omega
      obtain ⟨b1, o1, rfl, hlt1, r, hrn, hrl, hro, hrM⟩ : ∃ b off, ia = some ⟨b, off, none⟩ ∧ b < w0.heap.size ∧ ∃ r : NdAt, r.n = n.items[k] ∧ r.lies w0 b (off + k * 4) ∧ r.ok w0 ∧ ItM w0 r := by
        rcases HPL.out with h | ⟨b, off, h1, h2, h3⟩
        · rw [h] at hkl; simp at hkl
        · exact ⟨b, off, h1, h2, h3 k hkl⟩
      have hwr := HW.out.trans (hf.below hz0 hgw hB0)
      obtain ⟨x0, x1, x2, x3⟩ := hrl.call hwr
      have hup := HUP.out k hkl
      have hsp := HSP.out (k + 1)
      have hrr : rightD s r.n = true := by rw [hrn]; exact HKI.out _ (List.getElem_mem hkl)
      have hbe := fun L2 W h1 h2 h3 h4 => behind_of hrM (d + 1) s gw B L2 W hrr (by omega) h1 hgw hB0 h2 h3 h4
      have HBE0 := Lib.hid hbe
      rw [← hrn] at hup
      obtain ⟨NM, hNM⟩ : ∃ X, nmAt n.names k = X := ⟨_, rfl⟩
      rw [hNM] at hup
      obtain ⟨T1, hT1⟩ : ∃ X, linesLs n.kind n.names (n.items.take (k + 1)) d = X := ⟨_, rfl⟩
      rw [hT1] at hup hsp
      have hr7 := Blk.new wr 25 (nCells r)
      have hbr7 := below_alK (o := .cells (nCells r) 25) (Below.refl wr.heap.size wr)
      obtain ⟨L0, hL0⟩ : ∃ X, L ++ linesLs n.kind n.names (n.items.take k) d = X := ⟨_, rfl⟩
      obtain ⟨L1, hL1⟩ : ∃ X, L0 ++ List.replicate (2 * d) 32 = X := ⟨_, rfl⟩
      obtain ⟨L2, hL2⟩ : ∃ X, L1 ++ hdNm n.kind NM = X := ⟨_, rfl⟩
      obtain ⟨L3, hL3⟩ : ∃ X, L2 ++ behT r.n (d + 1) = X := ⟨_, rfl⟩
      rw [hL0] at htx hl8
      have h3 : L3 = L ++ T1 := by rw [← hL3, ← hL2, ← hL1, ← hL0, hup, itemT]; simp
      have H3 : Hid (L3 = L ++ linesLs n.kind n.names (n.items.take (k + 1)) d) := Lib.hid (by rw [hT1]; exact h3)
      have HLT : Hid (L3.length ≤ (L ++ n.linesT d).length) := Lib.hid (by rw [hsp, h3]; simp only [List.length_append]; omega)
      have HL32 : Hid (L1.length ≤ L2.length ∧ L2.length ≤ L3.length) := Lib.hid (by rw [← hL3, ← hL2]; simp only [List.length_append]; omega)
      have HL1 := Lib.hid hL1
      have HL2 := Lib.hid hL2
      have HBE : Hid (∀ (L2 : Bs) (W : World), Below w0.heap.size w0 W → B ≤ W.heap.size → TxtAt W gw B L2 → L2.length ≤ 8192 → Calls Tryd.prog 54 #[.pointer (some ⟨gw, 0, none⟩), .agg (nCells r), .int .i64 ((d : Int) + 1)] W (PutP gw B (L2 ++ behT r.n (d + 1)) W)) := Lib.hid (fun L2 W h1 h2 h3 h4 => by
        have := HBE0.out L2 W h1 h2 h3 h4
        rw [show ((d + 1 : Nat) : Int) = (d : Int) + 1 by omega] at this
        exact this)
      have hBE2 := HBE.out L2
      rw [hL3] at hBE2
      have HBE2 := Lib.hid hBE2
      have hf7 := hf.trans (FrW.of (gw := gw) (B := B) hbr7)
      have ht7 := htx.call hbr7
      have hg7 : wr.heap.size ≠ gw := by have := hf.size; omega
      have HNM := Lib.hid hNM
      clear hrn hf htx hrl hro hrM hrr hbe HBE0 HBE hup hsp hNM hT1 hL0 hL1 hL2 hL3 h3 hBE2 hwr
      obtain ⟨m, ma, mc, ja, jc⟩ := r
      simp only [nCells] at *
      go_upto_region 4 with fail
      generalize wr.alloc (.cells #[.int .i64 m.kind, .string m.word, .slice ma m.names.length mc, .slice ja m.items.length jc] 25) = w1 at *
      obtain ⟨g7, hg⟩ : ∃ g, wr.heap.size = g := ⟨_, rfl⟩
      rw [hg] at hr7 hg7 ⊢
      clear x0 x1 x2 x3 hg hbr7 c0 c1 c2 c3
      have HBE := HBE2
      clear HBE2
      have hBw1 : B ≤ w1.heap.size := Nat.le_trans hB1 hf7.size
      have HC1 : Hid (L0 ++ catB [bytesA (List.replicate (2 * d) 32)] = L1) := Lib.hid (by rw [← HL1.out]; simp [catB, bytesA])
      have HZ1 : Hid ((catB [bytesA (List.replicate (2 * d) 32)]).length ≤ 1000000) := Lib.hid (by simp [catB, bytesA]; omega)
      have HRP := Lib.hid (fun W => repeat_any d W (by omega))
      generalize bytesA (List.replicate (2 * d) 32) = RP at *
      by_cases h1 : L1.length ≤ 8192
      case neg =>
        go_wp2_with (first
          | (go_at_call 53; refine (HRP.out _).mono ?_; rintro e w2 ⟨rfl, hb2⟩)
          | (go_at_call 52; refine (put_no gw B w2.heap.size 1 L0 L1 [RP] _ ((ht7.call hb2).alloc _) (Blk.new w2 _ _) rfl (by omega) HZ1.out (by simp) (Nat.le_trans (Nat.le_trans hBw1 hb2.size) (size_al _ _)) HC1.out h1).mono ?_; rintro e w3 ⟨rfl, hf3⟩))
        simp only [bodyPost]
        refine ⟨trivial, ?_⟩
        rw [← HR.out]
        exact ⟨HF1.out.trans (hf7.trans (((FrW.of hb2).alloc _).trans hf3)), .inr ⟨by have := HLT.out; have := HL32.out; omega, rfl⟩⟩
      go_upto_region 5 with (first
        | (go_at_call 53; refine (HRP.out _).mono ?_; rintro e w2 ⟨rfl, hb2⟩)
        | (go_at_call 52; refine (put_ok gw B w2.heap.size 1 L0 L1 [RP] _ ((ht7.call hb2).alloc _) (Blk.new w2 _ _) rfl (by simp) (Nat.le_trans (Nat.le_trans hBw1 hb2.size) (size_al _ _)) HC1.out h1).mono ?_; rintro e w3 ⟨rfl, hf3, ht3⟩))
      have hfB : FrW gw B w1 w3 := ((FrW.of hb2).alloc _).trans hf3
      have hfC := hf7.trans hfB
      have hBw3 : B ≤ w3.heap.size := Nat.le_trans hBw1 hfB.size
      obtain ⟨c0, c1, c2, c3⟩ := (hk.frw hfC hgb (by decide)).cells4
      have hw3 := HW.out.trans (hfC.below hz0 hgw hB0)
      clear hb2 hf3 hf7 ht7 HRP HC1 HZ1
      by_cases hk3 : n.kind = 3
      case pos =>
        have t3 : (n.kind == 3) = true := by rw [hk3]; rfl
        have hkn : k < n.names.length := by rw [HNM3.out hk3]; exact hkl
        obtain ⟨b2, o2, rfl⟩ : ∃ b off, na = some ⟨b, off, none⟩ := by
          rcases HSTR.out.2.2.2 with h | ⟨b, off, h, _, _⟩
          · rw [h] at hkn; simp at hkn
          · exact ⟨b, off, h⟩
        have y1 := (HSTR.out.call hw3).atN k hkn
        have hsz := (bwC_size (HNMZ.out hk3 k hkn)).2
        have hnm : n.names[k] = NM := by rw [← HNM.out]; simp [nmAt, hkn]
        rw [hnm] at y1 hsz
        have HC2 : Hid (L1 ++ catB [NM, ⟨#[58]⟩] = L2) := Lib.hid (by rw [← HL2.out, hdNm, if_pos hk3]; simp [catB])
        have HZ2 : Hid ((catB [NM, ⟨#[58]⟩]).length ≤ 1000000) := Lib.hid (by simp only [catB, List.flatMap_cons, List.flatMap_nil, List.length_append, List.length_nil, lenB]; show NM.size + (1 + 0) ≤ _; omega)
        clear hk3 hnm
        by_cases h2 : L2.length ≤ 8192
        case neg =>
          go_wp2_with (go_at_call 52; refine (put_no gw B w3.heap.size 2 L1 L2 [NM, ⟨#[58]⟩] _ (ht3.alloc _) (Blk.new w3 _ _) rfl (by omega) HZ2.out (by simp) (Nat.le_trans hBw3 (size_al _ _)) HC2.out h2).mono ?_; rintro e w5 ⟨rfl, hf4⟩)
          have hf5 := ((FrW.refl gw B w3).alloc (.cells #[.string NM, .string ⟨#[58]⟩] 9)).trans hf4
          simp only [bodyPost]
          refine ⟨trivial, ?_⟩
          rw [← HR.out]
          exact ⟨HF1.out.trans (hfC.trans hf5), .inr ⟨by have := HLT.out; have := HL32.out; omega, rfl⟩⟩
        case pos =>
          go_upto_region 8 with (go_at_call 52; refine (put_ok gw B w3.heap.size 2 L1 L2 [NM, ⟨#[58]⟩] _ (ht3.alloc _) (Blk.new w3 _ _) rfl (by simp) (Nat.le_trans hBw3 (size_al _ _)) HC2.out h2).mono ?_; rintro e w5 ⟨rfl, hf4, ht5⟩)
          have hf5 := ((FrW.refl gw B w3).alloc (.cells #[.string NM, .string ⟨#[58]⟩] 9)).trans hf4
          clear hf4
          have hfD := hfC.trans hf5
          obtain ⟨m0, m1, m2, m3⟩ := (hr7.frw (hfB.trans hf5) hg7 (by decide)).cells4
          have HMK := Lib.hid (HBE.out w5 (HW.out.trans (hfD.below hz0 hgw hB0)) (Nat.le_trans hB1 hfD.size) ht5 h2)
          clear hf5 ht5 hfC hr7 hfB
          go_wp2_with (go_at_call 54; refine HMK.out.mono ?_; rintro e w6 ⟨hf6, ⟨h3, rfl, ht6⟩ | ⟨h3, rfl⟩⟩)
          · go_roundg gg
            case measure => omega
            case rel => exact ⟨k + 1, by omega, by go_num, hfD.trans hf6, by rw [← H3.out]; exact ht6, by rw [← H3.out]; exact h3⟩
          · simp only [bodyPost]
            refine ⟨trivial, ?_⟩
            rw [← HR.out]
            exact ⟨HF1.out.trans (hfD.trans hf6), .inr ⟨by have := HLT.out; omega, rfl⟩⟩

      case neg =>
        have t3 : (n.kind == 3) = false := beq_eq_false_iff_ne.2 hk3
        have HC2 : Hid (L1 ++ catB [⟨#[45]⟩] = L2) := Lib.hid (by rw [← HL2.out, hdNm, if_neg hk3]; simp [catB])
        have HZ2 : Hid ((catB [⟨#[45]⟩]).length ≤ 1000000) := Lib.hid (by decide)
        clear hk3
        by_cases h2 : L2.length ≤ 8192
        case neg =>
          go_wp2_with (go_at_call 52; refine (put_no gw B w3.heap.size 1 L1 L2 [⟨#[45]⟩] _ (ht3.alloc _) (Blk.new w3 _ _) rfl (by omega) HZ2.out (by simp) (Nat.le_trans hBw3 (size_al _ _)) HC2.out h2).mono ?_; rintro e w5 ⟨rfl, hf4⟩)
          have hf5 := ((FrW.refl gw B w3).alloc (.cells #[.string ⟨#[45]⟩] 9)).trans hf4
          simp only [bodyPost]
          refine ⟨trivial, ?_⟩
          rw [← HR.out]
          exact ⟨HF1.out.trans (hfC.trans hf5), .inr ⟨by have := HLT.out; have := HL32.out; omega, rfl⟩⟩
        case pos =>
          go_upto_region 8 with (go_at_call 52; refine (put_ok gw B w3.heap.size 1 L1 L2 [⟨#[45]⟩] _ (ht3.alloc _) (Blk.new w3 _ _) rfl (by simp) (Nat.le_trans hBw3 (size_al _ _)) HC2.out h2).mono ?_; rintro e w5 ⟨rfl, hf4, ht5⟩)
          have hf5 := ((FrW.refl gw B w3).alloc (.cells #[.string ⟨#[45]⟩] 9)).trans hf4
          clear hf4
          have hfD := hfC.trans hf5
          obtain ⟨m0, m1, m2, m3⟩ := (hr7.frw (hfB.trans hf5) hg7 (by decide)).cells4
          have HMK := Lib.hid (HBE.out w5 (HW.out.trans (hfD.below hz0 hgw hB0)) (Nat.le_trans hB1 hfD.size) ht5 h2)
          clear hf5 ht5 hfC hr7 hfB
          go_wp2_with (go_at_call 54; refine HMK.out.mono ?_; rintro e w6 ⟨hf6, ⟨h3, rfl, ht6⟩ | ⟨h3, rfl⟩⟩)
          · go_roundg gg
            case measure => omega
            case rel => exact ⟨k + 1, by omega, by go_num, hfD.trans hf6, by rw [← H3.out]; exact ht6, by rw [← H3.out]; exact h3⟩
          · simp only [bodyPost]
            refine ⟨trivial, ?_⟩
            rw [← HR.out]
            exact ⟨HF1.out.trans (hfD.trans hf6), .inr ⟨by have := HLT.out; omega, rfl⟩⟩

theorem wBehind_any {w0 : World} {q : NdAt} (h : q.ok w0) : BeM w0 q := behind_of (wItems_any h)
end Go.Proofs.YtolbhhokpelchaaDoor
