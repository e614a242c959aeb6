/- The contracts of (*writer).behind and items. -/
import Derived.Test.YtolbhhokpelchaaDoorMg2
import Derived.Test.YtolbhhokpelchaaDoorLikN
import Derived.Test.YtolbhhokpelchaaDoorPrsM
import Derived.Test.YtolbhhokpelchaaDoorShelf
import Derived.Lib.Repeat
import Derived.Deep.CutBlock
import Derived.Outline
namespace Go.Proofs.YtolbhhokpelchaaDoor
open Go.RowKit

theorem repeat_any (d : Nat) (w : World) (hd : d ≤ 100) : Calls Tryd.prog 53 #[.string ⟨#[32, 32]⟩, .int .i64 (d : Int)] w fun e w' => e = .returned (.string (bytesA (List.replicate (2 * d) 32))) ∧ Below w.heap.size w w' := by
  have h := Tryd.strings_Repeat ⟨#[32, 32]⟩ d w (by omega) (by show 2 * d ≤ _; omega)
  have e : Lib.repeatL (⟨#[32, 32]⟩ : ByteArray).data.toList d = List.replicate (2 * d) 32 := by
    have := Lib.repeatL_replicate (32 : UInt8) 2 d
    rw [show (⟨#[32, 32]⟩ : ByteArray).data.toList = List.replicate 2 32 from rfl, this, Nat.mul_comm]
  rw [e] at h
  exact h
theorem put_ok (gw B gp n : Nat) (L L2 : Bs) (ss : List ByteArray) (w : World) (ht : TxtAt w gw B L) (hp : Blk w gp 9 (ss.map Value.string).toArray) (hn : n = ss.length) (hl : ss.length ≤ 10) (hB : B ≤ w.heap.size) (he : L ++ catB ss = L2) (h8 : L2.length ≤ 8192) :
    Calls Tryd.prog 52 #[.pointer (some ⟨gw, 0, none⟩), .slice (some ⟨gp, 0, none⟩) n n] w (fun e w' => e = .returned (.tuple #[]) ∧ FrW gw B w w' ∧ TxtAt w' gw B L2) := by
  subst he
  have h9 : L.length + (catB ss).length ≤ 8192 := by rw [List.length_append] at h8; exact h8
  refine (put_any gw B gp n L ss w ht hp hn (by omega) (by omega) hl hB).mono ?_
  rintro e w' ⟨hf, ⟨_, rfl, h⟩ | ⟨h, _⟩⟩
  · exact ⟨rfl, hf, h⟩
  · omega
theorem put_no (gw B gp n : Nat) (L L2 : Bs) (ss : List ByteArray) (w : World) (ht : TxtAt w gw B L) (hp : Blk w gp 9 (ss.map Value.string).toArray) (hn : n = ss.length) (hL : L.length ≤ 10000) (hss : (catB ss).length ≤ 1000000) (hl : ss.length ≤ 10) (hB : B ≤ w.heap.size) (he : L ++ catB ss = L2) (h8 : ¬ L2.length ≤ 8192) :
    Calls Tryd.prog 52 #[.pointer (some ⟨gw, 0, none⟩), .slice (some ⟨gp, 0, none⟩) n n] w (fun e w' => e = .panicked [longP] ∧ FrW gw B w w') := by
  subst he
  refine (put_any gw B gp n L ss w ht hp hn hL hss hl hB).mono ?_
  rintro e w' ⟨hf, ⟨h, _⟩ | ⟨_, rfl⟩⟩
  · omega
  · exact ⟨rfl, hf⟩
theorem partsC_word {n : Nd} (h : partsC n = true) : n.word.size ≤ 200 := by
  simp only [partsC, owC, Bool.or_eq_true, Bool.and_eq_true, decide_eq_true_eq] at h
  rcases h with (⟨_, ⟨⟨h, _⟩, _⟩, _⟩ | ⟨_, ⟨h, _⟩, _⟩) | ⟨_, ⟨h, _⟩, _⟩
  · rw [lenB] at h; exact h
  · rw [h]; show 0 ≤ 200; omega
  · rw [h]; show 0 ≤ 200; omega
theorem partsC_names {n : Nd} (h : partsC n = true) (h3 : n.kind = 3) : n.names.length = n.items.length := by
  simp only [partsC, Bool.or_eq_true, Bool.and_eq_true, decide_eq_true_eq] at h
  rcases h with (⟨h, _⟩ | ⟨h, _⟩) | ⟨_, ⟨_, h⟩, _⟩
  · omega
  · omega
  · exact h
theorem partsC_name {n : Nd} (h : partsC n = true) (h3 : n.kind = 3) (i : Nat) (hi : i < n.names.length) : bwC n.names[i].data.toList = true := by
  simp only [partsC, Bool.or_eq_true, Bool.and_eq_true, decide_eq_true_eq] at h
  rcases h with (⟨h, _⟩ | ⟨h, _⟩) | ⟨_, _, h⟩
  · omega
  · omega
  · simp only [namesC, Bool.and_eq_true, decide_eq_true_eq, List.all_eq_true, List.mem_range] at h
    have := h.2 i hi
    rw [onK_at _ _ hi, Bool.and_eq_true] at this
    exact this.1
/-- what items writes; what behind writes -/
theorem size_al (w : World) (o : Obj) : w.heap.size ≤ (w.alloc o).heap.size := by simp
theorem below_alK {w W : World} {o : Obj} (h : Below w.heap.size w W) : Below w.heap.size w (W.alloc o) := h.alloc h.size _
def ItM (w0 : World) (q : NdAt) : Prop := ∀ (d r gw B : Nat) (L : Bs) (w : World), rightD r q.n = true → d + r ≤ 8 → Below w0.heap.size w0 w → w0.heap.size ≤ gw → w0.heap.size ≤ B → B ≤ w.heap.size → TxtAt w gw B L → L.length ≤ 8192 →
  Calls Tryd.prog 31 #[.pointer (some ⟨gw, 0, none⟩), .agg (nCells q), .int .i64 (d : Int)] w (PutP gw B (L ++ q.n.linesT d) w)
def BeM (w0 : World) (q : NdAt) : Prop := ∀ (d r gw B : Nat) (L : Bs) (w : World), rightD r q.n = true → d + r ≤ 8 → Below w0.heap.size w0 w → w0.heap.size ≤ gw → w0.heap.size ≤ B → B ≤ w.heap.size → TxtAt w gw B L → L.length ≤ 8192 →
  Calls Tryd.prog 54 #[.pointer (some ⟨gw, 0, none⟩), .agg (nCells q), .int .i64 (d : Int)] w (PutP gw B (L ++ behT q.n d) w)
theorem rightD_parts {r : Nat} {n : Nd} (h : rightD r n = true) : partsC n = true ∧ ∃ s, r = s + 1 ∧ ∀ x ∈ n.items, rightD s x = true := by
  cases r with
  | zero => cases h
  | succ s =>
    simp only [rightD, Bool.and_eq_true, List.all_eq_true] at h
    exact ⟨h.1, s, rfl, h.2⟩

set_option maxHeartbeats 3200000 in
set_option maxRecDepth 100000 in
theorem behind_of {w0 : World} {q : NdAt} (hM : ItM w0 q) : BeM w0 q := by
  intro d r gw B L w hr hd hw hgw hB0 hB ht hL
  have hwz := partsC_word (rightD_parts hr).1
  have hb := below_alK (o := .cells (nCells q) 25) (Below.refl w.heap.size w)
  have hk := Blk.new w 25 (nCells q)
  have hw1 := bthen hw hb
  have ht1 := ht.call hb
  have hf1 : FrW gw B w (w.alloc (.cells (nCells q) 25)) := FrW.of hb
  have hB1 : B ≤ (w.alloc (.cells (nCells q) 25)).heap.size := Nat.le_trans hB hb.size
  have hgb : w.heap.size ≠ gw := by
    obtain ⟨v, h, _⟩ := ht
    exact Nat.ne_of_gt h.lt
  have HFL := Lib.hid (fun W => flat_any q W (by omega))
  have hfl := flatT_len q.n
  have HM := Lib.hid (fun L2 W h1 h2 h3 h4 => hM d r gw B L2 W hr hd h1 hgw hB0 h2 h3 h4)
  obtain ⟨P, hP⟩ : ∃ P, behT q.n d = P := ⟨_, rfl⟩
  have hP0 : P = if q.n.items.isEmpty then 32 :: ((flatT q.n).data.toList ++ [10]) else 10 :: q.n.linesT d := by rw [← hP, behT]
  rw [hP]
  obtain ⟨R, hR⟩ : ∃ R, PutP gw B (L ++ P) w = R := ⟨_, rfl⟩
  have HR := Lib.hid hR
  rw [hR]
  have HP := Lib.hid hP0
  have HF1 := Lib.hid hf1
  have HT1 := Lib.hid ht1
  have HW1 := Lib.hid hw1
  have hiE : q.n.items.isEmpty = decide (q.n.items.length = 0) := by cases q.n.items <;> simp
  have HIE := Lib.hid hiE
  clear hM hr hw ht hP hP0 hR hf1 ht1 hw1 hb hiE
  obtain ⟨n, na, nc, ia, ic⟩ := q
  simp only [nCells] at *
  go_enter Tryd.func54, Tryd.ntmps54
  go_upto_region 1 with fail
  generalize w.alloc (.cells #[.int .i64 n.kind, .string n.word, .slice na n.names.length nc, .slice ia n.items.length ic] 25) = wx at *
  obtain ⟨c0, c1, c2, c3⟩ := hk.cells4
  by_cases hz : n.items.length = 0
  case pos =>
    have d0 : decide ((0 : Int) < (n.items.length : Int)) = false := decide_eq_false (by omega)
    have d1 : decide (0 < n.items.length) = false := decide_eq_false (by omega)
    obtain rfl : P = 32 :: ((flatT n).data.toList ++ [10]) := by rw [HP.out, HIE.out]; simp [hz]
    clear hz HP HIE HM
    have hcat : ∀ F : ByteArray, catB [⟨#[32]⟩, F, ⟨#[10]⟩] = 32 :: (F.data.toList ++ [10]) := fun F => by simp [catB]
    have hF : (flatT n).size ≤ 500 := by omega
    generalize flatT n = F at *
    have hcl : (catB [⟨#[32]⟩, F, ⟨#[10]⟩]).length ≤ 1000000 := by
      rw [hcat]
      simp only [List.length_cons, List.length_append, List.length_nil, lenB]
      omega
    have HC := Lib.hid (hcat F)
    have HCL := Lib.hid hcl
    clear hcat hcl hF hfl
    obtain ⟨L2, hL2⟩ : ∃ X, L ++ 32 :: (F.data.toList ++ [10]) = X := ⟨_, rfl⟩
    have HL2 := Lib.hid (show L ++ catB [⟨#[32]⟩, F, ⟨#[10]⟩] = L2 by rw [HC.out, hL2])
    rw [hL2] at HR
    clear hL2
    by_cases h8 : L2.length ≤ 8192
    · go_wp2_with (first
        | (go_at_call 70; refine (HFL.out _).mono ?_; rintro e w2 ⟨rfl, hb2⟩)
        | (go_at_call 52; refine (put_ok gw B w2.heap.size 3 L L2 [⟨#[32]⟩, F, ⟨#[10]⟩] _ ((HT1.out.call hb2).alloc _) (Blk.new w2 _ _) rfl (by simp) (Nat.le_trans (Nat.le_trans hB1 hb2.size) (size_al _ _)) HL2.out h8).mono ?_; rintro e w3 ⟨rfl, hf3, ht3⟩))
      go_end0
      rw [← HR.out]
      exact ⟨(HF1.out.trans ((FrW.of hb2).alloc _)).trans hf3, .inl ⟨h8, rfl, ht3⟩⟩
    · go_wp2_with (first
        | (go_at_call 70; refine (HFL.out _).mono ?_; rintro e w2 ⟨rfl, hb2⟩)
        | (go_at_call 52; refine (put_no gw B w2.heap.size 3 L L2 [⟨#[32]⟩, F, ⟨#[10]⟩] _ ((HT1.out.call hb2).alloc _) (Blk.new w2 _ _) rfl (by omega) HCL.out (by simp) (Nat.le_trans (Nat.le_trans hB1 hb2.size) (size_al _ _)) HL2.out h8).mono ?_; rintro e w3 ⟨rfl, hf3⟩))
      simp only [bodyPost]
      refine ⟨trivial, ?_⟩
      rw [← HR.out]
      exact ⟨(HF1.out.trans ((FrW.of hb2).alloc _)).trans hf3, .inr ⟨by omega, rfl⟩⟩
  case neg =>
    have d0 : decide ((0 : Int) < (n.items.length : Int)) = true := decide_eq_true (by omega)
    have d1 : decide (0 < n.items.length) = true := decide_eq_true (by omega)
    obtain rfl : P = 10 :: n.linesT d := by rw [HP.out, HIE.out]; simp [hz]
    clear hz HP HIE HFL hfl
    obtain ⟨L2, hL2⟩ : ∃ X, L ++ [10] = X := ⟨_, rfl⟩
    have HL2 := Lib.hid (show L ++ catB [⟨#[10]⟩] = L2 by rw [← hL2]; simp [catB])
    have HR2 : Hid (PutP gw B (L2 ++ n.linesT d) w = R) := Lib.hid (by rw [← HR.out, ← hL2]; simp)
    clear HR hL2
    by_cases h8 : L2.length ≤ 8192
    · go_upto_region 3 with (go_at_call 52; refine (put_ok gw B wx.heap.size 1 L L2 [⟨#[10]⟩] _ (HT1.out.alloc _) (Blk.new wx _ _) rfl (by simp) (Nat.le_trans hB1 (size_al _ _)) HL2.out h8).mono ?_; rintro e w3 ⟨rfl, hf3, ht3⟩)
      have hf4 := ((FrW.refl gw B wx).alloc (.cells #[.string ⟨#[10]⟩] 9)).trans hf3
      obtain ⟨e0, e1, e2, e3⟩ := (hk.frw hf4 hgb (by decide)).cells4
      have hz0 : w0.heap.size ≤ wx.heap.size := HW1.out.size
      have hb4 := hf4.below hz0 hgw hB0
      clear c0 c1 c2 c3 hf3
      go_wp2_with (go_at_call 31; refine (HM.out L2 w3 (HW1.out.trans hb4) (Nat.le_trans hB1 hf4.size) ht3 h8).mono ?_; rintro e w5 ⟨hf5, ⟨h6, rfl, ht5⟩ | ⟨h6, rfl⟩⟩)
      · go_end0
        rw [← HR2.out]
        exact ⟨(HF1.out.trans hf4).trans hf5, .inl ⟨h6, rfl, ht5⟩⟩
      · simp only [bodyPost]
        refine ⟨trivial, ?_⟩
        rw [← HR2.out]
        exact ⟨(HF1.out.trans hf4).trans hf5, .inr ⟨h6, rfl⟩⟩
    · go_wp2_with (go_at_call 52; refine (put_no gw B wx.heap.size 1 L L2 [⟨#[10]⟩] _ (HT1.out.alloc _) (Blk.new wx _ _) rfl (by omega) (by decide) (by simp) (Nat.le_trans hB1 (size_al _ _)) HL2.out h8).mono ?_; rintro e w3 ⟨rfl, hf3⟩)
      simp only [bodyPost]
      refine ⟨trivial, ?_⟩
      rw [← HR2.out]
      exact ⟨(HF1.out.alloc _).trans hf3, .inr ⟨by rw [List.length_append]; omega, rfl⟩⟩
end Go.Proofs.YtolbhhokpelchaaDoor
