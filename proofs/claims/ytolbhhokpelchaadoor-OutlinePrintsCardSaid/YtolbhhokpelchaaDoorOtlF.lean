/- The reader's place in memory, and the contract of its next line. -/
import Derived.Test.YtolbhhokpelchaaDoorOtlE
import Derived.Laws.Pointers
namespace Go.Proofs.YtolbhhokpelchaaDoor
open Go.RowKit

theorem idx_none (c : UInt8) : ∀ (s : Bs), (∀ x ∈ s, x ≠ c) → Lib.indexByte s c = -1
  | [], _ => rfl
  | x :: s, h => by
    have h1 : (x == c) = false := beq_eq_false_iff_ne.2 (h x (by simp))
    have ih := idx_none c s (fun y hy => h y (List.mem_cons_of_mem _ hy))
    simp [Lib.indexByte, h1, ih]
theorem idx_at (c : UInt8) : ∀ (a b : Bs), (∀ x ∈ a, x ≠ c) → Lib.indexByte (a ++ c :: b) c = (a.length : Int)
  | [], b, _ => by simp [Lib.indexByte]
  | x :: a, b, h => by
    have h1 : (x == c) = false := beq_eq_false_iff_ne.2 (h x (by simp))
    have ih := idx_at c a b (fun y hy => h y (List.mem_cons_of_mem _ hy))
    have h3 : ((a.length : Int) == -1) = false := by rw [beq_eq_false_iff_ne]; omega
    simp [Lib.indexByte, h1, ih]
theorem cut1_none (c : UInt8) (s : Bs) (h : ∀ x ∈ s, x ≠ c) : Lib.cut s [c] = (s, [], false) := by
  unfold Lib.cut
  rw [Lib.index_one, idx_none c s h]
  rfl
theorem cut1_at (c : UInt8) (a b : Bs) (h : ∀ x ∈ a, x ≠ c) : Lib.cut (a ++ c :: b) [c] = (a, b, true) := by
  unfold Lib.cut
  rw [Lib.index_one, idx_at c a b h, if_pos (by omega)]
  simp
/-- a text has a byte, or not -/
theorem split1 (c : UInt8) : ∀ (s : Bs), (∀ x ∈ s, x ≠ c) ∨ ∃ a b, s = a ++ c :: b ∧ ∀ x ∈ a, x ≠ c
  | [] => .inl (fun x hx => by cases hx)
  | x :: s => by
    by_cases hx : x = c
    · subst hx
      exact .inr ⟨[], s, rfl, (fun x hx => by cases hx)⟩
    · rcases split1 c s with h | ⟨a, b, rfl, h⟩
      · refine .inl (fun y hy => ?_)
        rcases List.mem_cons.1 hy with rfl | hy
        · exact hx
        · exact h y hy
      · refine .inr ⟨x :: a, b, rfl, (fun y hy => ?_)⟩
        rcases List.mem_cons.1 hy with rfl | hy
        · exact hx
        · exact h y hy
/-- what calls that read leave as it was: all but the place's own block -/
structure FrP (pb : Nat) (w w' : World) : Prop where
  os : w'.os = w.os
  tape : w'.tape = w.tape
  output : w'.output = w.output
  size : w.heap.size ≤ w'.heap.size
  blk : ∀ k, k < w.heap.size → k ≠ pb → w'.heap[k]? = w.heap[k]?
theorem FrP.refl (pb : Nat) (w : World) : FrP pb w w := ⟨rfl, rfl, rfl, Nat.le_refl _, fun _ _ _ => rfl⟩
theorem FrP.trans {pb : Nat} {w w1 w2 : World} (h : FrP pb w w1) (k : FrP pb w1 w2) : FrP pb w w2 :=
  ⟨k.os.trans h.os, k.tape.trans h.tape, k.output.trans h.output, Nat.le_trans h.size k.size, fun i hi hn => (k.blk i (Nat.lt_of_lt_of_le hi h.size) hn).trans (h.blk i hi hn)⟩
theorem FrP.of {pb : Nat} {w w1 : World} (h : Below w.heap.size w w1) : FrP pb w w1 := ⟨h.os, h.tape, h.output, h.size, fun k hk _ => h.block k hk⟩
theorem FrP.set {pb : Nat} {w w1 : World} (h : FrP pb w w1) (i : Nat) (u : Value) : FrP pb w (w1.setCell ⟨pb, i, none⟩ u) :=
  ⟨h.os, h.tape, h.output, by simpa [World.setCell] using h.size, fun k hk hne => (Below.heap_setCell w1 ⟨pb, i, none⟩ u k hne).trans (h.blk k hk hne)⟩
theorem FrP.setNew {pb g : Nat} {w w1 : World} (h : FrP pb w w1) (hg : w.heap.size ≤ g) (i : Nat) (u : Value) : FrP pb w (w1.setCell ⟨g, i, none⟩ u) :=
  ⟨h.os, h.tape, h.output, by simpa [World.setCell] using h.size, fun k hk hne => (Below.heap_setCell w1 ⟨g, i, none⟩ u k (by show k ≠ g; omega)).trans (h.blk k hk hne)⟩
theorem FrP.alloc {pb : Nat} {w w1 : World} (h : FrP pb w w1) (o : Obj) : FrP pb w (w1.alloc o) := h.trans (FrP.of ((Below.refl _ _).alloc (Nat.le_refl _) o))
theorem FrP.below {pb B : Nat} {w w1 : World} (h : FrP pb w w1) (hB : B ≤ w.heap.size) (hp : B ≤ pb) : Below B w w1 := ⟨h.os, h.tape, h.output, h.size, fun k hk => h.blk k (by omega) (by omega)⟩
theorem Blk.fr {pb g : Nat} {w w1 : World} {t : TypeId} {cs : Array Value} (h : Blk w g t cs) (hf : FrP pb w w1) (hne : g ≠ pb) : Blk w1 g t cs := (hf.blk g h.lt hne).trans h
theorem MaxC.fr {pb : Nat} {w w1 : World} (h : MaxC w) (hf : FrP pb w w1) (hne : 0 ≠ pb) : MaxC w1 := by
  have hlt := h.lt2
  obtain ⟨m, h⟩ := h
  exact ⟨m, by rw [← h]; unfold World.cell?; rw [hf.blk 0 hlt hne]⟩
theorem fr_set7 {pb g : Nat} {w w1 : World} (h : FrP pb w w1) (hg : w.heap.size ≤ g) (x0 x1 x2 x3 x4 x5 x6 : Value) : FrP pb w (((((((w1.setCell ⟨g, 0, none⟩ x0).setCell ⟨g, 1, none⟩ x1).setCell ⟨g, 2, none⟩ x2).setCell ⟨g, 3, none⟩ x3).setCell ⟨g, 4, none⟩ x4).setCell ⟨g, 5, none⟩ x5).setCell ⟨g, 6, none⟩ x6) :=
  ((((((h.setNew hg 0 x0).setNew hg 1 x1).setNew hg 2 x2).setNew hg 3 x3).setNew hg 4 x4).setNew hg 5 x5).setNew hg 6 x6
theorem setO7 {g k : Nat} {w : World} {t : TypeId} {cs : Array Value} (h : Blk w k t cs) (hne : k ≠ g) (x0 x1 x2 x3 x4 x5 x6 : Value) : Blk (((((((w.setCell ⟨g, 0, none⟩ x0).setCell ⟨g, 1, none⟩ x1).setCell ⟨g, 2, none⟩ x2).setCell ⟨g, 3, none⟩ x3).setCell ⟨g, 4, none⟩ x4).setCell ⟨g, 5, none⟩ x5).setCell ⟨g, 6, none⟩ x6) k t cs :=
  ((((((h.setO ⟨g, 0, none⟩ x0 hne).setO ⟨g, 1, none⟩ x1 hne).setO ⟨g, 2, none⟩ x2 hne).setO ⟨g, 3, none⟩ x3 hne).setO ⟨g, 4, none⟩ x4 hne).setO ⟨g, 5, none⟩ x5 hne).setO ⟨g, 6, none⟩ x6 hne
/-- the place: what is behind, and the line -/
abbrev PlB (w : World) (pb : Nat) (t : ByteArray) (n : Nat) : Prop := Blk w pb 59 #[.string t, .int .i64 (n : Int)]
/-- what next answers, and where it leaves the place -/
def NextP (pb n : Nat) (ls : List Bs) (r : Bs) (w : World) (e : Ending) (w' : World) : Prop :=
  FrP pb w w' ∧ ∃ (t : ByteArray) (m : Nat), PlB w' pb t m ∧ t.size ≤ 100000 ∧ match nextT n ls r with
    | (k, some x, l1) => m = k ∧ e = .returned (.agg (iCells x)) ∧ linesB t.data.toList = (l1, r)
    | (k, none, _) => m = k ∧ e = .panicked [lineP]
theorem bsz (s : ByteArray) : s.data.toList.length = s.size := lenB s

set_option maxHeartbeats 6400000 in
set_option maxRecDepth 100000 in
theorem next_any (pb : Nat) (t : ByteArray) (n : Nat) (w : World) (hm : MaxC w) (hpb : 0 ≠ pb) (hp : PlB w pb t n) (ht : t.size ≤ 100000) (hn : n + (linesB t.data.toList).1.length ≤ 1000000) :
    Calls Tryd.prog 39 #[.pointer (some ⟨pb, 0, none⟩)] w (NextP pb n (linesB t.data.toList).1 (linesB t.data.toList).2 w) := by
  have hk0 := Blk.new w 80 zCells
  have hf0 : FrP pb w (w.alloc (.cells zCells 80)) := (FrP.refl _ _).alloc _
  have hp0 := hp.alloc (.cells zCells 80)
  have hne : pb ≠ w.heap.size := by have := hp.lt; omega
  have hg : w.heap.size ≤ w.heap.size := Nat.le_refl _
  obtain ⟨R, hR⟩ : ∃ R : Ending → World → Prop, R = NextP pb n (linesB t.data.toList).1 (linesB t.data.toList).2 w := ⟨_, rfl⟩
  have hRe : ∀ e w', NextP pb n (linesB t.data.toList).1 (linesB t.data.toList).2 w e w' → R e w' := fun e w' h => by rw [hR]; exact h
  rw [← hR]
  obtain ⟨ls, hls⟩ : ∃ ls, (linesB t.data.toList).1 = ls := ⟨_, rfl⟩
  obtain ⟨r, hr⟩ : ∃ r, (linesB t.data.toList).2 = r := ⟨_, rfl⟩
  have hlr : linesB t.data.toList = (ls, r) := by rw [← hls, ← hr]
  rw [hls, hr] at hRe
  rw [hls] at hn
  have HM := Lib.hid hm
  have HRE := Lib.hid hRe
  clear hR hRe hm hp hls hr
  go_enter Tryd.func39, Tryd.ntmps39
  go_upto_region 1 with fail
  generalize w.alloc (.cells zCells 80) = wx at *
  obtain ⟨g0, hg0⟩ : ∃ g, w.heap.size = g := ⟨_, rfl⟩
  have hgw : w.heap.size ≤ g0 := Nat.le_of_eq hg0
  rw [hg0] at hk0 hne ⊢
  clear hg0 hg
  go_loopg [3, 4, 5, 6] (ls.length + 1) (fun gg _ _ _ _ wr => ∃ (k : Nat) (s : ByteArray) (l1 : List Bs), gg = l1.length + 1 ∧ k + gg ≤ n + ls.length + 1 ∧ s.size ≤ 100000 ∧ PlB wr pb s k ∧ Hid (linesB s.data.toList = (l1, r)) ∧ Hid (nextT n ls r = nextT k l1 r) ∧ FrP pb w wr ∧ Blk wr g0 80 zCells)
  case atStart => exact ⟨n, t, ls, rfl, by omega, ht, hp0, Lib.hid hlr, Lib.hid rfl, hf0, hk0⟩
  case round =>
    clear hp0 hf0 hk0 hlr ht
    obtain ⟨k, s, l1, hgg, hkn, hs, hp, HL, HN, hf, hk⟩ := hrel
    obtain ⟨p0, p1⟩ := (⟨hp.cell 0, hp.cell 1⟩ : wr.cell? ⟨pb, 0, none⟩ = some (.string s) ∧ wr.cell? ⟨pb, 1, none⟩ = some (.int .i64 (k : Int)))
    cases gk with
    | zero => exact absurd hgg (by omega)
    | succ gg =>
      obtain rfl : gg = l1.length := by omega
      by_cases hs0 : s = ⟨#[]⟩
      · subst hs0
        have hl : l1 = [] ∧ r = [] := by
          have h := HL.out
          rw [show linesB (⟨#[]⟩ : ByteArray).data.toList = ([], []) from rfl] at h
          simp only [Prod.mk.injEq] at h
          exact ⟨h.1.symm, h.2.symm⟩
        obtain ⟨rfl, rfl⟩ := hl
        have HN2 : Hid (nextT n ls [] = (k + 1, some endI, [])) := Lib.hid HN.out
        clear HN HL
        have f1 := hp.frozen 1
        go_upto_region 10 with fail
        have hc1 : ((k + 1 : Nat) : Int) = (k : Int) + 1 := by omega
        have hp2 : PlB (wr.setCell ⟨pb, 1, none⟩ (.int .i64 ((k : Int) + 1))) pb ⟨#[]⟩ (k + 1) := by
          show Blk _ _ _ #[.string ⟨#[]⟩, .int .i64 ((k + 1 : Nat) : Int)]
          rw [hc1]
          exact hp.set 1 _
        have hk2 := hk.setO ⟨pb, 1, none⟩ (.int .i64 ((k : Int) + 1)) (Ne.symm hne)
        have hf2 := hf.set 1 (.int .i64 ((k : Int) + 1))
        clear hp hk hf p0 p1 f1 hc1
        generalize wr.setCell ⟨pb, 1, none⟩ (.int .i64 ((k : Int) + 1)) = w2 at *
        obtain ⟨k0, k1, k2, k3, k4, k5, k6⟩ := hk2.cells7
        obtain ⟨f0, f1, f2, f3, f4, f5, f6⟩ := hk2.frozen7
        go_wp2_with fail
        refine bodyPost_ret (v := .agg #[.int .i64 (-1), .int .i64 0, .string ⟨#[]⟩, .int .i64 0, .string ⟨#[]⟩, .slice none 0 0, .slice none 0 0]) ?_ rfl (HRE.out _ _ ⟨fr_set7 hf2 hgw _ _ _ _ _ _ _, ⟨#[]⟩, k + 1, setO7 hp2 hne _ _ _ _ _ _ _, by decide, ?_⟩)
        · exact results_cellN rfl _ _ g0 _ #[.int .i64 (-1), .int .i64 0, .string ⟨#[]⟩, .int .i64 0, .string ⟨#[]⟩, .slice none 0 0, .slice none 0 0] _ _ rfl (hk2.set7 _ _ _ _ _ _ _) Tryd.underlying80 rfl (by kernel_rfl)
        · rw [HN2.out]
          exact ⟨rfl, rfl, rfl⟩
      · have d0 : s.toList.isEmpty = false := by
          rw [ByteArray.toList_eq]
          have : s.data.toList ≠ [] := fun h => hs0 (bytes_ext h)
          simpa using this
        have hc1 : ((k + 1 : Nat) : Int) = (k : Int) + 1 := by omega
        have hcu := fun W (hW : Below wr.heap.size wr W) => oCut_any s ⟨#[10]⟩ W ((HM.out.fr hf hpb).call hW) (by omega)
        rw [show (⟨#[10]⟩ : ByteArray).data.toList = [10] from rfl] at hcu
        rcases split1 10 s.data.toList with h10 | ⟨a, b, hab, h10⟩
        · have hl : l1 = [] ∧ r = s.data.toList := by
            have h := HL.out
            rw [linesB_plain _ h10] at h
            simp only [Prod.mk.injEq] at h
            exact ⟨h.1.symm, h.2.symm⟩
          obtain ⟨rfl, rfl⟩ := hl
          have hsl : s.data.toList ≠ [] := fun h => hs0 (bytes_ext h)
          have HN2 : Hid (nextT n ls s.data.toList = (k + 1, none, [])) := Lib.hid (by rw [HN.out]; simp [nextT, hsl])
          rw [cut1_none 10 _ h10] at hcu
          simp only [bA_of] at hcu
          have hnil : bytesA [] = ⟨#[]⟩ := rfl
          rw [hnil] at hcu
          have HCU := Lib.hid hcu
          have HPC := Lib.hid (fun W (hW : Below wr.heap.size wr W) => (⟨(hp.call hW).cell 0, (hp.call hW).cell 1, (hp.call hW).frozen 0, (hp.call hW).frozen 1⟩ : W.cell? ⟨pb, 0, none⟩ = some (.string s) ∧ W.cell? ⟨pb, 1, none⟩ = some (.int .i64 (k : Int)) ∧ W.frozen? ⟨pb, 0, none⟩ = false ∧ W.frozen? ⟨pb, 1, none⟩ = false))
          clear hcu HN HL h10 hsl p1 hs0
          go_upto_region 5 with (go_at_call 61; refine (HCU.out _ (Below.refl _ _)).mono ?_; rintro e w3 ⟨rfl, hb3⟩; obtain ⟨q0, q1, q2, q3⟩ := HPC.out _ hb3)
          have hp2 : PlB ((w3.setCell ⟨pb, 0, none⟩ (.string ⟨#[]⟩)).setCell ⟨pb, 1, none⟩ (.int .i64 ((k : Int) + 1))) pb ⟨#[]⟩ (k + 1) := by
            show Blk _ _ _ #[.string ⟨#[]⟩, .int .i64 ((k + 1 : Nat) : Int)]
            rw [hc1]
            exact ((hp.call hb3).set 0 _).set 1 _
          have hf2 := ((hf.trans (FrP.of hb3)).set 0 (.string ⟨#[]⟩)).set 1 (.int .i64 ((k : Int) + 1))
          clear q0 q1 q2 q3 hp hk hf hb3 p0
          generalize (w3.setCell ⟨pb, 0, none⟩ (.string ⟨#[]⟩)).setCell ⟨pb, 1, none⟩ (.int .i64 ((k : Int) + 1)) = w4 at *
          go_wp2_with (go_at_call 59; refine (must_not _).mono ?_; rintro e w2 ⟨rfl, rfl⟩)
          simp only [bodyPost]
          refine ⟨trivial, HRE.out _ _ ⟨hf2, ⟨#[]⟩, k + 1, hp2, by decide, ?_⟩⟩
          rw [HN2.out]
          exact ⟨rfl, rfl⟩
        · have hlb : l1 = a :: (linesB b).1 ∧ r = (linesB b).2 := by
            have h := HL.out
            rw [hab, linesB_cut a b h10] at h
            simp only [Prod.mk.injEq] at h
            exact ⟨h.1.symm, h.2.symm⟩
          obtain ⟨rfl, rfl⟩ := hlb
          rw [hab, cut1_at 10 a b h10] at hcu
          have hsz : a.length + b.length + 1 = s.size := by rw [← lenB, hab]; simp; omega
          have hbs : (bytesA b).size ≤ 100000 := by rw [bA_size]; omega
          have has : (bytesA a).size ≤ 100000 := by rw [bA_size]; omega
          have hbl : linesB (bytesA b).data.toList = ((linesB b).1, (linesB b).2) := rfl
          have htl := fun W => Tryd.strings_TrimLeft_one (bytesA a) 32 (by decide) W
          rw [show (bytesA a).data.toList = a from rfl, show (⟨(Lib.trimLeftB a (32 : UInt8)).toArray⟩ : ByteArray) = bytesA (saidT a) from rfl] at htl
          have hsl : (saidT a).length ≤ a.length := (List.dropWhile_suffix _).length_le
          have hsds : (bytesA (saidT a)).size ≤ 100000 := by rw [bA_size]; omega
          have hsub : ((bytesA a).size : Int) - ((bytesA (saidT a)).size : Int) = ((a.length - (saidT a).length : Nat) : Int) := by rw [bA_size, bA_size]; omega
          have hri := fun W (hW : FrP pb w W) => readItem_any (bytesA (saidT a)) (a.length - (saidT a).length) W (HM.out.fr hW hpb) hsds (by omega)
          rw [show (bytesA (saidT a)).data.toList = saidT a from rfl] at hri
          have hnx := HN.out
          simp only [nextT] at hnx
          have htk : tokR a = (match saidT a with | [] => none | c :: s => if c = 35 then none else some (itemI (c :: s) (a.length - (c :: s).length))) := rfl
          have hhd : (saidT a = [] ∧ bytesA (saidT a) = ⟨#[]⟩ ∧ tokR a = none) ∨ (∃ h0 : 0 < (bytesA (saidT a)).size, (bytesA (saidT a)).toList.isEmpty = false ∧ ((((bytesA (saidT a))[0]'h0).toNat = 35 ∧ tokR a = none) ∨ (((bytesA (saidT a))[0]'h0).toNat ≠ 35 ∧ tokR a = some (itemI (saidT a) (a.length - (saidT a).length))))) := by
            rw [htk]
            cases hsd : saidT a with
            | nil => exact .inl ⟨rfl, rfl, rfl⟩
            | cons c s' =>
              refine .inr ⟨by rw [bA_size]; simp, by rw [ByteArray.toList_eq]; rfl, ?_⟩
              have e0 : (bytesA (c :: s'))[0]'(by rw [bA_size]; simp) = c := rfl
              rw [e0]
              by_cases h35 : c = 35
              · subst h35
                exact .inl ⟨rfl, rfl⟩
              · exact .inr ⟨fun h => h35 (UInt8.toNat_inj.1 h), by simp only [if_neg h35]⟩
          generalize hA : bytesA a = A at *
          generalize hBe : bytesA b = Bb at *
          generalize hS : bytesA (saidT a) = S at *
          generalize a.length - (saidT a).length = blanks at *
          have HCU := Lib.hid hcu
          have HTL := Lib.hid htl
          have HRI := Lib.hid hri
          have HNX := Lib.hid hnx
          have HBL := Lib.hid hbl
          have HPC := Lib.hid (fun W (hW : Below wr.heap.size wr W) => (⟨(hp.call hW).cell 0, (hp.call hW).cell 1, (hp.call hW).frozen 0, (hp.call hW).frozen 1⟩ : W.cell? ⟨pb, 0, none⟩ = some (.string s) ∧ W.cell? ⟨pb, 1, none⟩ = some (.int .i64 (k : Int)) ∧ W.frozen? ⟨pb, 0, none⟩ = false ∧ W.frozen? ⟨pb, 1, none⟩ = false))
          clear hcu htl hri hnx hbl HN HL h10 hab p1 hs0 hsz htk hsl hA hBe hS
          go_upto_region 5 with (go_at_call 61; refine (HCU.out _ (Below.refl _ _)).mono ?_; rintro e w3 ⟨rfl, hb3⟩; obtain ⟨q0, q1, q2, q3⟩ := HPC.out _ hb3)
          have hp2 : PlB ((w3.setCell ⟨pb, 0, none⟩ (.string Bb)).setCell ⟨pb, 1, none⟩ (.int .i64 ((k : Int) + 1))) pb Bb (k + 1) := by
            show Blk _ _ _ #[.string Bb, .int .i64 ((k + 1 : Nat) : Int)]
            rw [hc1]
            exact ((hp.call hb3).set 0 _).set 1 _
          have hf2 := ((hf.trans (FrP.of hb3)).set 0 (.string Bb)).set 1 (.int .i64 ((k : Int) + 1))
          have hk2 := ((hk.call hb3).setO ⟨pb, 0, none⟩ (.string Bb) (Ne.symm hne)).setO ⟨pb, 1, none⟩ (.int .i64 ((k : Int) + 1)) (Ne.symm hne)
          clear q0 q1 q2 q3 hp hk hf hb3 p0 HPC HCU
          generalize (w3.setCell ⟨pb, 0, none⟩ (.string Bb)).setCell ⟨pb, 1, none⟩ (.int .i64 ((k : Int) + 1)) = w4 at *
          rw [List.length_cons] at hkn
          rcases hhd with ⟨_, rfl, htk⟩ | ⟨h0, hne0, ⟨h35, htk⟩ | ⟨h35, htk⟩⟩
          · have HNT : Hid (nextT n ls (linesB b).2 = nextT (k + 1) (linesB b).1 (linesB b).2) := Lib.hid (by rw [HNX.out, htk])
            clear htk HNX HRI
            go_wp2_with (first
              | (go_at_call 59; refine (must_ok _).mono ?_; rintro e w2 ⟨rfl, rfl⟩)
              | (go_at_call 62; refine (HTL.out _).mono ?_; rintro e w5 ⟨rfl, rfl⟩))
            go_roundg ((linesB b).1.length + 1)
            case measure => simp only [List.length_cons]; omega
            case rel => exact ⟨k + 1, Bb, (linesB b).1, rfl, by omega, hbs, hp2, HBL, HNT, hf2, hk2⟩
          · have HNT : Hid (nextT n ls (linesB b).2 = nextT (k + 1) (linesB b).1 (linesB b).2) := Lib.hid (by rw [HNX.out, htk])
            have d1 : ((S[0].toNat : Int) != 35) = false := by rw [bne_eq_false_iff_eq]; omega
            have d2 : ((S[0].toNat : Int) == 35) = true := by rw [beq_iff_eq]; omega
            clear htk HNX HRI h35
            go_wp2_with (first
              | (go_at_call 59; refine (must_ok _).mono ?_; rintro e w2 ⟨rfl, rfl⟩)
              | (go_at_call 62; refine (HTL.out _).mono ?_; rintro e w5 ⟨rfl, rfl⟩))
            go_roundg ((linesB b).1.length + 1)
            case measure => simp only [List.length_cons]; omega
            case rel => exact ⟨k + 1, Bb, (linesB b).1, rfl, by omega, hbs, hp2, HBL, HNT, hf2, hk2⟩
          · have d1 : ((S[0].toNat : Int) != 35) = true := by rw [bne_iff_ne]; omega
            have d2 : ((S[0].toNat : Int) == 35) = false := by rw [beq_eq_false_iff_ne]; omega
            rw [htk] at HNX
            obtain ⟨Q, hQ⟩ : ∃ Q, itemI (saidT a) blanks = Q := ⟨_, rfl⟩
            rw [hQ] at HRI HNX
            have HRI2 := Lib.hid (HRI.out w4 hf2)
            clear htk h35 HRI hQ
            cases Q with
            | none =>
              go_wp2_with (first
                | (go_at_call 59; refine (must_ok _).mono ?_; rintro e w2 ⟨rfl, rfl⟩)
                | (go_at_call 62; refine (HTL.out _).mono ?_; rintro e w5 ⟨rfl, rfl⟩)
                | (go_at_call 63; refine HRI2.out.mono ?_; rintro e w6 ⟨hb6, rfl⟩))
              simp only [bodyPost]
              refine ⟨trivial, HRE.out _ _ ⟨hf2.trans (FrP.of hb6), Bb, k + 1, hp2.call hb6, hbs, ?_⟩⟩
              rw [HNX.out]
              exact ⟨rfl, rfl⟩
            | some x =>
              have HK := Lib.hid (fun W (hW : Below w4.heap.size w4 W) => (⟨(hk2.call hW).cells7, (hk2.call hW).frozen7⟩ : (W.cell? ⟨g0, 0, none⟩ = some (.int .i64 0) ∧ W.cell? ⟨g0, 1, none⟩ = some (.int .i64 0) ∧ W.cell? ⟨g0, 2, none⟩ = some (.string ⟨#[]⟩) ∧ W.cell? ⟨g0, 3, none⟩ = some (.int .i64 0) ∧ W.cell? ⟨g0, 4, none⟩ = some (.string ⟨#[]⟩) ∧ W.cell? ⟨g0, 5, none⟩ = some (.slice none 0 0) ∧ W.cell? ⟨g0, 6, none⟩ = some (.slice none 0 0)) ∧ _))
              have hk2' := Lib.hid hk2
              clear hk2
              go_wp2_with (first
                | (go_at_call 59; refine (must_ok _).mono ?_; rintro e w2 ⟨rfl, rfl⟩)
                | (go_at_call 62; refine (HTL.out _).mono ?_; rintro e w5 ⟨rfl, rfl⟩)
                | (go_at_call 63; refine HRI2.out.mono ?_; rintro e w6 ⟨hb6, rfl⟩; obtain ⟨⟨k0, k1, k2, k3, k4, k5, k6⟩, ⟨f0, f1, f2, f3, f4, f5, f6⟩⟩ := HK.out _ hb6))
              refine bodyPost_ret (v := .agg (iCells x)) ?_ rfl (HRE.out _ _ ⟨fr_set7 (hf2.trans (FrP.of hb6)) hgw _ _ _ _ _ _ _, Bb, k + 1, setO7 (hp2.call hb6) hne _ _ _ _ _ _ _, hbs, ?_⟩)
              · exact results_cellN rfl _ _ g0 _ (iCells x) _ _ rfl ((hk2'.out.call hb6).set7 _ _ _ _ _ _ _) Tryd.underlying80 rfl (by kernel_rfl)
              · rw [HNX.out]
                exact ⟨rfl, rfl, HBL.out⟩
end Go.Proofs.YtolbhhokpelchaaDoor
