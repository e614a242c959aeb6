/- The contract of outline.readItems. -/
import Derived.Test.YtolbhhokpelchaaDoorOtlS
import Derived.Test.YtolbhhokpelchaaDoorSlcS
import Derived.Deep.RegionHeld3
import Derived.Deep.RegionWith
import Derived.RegionDies
import Derived.BigRegion
import Derived.Deep.DeepCutAuto
namespace Go.Proofs.YtolbhhokpelchaaDoor
open Go.RowKit

theorem linesB_lens (s : Bs) : (∀ l ∈ (linesB s).1, l.length ≤ s.length) ∧ (linesB s).2.length ≤ s.length := by
  obtain ⟨t, rfl⟩ : ∃ t : Bs, s = t.reverse := ⟨s.reverse, by simp⟩
  induction t with
  | nil => exact ⟨(fun l hl => by cases hl), Nat.le_refl _⟩
  | cons c s ih =>
    obtain ⟨h1, h2⟩ := ih
    rw [List.reverse_cons, linesB_snoc, List.length_append, List.length_singleton]
    unfold lnStep
    by_cases hc : c = 10
    · rw [if_pos hc]
      refine ⟨fun l hl => ?_, Nat.zero_le _⟩
      rw [List.mem_append, List.mem_singleton] at hl
      rcases hl with hl | rfl
      · have := h1 l hl; omega
      · omega
    · rw [if_neg hc]
      refine ⟨fun l hl => by have := h1 l hl; omega, ?_⟩
      rw [List.length_append, List.length_singleton]
      omega
/-- what is known of an item that was read -/
def ItOk (x : It) : Prop := -1 ≤ x.deep ∧ x.deep ≤ 100000 ∧ 0 ≤ x.kind ∧ x.kind ≤ 3 ∧ x.name.size ≤ 64 ∧ x.node.names = [] ∧ x.node.items = [] ∧ 0 ≤ x.node.kind ∧ x.node.kind ≤ 3 ∧ x.node.word.size ≤ 200
theorem endI_ok : ItOk endI := ⟨by decide, by decide, by decide, by decide, by decide, rfl, rfl, by decide, by decide, by decide⟩
theorem finI_ok {d k : Int} {nm : ByteArray} {s : Bs} {x : It} (h : finI d k nm s = some x) (hd : -1 ≤ d ∧ d ≤ 100000) (hk : 0 ≤ k ∧ k ≤ 3) (hn : nm.size ≤ 64) : ItOk x := by
  unfold finI at h
  split at h
  · split at h
    · cases h
      exact ⟨hd.1, hd.2, hk.1, hk.2, hn, rfl, rfl, by show (0 : Int) ≤ 0; decide, by show (0 : Int) ≤ 3; decide, by show (0 : Nat) ≤ 200; omega⟩
    · cases h
  · cases hf : flatI s with
    | none => rw [hf] at h; cases h
    | some q =>
      rw [hf] at h
      cases h
      obtain ⟨h1, h2, h3, h4, h5, h6⟩ := flatI_is hf
      refine ⟨hd.1, hd.2, hk.1, hk.2, hn, h1, h2, by show 0 ≤ q.kind; omega, h4, ?_⟩
      show q.word.size ≤ 200
      by_cases h1 : q.kind = 1
      · have := h5 h1
        simp only [owC, Bool.and_eq_true, decide_eq_true_eq] at this
        rw [lenB] at this
        exact this.1
      · rw [h6 h1]
        show (0 : Nat) ≤ 200
        omega
theorem itemI_ok {s : Bs} {n : Nat} {x : It} (h : itemI s n = some x) (hn : n ≤ 100000) : ItOk x ∧ 0 ≤ x.deep := by
  have hd : ∀ {d k : Int} {nm : ByteArray} {s : Bs}, finI d k nm s = some x → x.deep = d := fun {d k nm s} h => by
    unfold finI at h
    split at h
    · split at h
      · cases h; rfl
      · cases h
    · cases hf : flatI s with
      | none => rw [hf] at h; cases h
      | some q => rw [hf] at h; cases h; rfl
  unfold itemI at h
  split at h
  · split at h
    · exact ⟨finI_ok h (by omega) (by omega) (by decide), by rw [hd h]; omega⟩
    · split at h
      · rename_i h2
        rw [Bool.and_eq_true] at h2
        have := bwC_size (s := bytesA (Lib.cut s [58]).1) h2.2
        exact ⟨finI_ok h (by omega) (by omega) this.2, by rw [hd h]; omega⟩
      · cases h
  · cases h
theorem nextT_ok : ∀ (ls : List Bs) (n : Nat) (r : Bs) (m : Nat) (b : It) (l1 : List Bs), (∀ l ∈ ls, l.length ≤ 100000) → nextT n ls r = (m, some b, l1) → ItOk b ∧ (0 ≤ b.deep ∨ b = endI)
  | [], n, r, m, b, l1, _, h => by
    simp only [nextT, Prod.mk.injEq] at h
    obtain ⟨_, h2, _⟩ := h
    split at h2
    · cases h2; exact ⟨endI_ok, .inr rfl⟩
    · cases h2
  | l :: ls, n, r, m, b, l1, hl, h => by
    simp only [nextT] at h
    split at h
    · exact nextT_ok ls (n + 1) r m b l1 (fun x hx => hl x (List.mem_cons_of_mem _ hx)) h
    · rename_i x hx
      simp only [Prod.mk.injEq] at h
      obtain ⟨_, rfl, _⟩ := h
      unfold tokR at hx
      split at hx
      · cases hx
      · split at hx
        · cases hx
        · simp only [Option.some.injEq] at hx
          have := hl l (by simp)
          have h2 := itemI_ok hx (by omega)
          exact ⟨h2.1, .inl h2.2⟩

abbrev nextF (pb : Nat) : Value := .func (.func 39) #[.pointer (some ⟨pb, 0, none⟩)] #[]
/-- what readItems answers, and where it leaves the place -/
def ItemsP (pb : Nat) (x : It) (n : Nat) (ls : List Bs) (r : Bs) (w : World) (e : Ending) (w' : World) : Prop :=
  FrP pb w w' ∧ ∃ (t : ByteArray) (m : Nat), PlB w' pb t m ∧ t.size ≤ 100000 ∧ match itemsC (.mk x.kind ⟨#[]⟩ [] []) x.deep x n ls r with
    | .inl k => m = k ∧ e = .panicked [lineP]
    | .inr (y, b, k, l2) => m = k ∧ linesB t.data.toList = (l2, r) ∧ ItOk b ∧ ∃ q : NdAt, q.n = y ∧ q.inn (fun b => w.heap.size ≤ b ∧ b < w'.heap.size) w' ∧ e = .returned (.tuple #[.agg (nCells q), .agg (iCells b)])
/-- the contract, for so many lines at most -/
def ItemsAll (pb M : Nat) : Prop := ∀ (x : It) (t : ByteArray) (n : Nat) (w : World), ItOk x → 0 ≤ x.deep → (linesB t.data.toList).1.length ≤ M → MaxC w → PlB w pb t n → t.size ≤ 100000 → n + (linesB t.data.toList).1.length ≤ 1000000 →
  Calls Tryd.prog 60 #[.agg (iCells x), nextF pb] w (ItemsP pb x n (linesB t.data.toList).1 (linesB t.data.toList).2 w)

set_option maxHeartbeats 12800000 in
set_option maxRecDepth 100000 in
theorem items_step (pb M : Nat) (hpb : 0 ≠ pb) (IH : ∀ M', M' < M → ItemsAll pb M') : ItemsAll pb M := by
  intro x t n w hx hx0 hM hm hp ht hn
  have h1 := Blk.new w 80 (iCells x)
  have hpl := hp.lt
  obtain ⟨R, hR⟩ : ∃ R : Ending → World → Prop, R = ItemsP pb x n (linesB t.data.toList).1 (linesB t.data.toList).2 w := ⟨_, rfl⟩
  have hRe : ∀ e w', ItemsP pb x n (linesB t.data.toList).1 (linesB t.data.toList).2 w e w' → R e w' := fun e w' h => by rw [hR]; exact h
  rw [← hR]
  obtain ⟨ls, hls⟩ : ∃ ls, (linesB t.data.toList).1 = ls := ⟨_, rfl⟩
  obtain ⟨r, hr⟩ : ∃ r, (linesB t.data.toList).2 = r := ⟨_, rfl⟩
  have hlr : linesB t.data.toList = (ls, r) := by rw [← hls, ← hr]
  rw [hls, hr] at hRe
  rw [hls] at hn hM
  have HM := Lib.hid hm
  have HRE := Lib.hid hRe
  have HX := Lib.hid hx
  have HP := Lib.hid hp
  have HIH := Lib.hid IH
  have HLR := Lib.hid hlr
  clear hR hRe hm hp hls hr hx IH hlr h1
  obtain ⟨xd, xk, xn, xq⟩ := x
  simp only [iCells] at *
  go_enter Tryd.func60, Tryd.ntmps60
  go_upto_region 1 with fail
  obtain ⟨ci, hci⟩ : ∃ C : Array Value, C = #[.int .i64 xd, .int .i64 xk, .string xn, .int .i64 xq.kind, .string xq.word, .slice none 0 0, .slice none 0 0] := ⟨_, rfl⟩
  obtain ⟨cn, hcn⟩ : ∃ C : Array Value, C = #[.int .i64 0, .string ⟨#[]⟩, .slice none 0 0, .slice none 0 0] := ⟨_, rfl⟩
  obtain ⟨cz, hcz⟩ : ∃ C : Array Value, C = zCells := ⟨_, rfl⟩
  obtain ⟨ck, hck⟩ : ∃ C : Array Value, C = #[.int .i64 xk, .string ⟨#[]⟩, .slice none 0 0, .slice none 0 0] := ⟨_, rfl⟩
  have hA : Blk ((((w.alloc (.cells ci 80)).alloc (.cells cn 25)).alloc (.cells cz 80)).alloc (.cells ck 25)).drew w.heap.size 80 ci := (((Blk.new w _ _).alloc _).alloc _).alloc _
  have hB : Blk ((((w.alloc (.cells ci 80)).alloc (.cells cn 25)).alloc (.cells cz 80)).alloc (.cells ck 25)).drew (w.heap.size + 1) 25 cn := by
    have := ((Blk.new (w.alloc (.cells ci 80)) 25 cn).alloc (.cells cz 80)).alloc (.cells ck 25)
    rw [show (w.alloc (.cells ci 80)).heap.size = w.heap.size + 1 by simp] at this
    exact this
  have hC : Blk ((((w.alloc (.cells ci 80)).alloc (.cells cn 25)).alloc (.cells cz 80)).alloc (.cells ck 25)).drew (w.heap.size + 1 + 1) 80 cz := by
    have := (Blk.new ((w.alloc (.cells ci 80)).alloc (.cells cn 25)) 80 cz).alloc (.cells ck 25)
    rw [show ((w.alloc (.cells ci 80)).alloc (.cells cn 25)).heap.size = w.heap.size + 1 + 1 by simp] at this
    exact this
  have hD : Blk ((((w.alloc (.cells ci 80)).alloc (.cells cn 25)).alloc (.cells cz 80)).alloc (.cells ck 25)).drew (w.heap.size + 1 + 1 + 1) 25 ck := by
    have := Blk.new (((w.alloc (.cells ci 80)).alloc (.cells cn 25)).alloc (.cells cz 80)) 25 ck
    rw [show (((w.alloc (.cells ci 80)).alloc (.cells cn 25)).alloc (.cells cz 80)).heap.size = w.heap.size + 1 + 1 + 1 by simp] at this
    exact this
  have hF : Below w.heap.size w ((((w.alloc (.cells ci 80)).alloc (.cells cn 25)).alloc (.cells cz 80)).alloc (.cells ck 25)).drew := (below_al (below_al (below_al (below_al (Below.refl _ _))))).drew
  have hZ : ((((w.alloc (.cells ci 80)).alloc (.cells cn 25)).alloc (.cells cz 80)).alloc (.cells ck 25)).drew.heap.size = w.heap.size + 1 + 1 + 1 + 1 := by
    show ((((w.alloc (.cells ci 80)).alloc (.cells cn 25)).alloc (.cells cz 80)).alloc (.cells ck 25)).heap.size = _
    simp
  subst hci hcn hcz hck
  have HA := Lib.hid hA
  have HB := Lib.hid hB
  have HC := Lib.hid hC
  have HD := Lib.hid hD
  have HF := Lib.hid hF
  have HZ := Lib.hid hZ
  clear hA hB hC hD hF hZ
  go_region
  generalize ((((w.alloc (.cells #[.int .i64 xd, .int .i64 xk, .string xn, .int .i64 xq.kind, .string xq.word, .slice none 0 0, .slice none 0 0] 80)).alloc (.cells #[.int .i64 0, .string ⟨#[]⟩, .slice none 0 0, .slice none 0 0] 25)).alloc (.cells zCells 80)).alloc (.cells #[.int .i64 xk, .string ⟨#[]⟩, .slice none 0 0, .slice none 0 0] 25)).drew = wa at *
  obtain ⟨g2, hg2⟩ : ∃ g, w.heap.size = g := ⟨_, rfl⟩
  have HW := Lib.hid hg2
  rw [hg2] at HA HB HC HD HZ hpl ⊢
  clear hg2
  have h6 : g2 < g2 + 1 + 1 + 1 := by omega
  have h65 : g2 + 1 + 1 < g2 + 1 + 1 + 1 := by omega
  have h54 : g2 + 1 < g2 + 1 + 1 := by omega
  have h42 : g2 < g2 + 1 := by omega
  have hB6 : g2 + 1 + 1 + 1 < g2 + 1 + 1 + 1 + 1 := by omega
  generalize g2 + 1 + 1 + 1 + 1 = Bs0 at *
  generalize g2 + 1 + 1 + 1 = g6 at *
  generalize g2 + 1 + 1 = g5 at *
  generalize g2 + 1 = g4 at *
  have hNA : NodeAt wa Bs0 g6 xk [] [] none 0 none 0 := ⟨HD.out, OwnS.nil _ _ _, OwnN.nil _ _, (fun s hs => by cases hs), (fun q hq => by cases hq)⟩
  have hp1 : PlB wa pb t n := HP.out.call HF.out
  have hf1 : FrP pb w wa := FrP.of HF.out
  have hpB : pb < Bs0 := by omega
  obtain ⟨x0, hx0e⟩ : ∃ x : It, x = ⟨xd, xk, xn, xq⟩ := ⟨_, rfl⟩
  have hA0 : Blk wa g2 80 (iCells x0) := by rw [hx0e]; exact HA.out
  have hX0 : ItOk x0 := by rw [hx0e]; exact HX.out
  have hd0 : x0.deep = xd := by rw [hx0e]
  have HKW := Lib.hid (show (Lit.int .i64 xk).wf = true from by
    obtain ⟨_, _, h3, h4, _⟩ := HX.out
    have h3' : 0 ≤ xk := h3
    have h4' : xk ≤ 3 := h4
    exact WalkArith.wf_i64 (by omega))
  rw [← hx0e] at HRE
  obtain ⟨RES, hRES⟩ : ∃ RES, itemsC (.mk xk ⟨#[]⟩ [] []) xd x0 n ls r = RES := ⟨_, rfl⟩
  have hRE2 : ∀ e w', FrP pb w w' → ∀ (t : ByteArray) (m : Nat), PlB w' pb t m → t.size ≤ 100000 → (match RES with
      | .inl k => m = k ∧ e = .panicked [lineP]
      | .inr (y, b, k, l2) => m = k ∧ linesB t.data.toList = (l2, r) ∧ ItOk b ∧ ∃ q : NdAt, q.n = y ∧ q.inn (fun b => w.heap.size ≤ b ∧ b < w'.heap.size) w' ∧ e = .returned (.tuple #[.agg (nCells q), .agg (iCells b)])) → R e w' := fun e w' h1 t m h2 h3 h4 => by
    refine HRE.out e w' ⟨h1, t, m, h2, h3, ?_⟩
    rw [hd0, show x0.kind = xk by rw [hx0e], hRES]
    exact h4
  have HR := Lib.hid hRE2
  have HRES0 : Hid (itemsC (.mk xk ⟨#[]⟩ [] []) xd x0 n ls r = RES) := Lib.hid hRES
  clear hRE2 HRE hRES hx0e HA HD HP HF HX
  have hb4 := HB.out
  have hb5 := HC.out
  have hzz : Bs0 ≤ wa.heap.size := Nat.le_of_eq HZ.out.symm
  go_wp2_with fail
  go_loopg [8, 9] (ls.length + 2) (fun gg _ _ wr => ∃ (x : It) (k : Nat) (s : ByteArray) (l1 : List Bs) (names : List ByteArray) (qs : List NdAt) (na : Option Addr) (nc : Nat) (ia : Option Addr) (ic : Nat),
    Hid (gg = if x.deep = xd then l1.length + 2 else 1) ∧ l1.length ≤ ls.length ∧ Hid (x.deep = xd → k + l1.length ≤ n + ls.length) ∧ s.size ≤ 100000 ∧ PlB wr pb s k ∧ Hid (linesB s.data.toList = (l1, r)) ∧ Hid (itemsC (.mk xk ⟨#[]⟩ names (qs.map (·.n))) xd x k l1 r = RES) ∧
    ItOk x ∧ Blk wr g2 80 (iCells x) ∧ NodeAt wr Bs0 g6 xk names qs na nc ia ic ∧ Blk wr g4 25 #[.int .i64 0, .string ⟨#[]⟩, .slice none 0 0, .slice none 0 0] ∧ Blk wr g5 80 zCells ∧ FrP pb w wr ∧ Bs0 ≤ wr.heap.size ∧ names.length ≤ qs.length)
  case atStart => exact ⟨x0, n, t, ls, [], [], none, 0, none, 0, Lib.hid (by rw [if_pos hd0]), Nat.le_refl _, Lib.hid (fun _ => Nat.le_refl _), ht, hp1, HLR, HRES0, hX0, hA0, hNA, hb4, hb5, hf1, hzz, Nat.le_refl _⟩
  case round =>
    clear hNA hp1 hf1 hA0 hX0 hd0 HRES0 hb4 hb5 hzz HB HC HZ ht HLR
    obtain ⟨x, k, s, l1, names, qs, na, nc, ia, ic, HGG, hl1, HKN, hs, hp, HL, HRES, hX, hA, hN, hb4, hb5, hf, hzz, hnq⟩ := hrel
    obtain ⟨X1, X2, X3, X4, X5, X6, X7, X8, X9, X10⟩ := hX
    obtain ⟨a0, a1, a2, a3, a4, a5, a6⟩ := hA.cells7
    by_cases hxd : x.deep = xd
    case neg =>
      have d1 : (x.deep == xd) = false := beq_eq_false_iff_ne.2 hxd
      have hRESv : RES = .inr (.mk xk ⟨#[]⟩ names (qs.map (·.n)), x, k, l1) := by rw [← HRES.out, itemsC_end hxd]
      have HRV := Lib.hid hRESv
      have HNN := Lib.hid (hN.node HKW.out)
      obtain ⟨n0, n1, n2, n3⟩ := hN.blk.cells4
      obtain ⟨e0, e1, e2, e3⟩ := hb4.cells4
      obtain ⟨r0, r1, r2, r3, r4, r5, r6⟩ := hb5.cells7
      have p0 := hb4.frozen 0
      have p1 := hb4.frozen 1
      have p2 := hb4.frozen 2
      have p3 := hb4.frozen 3
      obtain ⟨q0, q1, q2, q3, q4, q5, q6⟩ := hb5.frozen7
      clear hxd hRESv HRES HIH
      go_upto_region 13 with fail
      have HGW : Hid (w.heap.size ≤ g4 ∧ w.heap.size ≤ g5 ∧ w.heap.size ≤ Bs0) := Lib.hid (by have := HW.out; omega)
      have HE := Lib.hid (end_world hb4 hb5 hf hp HNN.out HGW.out.1 HGW.out.2.1 (by omega) (by omega) (by omega) (by omega) (by omega) (.int .i64 xk) (.string ⟨#[]⟩) (.slice na names.length nc) (.slice ia qs.length ic) (.int .i64 x.deep) (.int .i64 x.kind) (.string x.name) (.int .i64 x.node.kind) (.string x.node.word) (.slice none 0 0) (.slice none 0 0) _ rfl)
      clear hN hb4 hb5 hf hp hA HNN
      go_region
      obtain ⟨E1, E2, E3, E4, E5⟩ := HE.out
      generalize (((((((((((wr.setCell ⟨g4, 0, none⟩ (.int .i64 xk)).setCell ⟨g4, 1, none⟩ (.string ⟨#[]⟩)).setCell ⟨g4, 2, none⟩ (.slice na names.length nc)).setCell ⟨g4, 3, none⟩ (.slice ia qs.length ic)).setCell ⟨g5, 0, none⟩ (.int .i64 x.deep)).setCell ⟨g5, 1, none⟩ (.int .i64 x.kind)).setCell ⟨g5, 2, none⟩ (.string x.name)).setCell ⟨g5, 3, none⟩ (.int .i64 x.node.kind)).setCell ⟨g5, 4, none⟩ (.string x.node.word)).setCell ⟨g5, 5, none⟩ (.slice none 0 0)).setCell ⟨g5, 6, none⟩ (.slice none 0 0)).drew = we at *
      clear HE a0 a1 a2 a3 a4 a5 a6 n0 n1 n2 n3 e0 e1 e2 e3 r0 r1 r2 r3 r4 r5 r6 p0 p1 p2 p3 q0 q1 q2 q3 q4 q5 q6
      go_wp2_with fail
      refine bodyPost_ret (v := .tuple #[.agg #[.int .i64 xk, .string ⟨#[]⟩, .slice na names.length nc, .slice ia qs.length ic], .agg (iCells x)]) ?_ rfl (HR.out _ _ E1 s k E2 hs ?_)
      · exact results_cells2 rfl _ _ g4 _ #[.int .i64 xk, .string ⟨#[]⟩, .slice na names.length nc, .slice ia qs.length ic] _ _ rfl E3 Tryd.underlying25 rfl (by kernel_rfl) g5 _ (iCells x) _ _ rfl E4 Tryd.underlying80 rfl (by kernel_rfl)
      · rw [HRV.out]
        refine ⟨rfl, HL.out, ⟨X1, X2, X3, X4, X5, X6, X7, X8, X9, X10⟩, ⟨.mk xk ⟨#[]⟩ names (qs.map (·.n)), na, nc, ia, ic⟩, rfl, E5.mono fun b hb => ⟨Nat.le_trans HGW.out.2.2 hb.1, hb.2⟩, ?_⟩
        show Ending.returned (.tuple #[.agg #[.int .i64 xk, .string ⟨#[]⟩, .slice na names.length nc, .slice ia qs.length ic], .agg (iCells x)]) = Ending.returned (.tuple #[.agg #[.int .i64 xk, .string ⟨#[]⟩, .slice na names.length nc, .slice ia (qs.map (·.n)).length ic], .agg (iCells x)])
        rw [List.length_map]
    case pos =>
      have d1 : (x.deep == xd) = true := beq_iff_eq.2 hxd
      have hkn := HKN.out hxd
      have hres := HRES.out
      rw [itemsC_eq hx0 hxd] at hres
      have hfit : fitsI (.mk xk ⟨#[]⟩ names (qs.map (·.n))) x = (decide (x.kind = xk) && (decide (qs.length < 64) && !memB x.name names)) := by
        show (decide (x.kind = xk) && (decide ((qs.map (·.n)).length < 64) && !memB x.name names)) = _
        rw [List.length_map]
      obtain ⟨sa, sc, se, hstr⟩ := hN.names_.strs hN.sizes
      simp only [Value.slice.injEq] at se
      obtain ⟨rfl, _, rfl⟩ := se
      have hcon := contains_any na nc names x.name wr hstr
      obtain ⟨n0, n1, n2, n3⟩ := hN.blk.cells4
      rw [hfit] at hres
      clear hstr hfit HRES
      by_cases hk1 : x.kind = xk
      case neg =>
        rw [decide_eq_false hk1, Bool.false_and, if_neg (by decide)] at hres
        have HRV := Lib.hid hres
        have d2 : (x.kind == xk) = false := beq_eq_false_iff_ne.2 hk1
        clear hres hk1 hcon hN hA
        go_wp2_with (go_at_call 59; refine (must_not _).mono ?_; rintro e w2 ⟨rfl, rfl⟩)
        simp only [bodyPost]
        refine ⟨trivial, HR.out _ _ hf s k hp hs ?_⟩
        rw [← HRV.out]
        exact ⟨rfl, rfl⟩
      case pos =>
      rw [decide_eq_true hk1, Bool.true_and] at hres
      have d2 : (x.kind == xk) = true := beq_iff_eq.2 hk1
      by_cases hk2 : qs.length < 64
      case neg =>
        rw [decide_eq_false hk2, Bool.false_and, if_neg (by decide)] at hres
        have HRV := Lib.hid hres
        have d3 : decide ((qs.length : Int) < 64) = false := decide_eq_false (by omega)
        clear hres hk1 hk2 hcon hN hA
        go_wp2_with (go_at_call 59; refine (must_not _).mono ?_; rintro e w2 ⟨rfl, rfl⟩)
        simp only [bodyPost]
        refine ⟨trivial, HR.out _ _ hf s k hp hs ?_⟩
        rw [← HRV.out]
        exact ⟨rfl, rfl⟩
      case pos =>
      rw [decide_eq_true hk2, Bool.true_and] at hres
      have d3 : decide ((qs.length : Int) < 64) = true := decide_eq_true (by omega)
      cases hk3 : memB x.name names
      case true =>
        rw [hk3, Bool.not_true, if_neg (by decide)] at hres
        rw [hk3] at hcon
        have HRV := Lib.hid hres
        have HCO := Lib.hid hcon
        clear hres hk1 hk2 hk3 hcon hN hA
        go_wp2_with (first
          | (go_at_call 74; refine HCO.out.mono ?_; rintro e w2 ⟨rfl, rfl⟩)
          | (go_at_call 59; refine (must_not _).mono ?_; rintro e w2 ⟨rfl, rfl⟩))
        simp only [bodyPost]
        refine ⟨trivial, HR.out _ _ hf s k hp hs ?_⟩
        rw [← HRV.out]
        exact ⟨rfl, rfl⟩
      case false =>
      rw [hk3, Bool.not_false, if_pos rfl] at hres
      rw [hk3] at hcon
      have HCO := Lib.hid hcon
      have HRES := Lib.hid hres
      have hqs := hk2
      clear hres hk1 hk2 hk3 hcon
      go_upto_if 41 with (first
        | (go_at_call 74; refine HCO.out.mono ?_; rintro e w2 ⟨rfl, rfl⟩)
        | (go_at_call 59; refine (must_ok _).mono ?_; rintro e w2 ⟨rfl, rfl⟩))
      have hnm : x.name.size ≤ maxLen := by unfold maxLen; omega
      go_cut [] from 15 to 79 (fun wx => ∃ (names' : List ByteArray) (na' : Option Addr) (nc' : Nat), Hid (names' = if xk = 3 then names ++ [x.name] else names) ∧ names'.length ≤ qs.length + 1 ∧ NodeAt wx Bs0 g6 xk names' qs na' nc' ia ic ∧
        PlB wx pb s k ∧ Blk wx g2 80 (iCells x) ∧ Blk wx g4 25 #[.int .i64 0, .string ⟨#[]⟩, .slice none 0 0, .slice none 0 0] ∧ Blk wx g5 80 zCells ∧ FrP pb w wx ∧ Bs0 ≤ wx.heap.size)
      case first =>
        by_cases h3 : xk = 3
        · have d4 : (xk == 3) = true := beq_iff_eq.2 h3
          have HN := Lib.hid hN
          obtain ⟨i1, hj, hy0, hy1, hy2⟩ := info_parts Tryd.infoS
          have hown := hN.names_
          have hbn : Below wr.heap.size wr wr := Below.refl _ _
          have HNP := Lib.hid (fun w2 (hg : wr.grownBy w2 (Value.slice na names.length nc).ownBlock) => And.intro ((HN.out.blkN hbn hB6 hg).cells4) ((HN.out.blkN hbn hB6 hg).frozen 2))
          have H3 := Lib.hid h3
          have HOTH := Lib.hid (And.intro hp (And.intro hA (And.intro hb4 (And.intro hb5 hf))))
          clear hN hp hA hb4 hb5 hf h3 n0 n1 n2 n3
          obtain ⟨n0, n1, n2, n3⟩ := HN.out.blk.cells4
          go_wp2_with (refine wpList_pushSA wr (by rfl) (.tmp 43) (.tmp 46) 22 (by rfl) Bs0 i1 (.string ⟨#[]⟩) Tryd.underlying22 hj hy0 hy1 hy2 rfl (.slice na names.length nc) names x.name (by rfl) hown (by rfl) (by omega) hzz ?_; intro na' nc' w2 hown2 hg2 hl2; obtain ⟨⟨m0, m1, m2, m3⟩, m4⟩ := HNP.out w2 hg2)
          go_meet
          obtain ⟨hp, hA, hb4, hb5, hf⟩ := HOTH.out
          have hv : ∀ b, (Value.slice na names.length nc).ownBlock = some b → Bs0 ≤ b := fun b e => (ownS_ge HN.out.names_ e).1
          exact ⟨names ++ [x.name], na', nc', Lib.hid (by rw [if_pos H3.out]), by rw [List.length_append, List.length_singleton]; omega, HN.out.pushName hbn hB6 hown2 hg2 hl2 hnm, blk_push hp hbn hg2 hv (by omega) (by omega), blk_push hA hbn hg2 hv (by omega) (by omega), blk_push hb4 hbn hg2 hv (by omega) (by omega), blk_push hb5 hbn hg2 hv (by omega) (by omega), fr_push hf hbn hg2 hv (by have := HW.out; omega) (by have := HW.out; omega), Nat.le_trans hzz (by rw [hsetz]; exact Nat.le_trans hbn.size hg2.size)⟩
        · have d4 : (xk == 3) = false := beq_eq_false_iff_ne.2 h3
          go_wp2_with fail
          go_meet
          exact ⟨names, na, nc, Lib.hid (by rw [if_neg h3]), by omega, hN, hp, hA, hb4, hb5, hf, hzz⟩
      case rest =>
      obtain ⟨names', na', nc', HNA, hnq', hN', hp', hA', hb4', hb5', hf', hzz'⟩ := hcut
      obtain ⟨wb, hwb⟩ : ∃ W, W = wc := ⟨_, rfl⟩
      subst hwb
      clear hN hp hA hb4 hb5 hf hzz a0 a1 a2 a3 a4 a5 a6 n0 n1 n2 n3 hnq HCO
      have hll := linesB_lens s.data.toList
      rw [HL.out, lenB] at hll
      have hmx := HM.out.fr hf' hpb
      have hnx := fun W (hW : Below wb.heap.size wb W) => next_any pb s k W (hmx.call hW) hpb (hp'.call hW) hs (by rw [HL.out]; show k + l1.length ≤ 1000000; omega)
      rw [HL.out] at hnx
      obtain ⟨⟨m, o, l2⟩, hnt⟩ : ∃ T, nextT k l1 r = T := ⟨_, rfl⟩
      have hres := HRES.out
      rw [hnt] at hres
      unfold NextP at hnx
      rw [hnt] at hnx
      have hHB : Hid (∀ W, FrP pb wb W → (W.cell? ⟨g2, 3, none⟩ = some (.int .i64 x.node.kind) ∧ W.cell? ⟨g2, 4, none⟩ = some (.string x.node.word) ∧ W.cell? ⟨g2, 5, none⟩ = some (.slice none 0 0) ∧ W.cell? ⟨g2, 6, none⟩ = some (.slice none 0 0))) := Lib.hid fun W hW => (by
        have h := hA'.fr hW (by omega)
        exact ⟨h.cell 3, h.cell 4, h.cell 5, h.cell 6⟩)
      have HNT := Lib.hid hnt
      have HNX := Lib.hid hnx
      have HRES2 := Lib.hid hres
      clear hres HRES hnt hnx hmx
      cases o with
      | none =>
        have hrv : RES = .inl m := HRES2.out.symm
        have HRV := Lib.hid hrv
        have HNP := Lib.hid (fun W (hW : Below wb.heap.size wb W) => (HNX.out W hW).mono (fun e w3 h => (show (e = .panicked [lineP] ∧ FrP pb wb w3 ∧ ∃ t3, PlB w3 pb t3 m ∧ t3.size ≤ 100000) from by
          obtain ⟨h1, t3, m3, h2, h3, h4, h5⟩ := h
          subst h4
          exact ⟨h5, (FrP.of hW).trans h1, t3, h2, h3⟩)))
        clear hrv HRES2 HNX hHB
        obtain ⟨a0, a1, a2, a3, a4, a5, a6⟩ := hA'.cells7
        go_upto_region 6 with fail
        have HFA := Lib.hid hA'
        have hHB : Hid (∀ W, Below wb.heap.size wb W → (W.cell? ⟨g2, 3, none⟩ = some (.int .i64 x.node.kind) ∧ W.cell? ⟨g2, 4, none⟩ = some (.string x.node.word) ∧ W.cell? ⟨g2, 5, none⟩ = some (.slice none 0 0) ∧ W.cell? ⟨g2, 6, none⟩ = some (.slice none 0 0))) := Lib.hid fun W hW => ⟨(HFA.out.call hW).cell 3, (HFA.out.call hW).cell 4, (HFA.out.call hW).cell 5, (HFA.out.call hW).cell 6⟩
        have HFF := Lib.hid hf'
        clear hA' hp' hN' hb4' hb5' a0 a1 a2 a3 a4 a5 a6
        obtain ⟨a3, a4, a5, a6⟩ := hHB.out _ (Below.refl _ _)
        have HPAN := Lib.hid (fun w3 (h : FrP pb wb w3) (h2 : ∃ t3, PlB w3 pb t3 m ∧ t3.size ≤ 100000) => (show R (.panicked [lineP]) w3 from by
          obtain ⟨t3, hp3, ht3⟩ := h2
          refine HR.out _ _ (HFF.out.trans h) t3 m hp3 ht3 ?_
          rw [HRV.out]
          exact ⟨rfl, rfl⟩))
        obtain ⟨b03, b04, b05, b06⟩ := hHB.out (wb.alloc (.cells #[.int .i64 0, .string ⟨#[]⟩, .slice none 0 0, .slice none 0 0] 25)) (by repeat (first | refine below_al ?_ | exact Below.refl _ _))
        obtain ⟨b13, b14, b15, b16⟩ := hHB.out (wb.alloc (.cells #[.int .i64 0, .int .i64 0, .string ⟨#[]⟩, .int .i64 0, .string ⟨#[]⟩, .slice none 0 0, .slice none 0 0] 80)) (by repeat (first | refine below_al ?_ | exact Below.refl _ _))
        obtain ⟨b23, b24, b25, b26⟩ := hHB.out ((wb.alloc (.cells #[.int .i64 0, .string ⟨#[]⟩, .slice none 0 0, .slice none 0 0] 25)).alloc (.cells #[.int .i64 0, .int .i64 0, .string ⟨#[]⟩, .int .i64 0, .string ⟨#[]⟩, .slice none 0 0, .slice none 0 0] 80)) (by repeat (first | refine below_al ?_ | exact Below.refl _ _))
        obtain ⟨b33, b34, b35, b36⟩ := hHB.out ((wb.alloc (.cells #[.int .i64 0, .int .i64 0, .string ⟨#[]⟩, .int .i64 0, .string ⟨#[]⟩, .slice none 0 0, .slice none 0 0] 80)).alloc (.cells #[.int .i64 0, .string ⟨#[]⟩, .slice none 0 0, .slice none 0 0] 25)) (by repeat (first | refine below_al ?_ | exact Below.refl _ _))
        go_region_dies
        all_goals
          refine (HNP.out _ ?_).mono ?_
          · repeat (first | refine Below.drew ?_ | refine below_al ?_ | exact Below.refl _ _)
          · rintro e w3 ⟨rfl, hf3, hx3⟩
            simp only [bodyPost]
            exact ⟨trivial, HPAN.out _ hf3 hx3⟩
      | some b =>
        have HNP := Lib.hid (fun W (hW : Below wb.heap.size wb W) => (HNX.out W hW).mono (fun e w3 h => (show (e = .returned (.agg (iCells b)) ∧ FrP pb W w3 ∧ ∃ t3, PlB w3 pb t3 m ∧ t3.size ≤ 100000 ∧ linesB t3.data.toList = (l2, r)) from by
          obtain ⟨h1, t3, m3, h2, h3, h4, h5, h6⟩ := h
          subst h4
          exact ⟨h5, h1, t3, h2, h3, h6⟩)))
        clear HNX
        go_upto_region 6 with fail
        go_cut [8, 9] from 15 to 79 (fun v8 v9 wx => ∃ (g8 g9 : Nat), v8 = .pointer (some ⟨g8, 0, none⟩) ∧ v9 = .pointer (some ⟨g9, 0, none⟩) ∧ P6 wb pb x b m l2 r g8 g9 wx)
        case first =>
          have hnp1 : wb.heap.size ≠ pb := by have := hp'.lt; omega
          have hnp2 : wb.heap.size + 1 ≠ pb := by have := hp'.lt; omega
          have HPS := Lib.hid (fun w3 (h : FrP pb (wb.alloc (.cells #[.int .i64 0, .string ⟨#[]⟩, .slice none 0 0, .slice none 0 0] 25)).drew w3) => (show w3.heap.size ≠ pb from by
            have h1 := (frp_un h).size
            rw [World.size_alloc] at h1
            have := hp'.lt
            omega))
          have HS9 := Lib.hid (fun w3 (h : FrP pb (wb.alloc (.cells #[.int .i64 0, .int .i64 0, .string ⟨#[]⟩, .int .i64 0, .string ⟨#[]⟩, .slice none 0 0, .slice none 0 0] 80)).drew w3) => (show w3.heap.size ≠ wb.heap.size from by
            have h1 := (frp_un h).size
            rw [World.size_alloc] at h1
            omega))
          have HSZ := Lib.hid (fun w3 (h : FrP pb (wb.alloc (.cells #[.int .i64 0, .string ⟨#[]⟩, .slice none 0 0, .slice none 0 0] 25)).drew w3) => (show w3.heap.size ≠ wb.heap.size from by
            have h1 := (frp_un h).size
            rw [World.size_alloc] at h1
            omega))
          have HE8 := Lib.hid (fun w3 (h : FrP pb (wb.alloc (.cells #[.int .i64 0, .string ⟨#[]⟩, .slice none 0 0, .slice none 0 0] 25)).drew w3) => (show Blk w3 wb.heap.size 25 #[.int .i64 0, .string ⟨#[]⟩, .slice none 0 0, .slice none 0 0] from Blk.fr (Blk.new wb _ _) (frp_un h) hnp1))
          have HE9 := Lib.hid (fun w3 (h : FrP pb (wb.alloc (.cells #[.int .i64 0, .int .i64 0, .string ⟨#[]⟩, .int .i64 0, .string ⟨#[]⟩, .slice none 0 0, .slice none 0 0] 80)).drew w3) => (show Blk w3 wb.heap.size 80 #[.int .i64 0, .int .i64 0, .string ⟨#[]⟩, .int .i64 0, .string ⟨#[]⟩, .slice none 0 0, .slice none 0 0] from Blk.fr (Blk.new wb _ _) (frp_un h) hnp1))
          have HEF := Lib.hid (fun w3 o (h : FrP pb (wb.alloc o).drew w3) => (show FrP pb wb w3 from (FrP.of (below_al (Below.refl _ _)).drew).trans h))
          have HE89 := Lib.hid (fun w3 (h : FrP pb ((wb.alloc (.cells #[.int .i64 0, .string ⟨#[]⟩, .slice none 0 0, .slice none 0 0] 25)).alloc (.cells #[.int .i64 0, .int .i64 0, .string ⟨#[]⟩, .int .i64 0, .string ⟨#[]⟩, .slice none 0 0, .slice none 0 0] 80)).drew w3) => (show Blk w3 wb.heap.size 25 #[.int .i64 0, .string ⟨#[]⟩, .slice none 0 0, .slice none 0 0] ∧ Blk w3 (wb.heap.size + 1) 80 #[.int .i64 0, .int .i64 0, .string ⟨#[]⟩, .int .i64 0, .string ⟨#[]⟩, .slice none 0 0, .slice none 0 0] ∧ FrP pb wb w3 from
            ⟨Blk.fr ((Blk.new wb _ _).alloc _) (frp_un h) hnp1, Blk.fr (nbN wb _ _ _) (frp_un h) hnp2, (FrP.of (below_al (below_al (Below.refl _ _))).drew).trans h⟩))
          have HE98 := Lib.hid (fun w3 (h : FrP pb ((wb.alloc (.cells #[.int .i64 0, .int .i64 0, .string ⟨#[]⟩, .int .i64 0, .string ⟨#[]⟩, .slice none 0 0, .slice none 0 0] 80)).alloc (.cells #[.int .i64 0, .string ⟨#[]⟩, .slice none 0 0, .slice none 0 0] 25)).drew w3) => (show Blk w3 (wb.heap.size + 1) 25 #[.int .i64 0, .string ⟨#[]⟩, .slice none 0 0, .slice none 0 0] ∧ Blk w3 wb.heap.size 80 #[.int .i64 0, .int .i64 0, .string ⟨#[]⟩, .int .i64 0, .string ⟨#[]⟩, .slice none 0 0, .slice none 0 0] ∧ FrP pb wb w3 from
            ⟨Blk.fr (nbN wb _ _ _) (frp_un h) hnp2, Blk.fr ((Blk.new wb _ _).alloc _) (frp_un h) hnp1, (FrP.of (below_al (below_al (Below.refl _ _))).drew).trans h⟩))
          clear hA' hN' hb4' hb5' hf'
          go_region_held3 (fun w' => w'.cell? ⟨g2, 3, none⟩ = some (.int .i64 x.node.kind) ∧ w'.cell? ⟨g2, 4, none⟩ = some (.string x.node.word) ∧ w'.cell? ⟨g2, 5, none⟩ = some (.slice none 0 0) ∧ w'.cell? ⟨g2, 6, none⟩ = some (.slice none 0 0))
            (first | (refine hHB.out _ ?_; (focus ((repeat (first | (with_reducible exact hfw) | (with_reducible refine frp_drew ?_) | (with_reducible refine frp_al ?_) | (with_reducible refine frp_set0 ?_) | (with_reducible refine frp_set1 ?_) | (with_reducible refine frp_setW hfw ?_) | (with_reducible refine frp_setW1 hfw ?_) | (with_reducible exact FrP.refl _ _))); done))))
            (first
            | (go_at_call 39; (with_reducible refine (HNP.out (wb.drew) ?_).mono ?_); (focus ((repeat (first | refine Below.drew ?_ | refine below_al ?_ | exact Below.refl _ _)); done)); rintro e w3 ⟨rfl, hf3, t3, hp3, ht3, hl3⟩; have hfw := frp_un hf3; have HFA := Lib.hid (fin_a8 (x := x) (b := b) hfw ⟨t3, hp3, ht3, hl3⟩); have HFB := Lib.hid (fin_a9 (x := x) (b := b) hfw ⟨t3, hp3, ht3, hl3⟩))
            | (go_at_call 39; (with_reducible refine (HNP.out ((wb.alloc (.cells #[.int .i64 0, .string ⟨#[]⟩, .slice none 0 0, .slice none 0 0] 25)).drew) ?_).mono ?_); (focus ((repeat (first | refine Below.drew ?_ | refine below_al ?_ | exact Below.refl _ _)); done)); rintro e w3 ⟨rfl, hf3, t3, hp3, ht3, hl3⟩; have hz8 := (HE8.out w3 hf3).alloc (.cells #[.int .i64 0, .int .i64 0, .string ⟨#[]⟩, .int .i64 0, .string ⟨#[]⟩, .slice none 0 0, .slice none 0 0] 80); have hn9 := Blk.new w3 80 #[.int .i64 0, .int .i64 0, .string ⟨#[]⟩, .int .i64 0, .string ⟨#[]⟩, .slice none 0 0, .slice none 0 0]; have hfw := HEF.out w3 _ hf3; obtain ⟨s0, s1, s2, s3⟩ := hz8.cells4; have fs0 := hz8.frozen 0; have fs1 := hz8.frozen 1; have fs2 := hz8.frozen 2; have fs3 := hz8.frozen 3; have hne3 : w3.heap.size ≠ wb.heap.size := HSZ.out _ hf3; have hn9b := ((((hn9.setO ⟨wb.heap.size, 0, none⟩ (.int .i64 x.node.kind) hne3).setO ⟨wb.heap.size, 1, none⟩ (.string x.node.word) hne3).setO ⟨wb.heap.size, 2, none⟩ (.slice none 0 0) hne3).setO ⟨wb.heap.size, 3, none⟩ (.slice none 0 0) hne3); obtain ⟨v0, v1, v2, v3, v4, v5, v6⟩ := hn9b.cells7; obtain ⟨fv0, fv1, fv2, fv3, fv4, fv5, fv6⟩ := hn9b.frozen7; have HFC := Lib.hid (fin_s47 (x := x) (b := b) (hfw.alloc _) (plb_al ⟨t3, hp3, ht3, hl3⟩ _) hz8 hn9 (Ne.symm hne3) (Nat.le_refl _) hfw.size hnp1 (HPS.out w3 hf3)); clear hz8 hn9 hn9b)
            | (go_at_call 39; (with_reducible refine (HNP.out ((wb.alloc (.cells #[.int .i64 0, .int .i64 0, .string ⟨#[]⟩, .int .i64 0, .string ⟨#[]⟩, .slice none 0 0, .slice none 0 0] 80)).drew) ?_).mono ?_); (focus ((repeat (first | refine Below.drew ?_ | refine below_al ?_ | exact Below.refl _ _)); done)); rintro e w3 ⟨rfl, hf3, t3, hp3, ht3, hl3⟩; have hz9 := (HE9.out w3 hf3).alloc (.cells #[.int .i64 x.node.kind, .string x.node.word, .slice none 0 0, .slice none 0 0] 25); have hfw := HEF.out w3 _ hf3; obtain ⟨v0, v1, v2, v3, v4, v5, v6⟩ := hz9.cells7; obtain ⟨fv0, fv1, fv2, fv3, fv4, fv5, fv6⟩ := hz9.frozen7; have HFD := Lib.hid (fin_s7 (x := x) (b := b) (hfw.alloc _) (plb_al ⟨t3, hp3, ht3, hl3⟩ _) (Blk.new w3 25 #[.int .i64 x.node.kind, .string x.node.word, .slice none 0 0, .slice none 0 0]) hz9 (HS9.out w3 hf3) hfw.size (Nat.le_refl _) hnp1); clear hz9)
            | (go_at_call 39; (with_reducible refine (HNP.out (((wb.alloc (.cells #[.int .i64 0, .string ⟨#[]⟩, .slice none 0 0, .slice none 0 0] 25)).alloc (.cells #[.int .i64 0, .int .i64 0, .string ⟨#[]⟩, .int .i64 0, .string ⟨#[]⟩, .slice none 0 0, .slice none 0 0] 80)).drew) ?_).mono ?_); (focus ((repeat (first | refine Below.drew ?_ | refine below_al ?_ | exact Below.refl _ _)); done)); rintro e w3 ⟨rfl, hf3, t3, hp3, ht3, hl3⟩; obtain ⟨hz8, hz9, hfw⟩ := HE89.out w3 hf3; obtain ⟨s0, s1, s2, s3⟩ := hz8.cells4; have fs0 := hz8.frozen 0; have fs1 := hz8.frozen 1; have fs2 := hz8.frozen 2; have fs3 := hz8.frozen 3; have hne3 : wb.heap.size + 1 ≠ wb.heap.size := Nat.succ_ne_self _; have hn9b := ((((hz9.setO ⟨wb.heap.size, 0, none⟩ (.int .i64 x.node.kind) hne3).setO ⟨wb.heap.size, 1, none⟩ (.string x.node.word) hne3).setO ⟨wb.heap.size, 2, none⟩ (.slice none 0 0) hne3).setO ⟨wb.heap.size, 3, none⟩ (.slice none 0 0) hne3); obtain ⟨v0, v1, v2, v3, v4, v5, v6⟩ := hn9b.cells7; obtain ⟨fv0, fv1, fv2, fv3, fv4, fv5, fv6⟩ := hn9b.frozen7; have HFC := Lib.hid (fin_s47 (x := x) (b := b) hfw ⟨t3, hp3, ht3, hl3⟩ hz8 hz9 (Ne.symm hne3) (Nat.le_refl _) (Nat.le_succ _) hnp1 hnp2); clear hz8 hz9 hn9b )
            | (go_at_call 39; (with_reducible refine (HNP.out (((wb.alloc (.cells #[.int .i64 0, .int .i64 0, .string ⟨#[]⟩, .int .i64 0, .string ⟨#[]⟩, .slice none 0 0, .slice none 0 0] 80)).alloc (.cells #[.int .i64 0, .string ⟨#[]⟩, .slice none 0 0, .slice none 0 0] 25)).drew) ?_).mono ?_); (focus ((repeat (first | refine Below.drew ?_ | refine below_al ?_ | exact Below.refl _ _)); done)); rintro e w3 ⟨rfl, hf3, t3, hp3, ht3, hl3⟩; obtain ⟨hz8, hz9, hfw⟩ := HE98.out w3 hf3; obtain ⟨s0, s1, s2, s3⟩ := hz8.cells4; have fs0 := hz8.frozen 0; have fs1 := hz8.frozen 1; have fs2 := hz8.frozen 2; have fs3 := hz8.frozen 3; have hne3 : wb.heap.size ≠ wb.heap.size + 1 := Ne.symm (Nat.succ_ne_self _); have hn9b := ((((hz9.setO ⟨wb.heap.size + 1, 0, none⟩ (.int .i64 x.node.kind) hne3).setO ⟨wb.heap.size + 1, 1, none⟩ (.string x.node.word) hne3).setO ⟨wb.heap.size + 1, 2, none⟩ (.slice none 0 0) hne3).setO ⟨wb.heap.size + 1, 3, none⟩ (.slice none 0 0) hne3); obtain ⟨v0, v1, v2, v3, v4, v5, v6⟩ := hn9b.cells7; obtain ⟨fv0, fv1, fv2, fv3, fv4, fv5, fv6⟩ := hn9b.frozen7; have HFC := Lib.hid (fin_s47 (x := x) (b := b) hfw ⟨t3, hp3, ht3, hl3⟩ hz8 hz9 (Ne.symm hne3) (Nat.le_succ _) (Nat.le_refl _) hnp2 hnp1); clear hz8 hz9 hn9b ))
          all_goals
            go_wp2_with fail
            go_meet
            first
              | exact ⟨_, _, rfl, rfl, HFA.out⟩
              | exact ⟨_, _, rfl, rfl, HFB.out⟩
              | exact ⟨_, _, rfl, rfl, HFC.out⟩
              | exact ⟨_, _, rfl, rfl, HFD.out⟩
        case rest =>
        obtain ⟨g8, g9, rfl, rfl, hP6⟩ := hcut
        obtain ⟨wd, hwd⟩ : ∃ W, W = wc := ⟨_, rfl⟩
        subst hwd
        obtain ⟨hne89, hg8, hg9, hQ8, hQ9, ⟨t3, hp3, ht3, hl3⟩, hfd⟩ := hP6
        have hpw := hp'.lt
        have hAd := hA'.fr hfd (by omega)
        have hNd := hN'.fr hfd (by omega) hpB
        have hb4d := hb4'.fr hfd (by omega)
        have hb5d := hb5'.fr hfd (by omega)
        have hfw := hf'.trans hfd
        have hzd : Bs0 ≤ wd.heap.size := Nat.le_trans hzz' hfd.size
        have hbok := nextT_ok l1 k r m b l2 (fun l hl => by have := hll.1 l hl; omega) HNT.out
        have hlen := nextT_len l1 k r m b l2 HNT.out
        have hlin := nextT_line l1 k r m b l2 HNT.out
        have hres := HRES2.out
        simp only at hres
        have hg89 : Bs0 ≤ g8 ∧ Bs0 ≤ g9 := ⟨by omega, by omega⟩
        have hpb89 : pb ≠ g8 ∧ pb ≠ g9 := ⟨by omega, by omega⟩
        have hown8 : ∀ v : Value, v.ownBlock = (Value.slice na' names'.length nc').ownBlock ∨ v.ownBlock = (Value.slice ia qs.length ic).ownBlock → v.ownBlock ≠ some g8 ∧ v.ownBlock ≠ some g9 := fun v hv => by
          have hlt : ∀ g, v.ownBlock = some g → g < wb.heap.size := fun g e => by
            rcases hv with hv | hv
            · exact (ownS_ge hN'.names_ (by rw [← hv]; exact e)).2
            · exact (ownN_ge hN'.items (by rw [← hv]; exact e)).2
          exact ⟨fun e => by have := hlt _ e; omega, fun e => by have := hlt _ e; omega⟩
        have HOWN := Lib.hid hown8
        have HRES := Lib.hid hres
        have HLL := Lib.hid hll
        have HNB := Lib.hid hN'
        have HFD := Lib.hid hfd
        have hlt8 := hQ8.lt
        have hlt9 := hQ9.lt
        have hwbd := hfd.size
        clear hA' hN' hb4' hb5' hf' hfd hp' hres HRES2 hHB HNP hown8 hll
        obtain ⟨z0, z1, z2, z3⟩ := hQ8.cells4
        go_upto_if 55 with fail
        go_cut [] from 15 to 79 (fun wx => ∃ (q : NdAt) (b' : It) (m' : Nat) (l' : List Bs) (s' : ByteArray), Blk wx g8 25 (nCells q) ∧ Blk wx g9 80 (iCells b') ∧ PlB wx pb s' m' ∧ s'.size ≤ 100000 ∧ Hid (linesB s'.data.toList = (l', r)) ∧
          Hid (q.inn (fun b => Bs0 ≤ b ∧ b < wx.heap.size ∧ some b ≠ (Value.slice na' names'.length nc').ownBlock ∧ some b ≠ (Value.slice ia qs.length ic).ownBlock) wx) ∧ Hid (RES = if b'.deep ≤ xd then itemsC (addI (.mk xk ⟨#[]⟩ names (qs.map (·.n))) x q.n) xd b' m' l' r else .inl m') ∧
          (l'.length < l1.length ∨ b' = endI ∧ l' = []) ∧ Hid (b' = endI ∨ m' + l'.length ≤ k + l1.length) ∧ ItOk b' ∧ NodeAt wx Bs0 g6 xk names' qs na' nc' ia ic ∧
          Blk wx g2 80 (iCells x) ∧ Blk wx g4 25 #[.int .i64 0, .string ⟨#[]⟩, .slice none 0 0, .slice none 0 0] ∧ Blk wx g5 80 zCells ∧ FrP pb w wx ∧ Bs0 ≤ wx.heap.size)
        case first =>
          by_cases hkind : x.node.kind = 0
          case neg =>
            have d5 : (x.node.kind == 0) = false := beq_eq_false_iff_ne.2 hkind
            have hr2 := HRES.out
            rw [if_neg hkind] at hr2
            have HR2 := Lib.hid hr2
            clear hkind hr2
            go_wp2_with fail
            go_meet
            refine ⟨⟨x.node, none, 0, none, 0⟩, b, m, l2, t3, ?_, hQ9, hp3, ht3, Lib.hid hl3, Lib.hid ?_, Lib.hid ?_, ?_, Lib.hid hlin, hbok.1, hNd, hAd, hb4d, hb5d, hfw, hzd⟩
            · rw [show nCells ⟨x.node, none, 0, none, 0⟩ = #[.int .i64 x.node.kind, .string x.node.word, .slice none 0 0, .slice none 0 0] by simp only [nCells, X6, X7, List.length_nil]]
              exact hQ8
            · refine .flat _ ⟨by rw [show (NdAt.mk x.node none 0 none 0).n.names = [] from X6]; exact HasStrs.nil _ _ _ (Nat.zero_le _), by show x.node.word.size ≤ maxLen; unfold maxLen; omega, (show (Lit.int .i64 x.node.kind).wf = true from WalkArith.wf_i64 (by omega)), by show x.node.items.length ≤ 0; rw [X7]; exact Nat.le_refl _, by show 0 ≤ maxLen; omega⟩ (fun h => absurd X6 h) X7
            · exact HR2.out.symm
            · exact hlen.1
          case pos =>
            have d5 : (x.node.kind == 0) = true := beq_iff_eq.2 hkind
            have hr2 := HRES.out
            rw [if_pos hkind] at hr2
            obtain ⟨y0, y1, y2, y3, y4, y5, y6⟩ := hQ9.cells7
            have hw1 : IntKind.i64.wrap (xd + 1) = xd + 1 := IntWalk.i64_in _ (by omega)
            clear hkind
            by_cases hbd : b.deep = xd + 1
            case neg =>
              rw [if_neg hbd] at hr2
              have HRV := Lib.hid hr2
              have d6 : (b.deep == xd + 1) = false := beq_eq_false_iff_ne.2 hbd
              clear hr2 hbd hAd hNd hb4d hb5d hQ8 hQ9 hlen hlin
              go_wp2_with (go_at_call 59; refine (must_not _).mono ?_; rintro e w2 ⟨rfl, rfl⟩)
              simp only [bodyPost]
              refine ⟨trivial, HR.out _ _ hfw t3 m hp3 ht3 ?_⟩
              rw [← HRV.out]
              exact ⟨rfl, rfl⟩
            case pos =>
              rw [if_pos hbd] at hr2
              have d6 : (b.deep == xd + 1) = true := beq_iff_eq.2 hbd
              have hbe : b ≠ endI := fun e => by
                rw [e] at hbd
                have : endI.deep = -1 := rfl
                omega
              have hl21 : l2.length < l1.length := by
                rcases hlen.1 with h | ⟨h, _⟩
                · exact h
                · exact absurd h hbe
              have hml : m + l2.length ≤ k + l1.length := by
                rcases hlin with h | h
                · exact absurd h hbe
                · exact h
              have hih := HIH.out l2.length (by omega) b t3 m wd hbok.1 (by omega) (by rw [hl3]; exact Nat.le_refl _) (HM.out.fr hfw hpb) hp3 ht3 (by rw [hl3]; show m + l2.length ≤ 1000000; omega)
              rw [hl3] at hih
              unfold ItemsP at hih
              simp only at hih
              obtain ⟨T, hT⟩ : ∃ T, itemsC (.mk b.kind ⟨#[]⟩ [] []) b.deep b m l2 r = T := ⟨_, rfl⟩
              rw [hT] at hih hr2
              have hlin2 : ∀ y b2 m2 l3, T = .inr (y, b2, m2, l3) → (b2 = endI ∨ m2 + l3.length ≤ m + l2.length) ∧ l3.length ≤ l2.length := fun y b2 m2 l3 e => by
                rw [e] at hT
                exact ⟨itemsR_line _ _ _ _ _ _ _ _ _ _ _ (by omega) hT, itemsR_len _ _ _ _ _ _ _ _ _ _ _ hT⟩
              have HIHC := Lib.hid hih
              have HR3 := Lib.hid hr2
              have HL2 := Lib.hid hlin2
              clear hih hr2 hlin2 hT hbd hbe
              cases T with
              | inl kk =>
                have hrv : RES = .inl kk := HR3.out.symm
                have HRV := Lib.hid hrv
                clear hrv HL2 hAd hNd hb4d hb5d hQ8 hQ9
                go_wp2_with (first
                  | (go_at_call 59; refine (must_ok _).mono ?_; rintro e w2 ⟨rfl, rfl⟩)
                  | (go_at_call 60; refine HIHC.out.mono ?_; rintro e w4 ⟨hf4, t4, m4, hp4, ht4, rfl, rfl⟩))
                simp only [bodyPost]
                refine ⟨trivial, HR.out _ _ (hfw.trans hf4) t4 m4 hp4 ht4 ?_⟩
                rw [HRV.out]
                exact ⟨rfl, rfl⟩
              | inr res =>
                obtain ⟨y, b2, m2, l3⟩ := res
                obtain ⟨hl32, hl33⟩ := HL2.out _ _ _ _ rfl
                have hrv : (if b2.deep ≤ xd then itemsC (addI (.mk xk ⟨#[]⟩ names (qs.map (·.n))) x y) xd b2 m2 l3 r else .inl m2) = RES := HR3.out
                have HRV := Lib.hid hrv
                have HC8 := Lib.hid (fun w4 (hf4 : FrP pb wd w4) => And.intro (hQ8.fr hf4 (Ne.symm hpb89.1)) (hQ9.fr hf4 (Ne.symm hpb89.2)))
                have HC9 := Lib.hid (fun w4 (hf4 : FrP pb wd w4) => (⟨hNd.fr hf4 (by omega) hpB, hAd.fr hf4 (by omega), hb4d.fr hf4 (by omega), hb5d.fr hf4 (by omega), hfw.trans hf4, Nat.le_trans hzd hf4.size⟩ : NodeAt w4 Bs0 g6 xk names' qs na' nc' ia ic ∧ Blk w4 g2 80 (iCells x) ∧ Blk w4 g4 25 #[.int .i64 0, .string ⟨#[]⟩, .slice none 0 0, .slice none 0 0] ∧ Blk w4 g5 80 zCells ∧ FrP pb w w4 ∧ Bs0 ≤ w4.heap.size))
                clear hrv HR3 hAd hNd hb4d hb5d hQ8 hQ9 hlen hlin
                go_wp2_with (first
                  | (go_at_call 59; refine (must_ok _).mono ?_; rintro e w2 ⟨rfl, rfl⟩)
                  | (go_at_call 60; refine HIHC.out.mono ?_; rintro e w4 ⟨hf4, t4, m4, hp4, ht4, rfl, hl4, hb2k, q, rfl, hqi, rfl⟩; obtain ⟨hk8, hk9⟩ := HC8.out w4 hf4; obtain ⟨j0, j1, j2, j3⟩ := hk8.cells4; obtain ⟨i0, i1, i2, i3, i4, i5, i6⟩ := hk9.cells7; obtain ⟨f0, f1, f2, f3, f4, f5, f6⟩ := hk9.frozen7; have e0 := hk8.frozen 0; have e1 := hk8.frozen 1; have e2 := hk8.frozen 2; have e3 := hk8.frozen 3))
                go_meet
                have hN4 := HC9.out w4 hf4
                have hst := st_world hk8 hk9 hne89 (.int .i64 q.n.kind) (.string q.n.word) (.slice q.na q.n.names.length q.nc) (.slice q.ia q.n.items.length q.ic) (.int .i64 b2.deep) (.int .i64 b2.kind) (.string b2.name) (.int .i64 b2.node.kind) (.string b2.node.word) (.slice none 0 0) (.slice none 0 0) _ rfl
                clear j0 j1 j2 j3 i0 i1 i2 i3 i4 i5 i6 f0 f1 f2 f3 f4 f5 f6 e0 e1 e2 e3 hk8 hk9
                generalize ((((((((((w4.setCell ⟨g8, 0, none⟩ (.int .i64 q.n.kind)).setCell ⟨g8, 1, none⟩ (.string q.n.word)).setCell ⟨g8, 2, none⟩ (.slice q.na q.n.names.length q.nc)).setCell ⟨g8, 3, none⟩ (.slice q.ia q.n.items.length q.ic)).setCell ⟨g9, 0, none⟩ (.int .i64 b2.deep)).setCell ⟨g9, 1, none⟩ (.int .i64 b2.kind)).setCell ⟨g9, 2, none⟩ (.string b2.name)).setCell ⟨g9, 3, none⟩ (.int .i64 b2.node.kind)).setCell ⟨g9, 4, none⟩ (.string b2.node.word)).setCell ⟨g9, 5, none⟩ (.slice none 0 0)).setCell ⟨g9, 6, none⟩ (.slice none 0 0) = we at *
                obtain ⟨s8, s9, sk, sz, so1, so2, so3⟩ := hst
                obtain ⟨_, n2, n3, n4, n5, n6⟩ := hN4
                have hfe : FrP pb wb we := by
                  have h := HFD.out.trans hf4
                  exact ⟨so1.trans h.os, so2.trans h.tape, so3.trans h.output, by rw [sz]; exact h.size, fun k hk hn => (sk k (by omega) (by omega)).trans (h.blk k hk hn)⟩
                have hfe2 : FrP pb w we := ⟨so1.trans n5.os, so2.trans n5.tape, so3.trans n5.output, by rw [sz]; exact n5.size, fun k hk hn => (sk k (by have := HW.out; omega) (by have := HW.out; omega)).trans (n5.blk k hk hn)⟩
                refine ⟨q, b2, m4, l3, t4, s8, s9, (sk pb (by omega) (by omega)).trans hp4, ht4, Lib.hid hl4, Lib.hid ?_, Lib.hid ?_, .inl (by omega), Lib.hid ?_, hb2k, HNB.out.fr hfe (by omega) hpB, (sk g2 (by omega) (by omega)).trans n2, (sk g4 (by omega) (by omega)).trans n3, (sk g5 (by omega) (by omega)).trans n4, hfe2, by rw [sz]; exact n6⟩
                · refine (hqi.keep (by rw [sz]; exact Nat.le_refl _) fun b hb => sk b (by omega) (by omega)).mono fun b hb => ⟨by omega, by rw [sz]; exact hb.2, fun e => ?_, fun e => ?_⟩
                  · have := (ownS_ge HNB.out.names_ e.symm).2; omega
                  · have := (ownN_ge HNB.out.items e.symm).2; omega
                · exact HRV.out.symm
                · rcases hl32 with h | h
                  · exact .inl h
                  · exact .inr (by omega)
        case rest =>
        obtain ⟨q, b', m', l', s', hQ8, hQ9, hp5, hs5, HL5, HQI, HRV, hll5, HLN, hb5k, hN5, hA5, hb4e, hb5e, hf5, hz5⟩ := hcut
        obtain ⟨we, hwe⟩ : ∃ W, W = wc := ⟨_, rfl⟩
        subst hwe
        clear hAd hNd hb4d hb5d hfw hzd hlen hlin hbok HRES hp3 ht3 hl3 z0 z1 z2 z3 HNB HFD
        obtain ⟨B1, B2, B3, B4, B5, B6, B7, B8, B9, B10⟩ := hb5k
        obtain ⟨y0, y1, y2, y3, y4, y5, y6⟩ := hQ9.cells7
        by_cases hbd : b'.deep ≤ xd
        case neg =>
          have hr2 := HRV.out
          rw [if_neg hbd] at hr2
          have HR2 := Lib.hid hr2
          have d6 : decide (b'.deep ≤ xd) = false := decide_eq_false hbd
          clear hr2 hbd hN5 hA5 hb4e hb5e hQ8 hQ9
          go_wp2_with (go_at_call 59; refine (must_not _).mono ?_; rintro e w2 ⟨rfl, rfl⟩)
          simp only [bodyPost]
          refine ⟨trivial, HR.out _ _ hf5 s' m' hp5 hs5 ?_⟩
          rw [HR2.out]
          exact ⟨rfl, rfl⟩
        case pos =>
          have hr2 := HRV.out
          rw [if_pos hbd] at hr2
          have HR2 := Lib.hid hr2
          have d6 : decide (b'.deep ≤ xd) = true := decide_eq_true hbd
          clear hr2 hbd HRV
          obtain ⟨j0, j1, j2, j3⟩ := hQ8.cells4
          obtain ⟨i1, hj, hy0, hy1, hy2⟩ := info_partsN Tryd.infoN
          obtain ⟨n0, n1, n2, n3⟩ := hN5.blk.cells4
          have hbn : Below we.heap.size we we := Below.refl _ _
          have hown := hN5.items
          have HN5 := Lib.hid hN5
          have HQ9 := Lib.hid hQ9
          have HOTH := Lib.hid (And.intro hp5 (And.intro hA5 (And.intro hb4e (And.intro hb5e hf5))))
          have HNP := Lib.hid (fun w2 (hg : we.grownBy w2 (Value.slice ia qs.length ic).ownBlock) => And.intro ((HN5.out.blkI hbn hB6 hg).cells4) ((HN5.out.blkI hbn hB6 hg).frozen 3))
          clear hN5 hQ9 hp5 hA5 hb4e hb5e hf5
          go_upto_region 12 with (first
            | (go_at_call 59; refine (must_ok _).mono ?_; rintro e w2 ⟨rfl, rfl⟩)
            | (refine wpList_pushNA we (by rfl) (.tmp 74) (.tmp 76) 23 (by rfl) Bs0 i1 ndZ Tryd.underlying23 hj hy0 hy1 hy2 rfl (.slice ia qs.length ic) qs q (by rfl) hown [.int .i64 q.n.kind, .string q.n.word, .slice q.na q.n.names.length q.nc, .slice q.ia q.n.items.length q.ic] rfl (by rfl) (by omega) hz5 ?_; intro ia' ic' w2 hown2 hg2 hl2; obtain ⟨⟨m0, m1, m2, m3⟩, m4⟩ := HNP.out w2 hg2))
          obtain ⟨hp5, hA5, hb4e, hb5e, hf5⟩ := HOTH.out
          have hv : ∀ b, (Value.slice ia qs.length ic).ownBlock = some b → Bs0 ≤ b := fun b e => (ownN_ge HN5.out.items e).1
          have hN6 := HN5.out.pushItem hbn hB6 hown2 hg2 hl2 HQI.out
          have hp6 : PlB (w2.setCell ⟨g6, 3, none⟩ (.slice ia' (qs.length + 1) ic')) pb s' m' := blk_push hp5 hbn hg2 hv (by omega) (by omega)
          have hA6 := blk_push (g := g6) (i := 3) (u := .slice ia' (qs.length + 1) ic') hA5 hbn hg2 hv (by omega) (by omega)
          have hb46 := blk_push (g := g6) (i := 3) (u := .slice ia' (qs.length + 1) ic') hb4e hbn hg2 hv (by omega) (by omega)
          have hb56 := blk_push (g := g6) (i := 3) (u := .slice ia' (qs.length + 1) ic') hb5e hbn hg2 hv (by omega) (by omega)
          have hf6 := fr_push (g := g6) (i := 3) (u := .slice ia' (qs.length + 1) ic') hf5 hbn hg2 hv (by have := HW.out; omega) (by have := HW.out; omega)
          have hz6 : Bs0 ≤ (w2.setCell ⟨g6, 3, none⟩ (.slice ia' (qs.length + 1) ic')).heap.size := by rw [hsetz]; exact Nat.le_trans hz5 hg2.size
          have hQ6 : Blk (w2.setCell ⟨g6, 3, none⟩ (.slice ia' (qs.length + 1) ic')) g9 80 (iCells b') := by
            refine Blk.setO ((hg2.block g9 (Nat.lt_of_lt_of_le HQ9.out.lt (Nat.le_refl _)) (fun e => ?_)).trans HQ9.out) ⟨g6, 3, none⟩ _ (by show g9 ≠ g6; omega)
            exact OwnN.ne HN5.out.items HQ9.out (by decide) e
          clear hp5 hA5 hb4e hb5e hf5 hown2 hg2 hl2 hv hown hbn m0 m1 m2 m3 m4 n0 n1 n2 n3 j0 j1 j2 j3 y0 y1 y2 y3 y4 y5 y6 HOTH HN5 HQ9 HNP HQI hQ8
          generalize w2.setCell ⟨g6, 3, none⟩ (.slice ia' (qs.length + 1) ic') = wf at *
          obtain ⟨y0, y1, y2, y3, y4, y5, y6⟩ := hQ6.cells7
          obtain ⟨a0, a1, a2, a3, a4, a5, a6⟩ := hA6.cells7
          obtain ⟨f0, f1, f2, f3, f4, f5, f6⟩ := hA6.frozen7
          have hmp : (qs ++ [q]).map (fun q : NdAt => q.n) = qs.map (fun q : NdAt => q.n) ++ [q.n] := by simp
          have HFIN : Hid (itemsC (.mk xk ⟨#[]⟩ names' ((qs ++ [q]).map (fun q : NdAt => q.n))) xd b' m' l' r = RES) := Lib.hid (by
            rw [HR2.out, addI]
            show _ = itemsC (.mk xk ⟨#[]⟩ (if xk = 3 then names ++ [x.name] else names) (qs.map (fun q : NdAt => q.n) ++ [q.n])) xd b' m' l' r
            rw [← HNA.out, hmp])
          have hgw : w.heap.size ≤ g2 := Nat.le_of_eq HW.out
          have hHA := Lib.hid (hA6.set7 (.int .i64 b'.deep) (.int .i64 b'.kind) (.string b'.name) (.int .i64 b'.node.kind) (.string b'.node.word) (.slice none 0 0) (.slice none 0 0))
          have hHp := Lib.hid (setO7 hp6 (show pb ≠ g2 by omega) (.int .i64 b'.deep) (.int .i64 b'.kind) (.string b'.name) (.int .i64 b'.node.kind) (.string b'.node.word) (.slice none 0 0) (.slice none 0 0))
          have hH4 := Lib.hid (setO7 hb46 (show g4 ≠ g2 by omega) (.int .i64 b'.deep) (.int .i64 b'.kind) (.string b'.name) (.int .i64 b'.node.kind) (.string b'.node.word) (.slice none 0 0) (.slice none 0 0))
          have hH5 := Lib.hid (setO7 hb56 (show g5 ≠ g2 by omega) (.int .i64 b'.deep) (.int .i64 b'.kind) (.string b'.name) (.int .i64 b'.node.kind) (.string b'.node.word) (.slice none 0 0) (.slice none 0 0))
          have hHf := Lib.hid (fr_set7 hf6 hgw (.int .i64 b'.deep) (.int .i64 b'.kind) (.string b'.name) (.int .i64 b'.node.kind) (.string b'.node.word) (.slice none 0 0) (.slice none 0 0))
          have hHN := Lib.hid (node_set7 hN6 (show g2 < Bs0 by omega) (show g6 ≠ g2 by omega) (.int .i64 b'.deep) (.int .i64 b'.kind) (.string b'.name) (.int .i64 b'.node.kind) (.string b'.node.word) (.slice none 0 0) (.slice none 0 0))
          have hHz : Hid (Bs0 ≤ (((((((wf.setCell ⟨g2, 0, none⟩ (.int .i64 b'.deep)).setCell ⟨g2, 1, none⟩ (.int .i64 b'.kind)).setCell ⟨g2, 2, none⟩ (.string b'.name)).setCell ⟨g2, 3, none⟩ (.int .i64 b'.node.kind)).setCell ⟨g2, 4, none⟩ (.string b'.node.word)).setCell ⟨g2, 5, none⟩ (.slice none 0 0)).setCell ⟨g2, 6, none⟩ (.slice none 0 0)).heap.size) := Lib.hid (by simp only [hsetz]; exact hz6)
          have hbx : b' = endI → b'.deep ≠ xd := fun e => by
            rw [e]
            have : endI.deep = -1 := rfl
            omega
          clear hp6 hA6 hb46 hb56 hf6 hN6 hQ6 hz6
          go_wp2_with fail
          go_roundg (if b'.deep = xd then l'.length + 2 else 1)
          case measure =>
            have hgx := HGG.out
            rw [if_pos hxd] at hgx
            split
            · rename_i h
              rcases hll5 with h2 | ⟨h2, _⟩
              · omega
              · exact absurd h (hbx h2)
            · omega
          case rel =>
            refine ⟨b', m', s', l', names', qs ++ [q], na', nc', ia', ic', Lib.hid rfl, ?_, Lib.hid (fun h => ?_), hs5, hHp.out, HL5, HFIN, ⟨B1, B2, B3, B4, B5, B6, B7, B8, B9, B10⟩, hHA.out, ?_, hH4.out, hH5.out, hHf.out, hHz.out, ?_⟩
            · rcases hll5 with h2 | ⟨_, h2⟩
              · omega
              · rw [h2]; exact Nat.zero_le _
            · rcases HLN.out with h2 | h2
              · exact absurd h (hbx h2)
              · omega
            · exact hHN.out
            · rw [List.length_append, List.length_singleton]; omega
/-- the contract of readItems -/
theorem items_any (pb : Nat) (hpb : 0 ≠ pb) (M : Nat) : ItemsAll pb M := by
  induction M using Nat.strongRecOn with
  | _ M ih => exact items_step pb M hpb ih
end Go.Proofs.YtolbhhokpelchaaDoor
