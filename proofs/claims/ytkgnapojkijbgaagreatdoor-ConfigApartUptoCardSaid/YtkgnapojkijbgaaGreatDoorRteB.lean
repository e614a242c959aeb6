/- The contracts of what routes.Right asks of a route's words, matchers and names. -/
import Derived.Test.YtkgnapojkijbgaaGreatDoorRteM
import Derived.Test.YtkgnapojkijbgaaGreatDoorBlkE
import Derived.Test.YtkgnapojkijbgaaGreatDoorLabF
import Derived.Test.YtkgnapojkijbgaaGreatDoorMatB
import Derived.Test.YtkgnapojkijbgaaGreatDoorMatD0
namespace Go.Proofs.YtkgnapojkijbgaaGreatDoor
open Go.RowKit

theorem word_defsR (s : ByteArray) : defsC [⟨s, [], []⟩] = bwC s.data.toList := by
  simp [defsC, defC, keysC]
theorem rteWord_any (s : ByteArray) (w : World) (hs : s.size ≤ maxLen) : Calls Tryz.prog 214 #[.string s] w (BoolB (bwC s.data.toList) w) := by
  have hb := (Below.refl w.heap.size w).alloc (Nat.le_refl _) (.cells #[.string s, .slice none 0 0, .slice none 0 0] 130)
  have hB := Blk.new w 130 #[.string s, .slice none 0 0, .slice none 0 0]
  have hd : HasDefs (w.alloc (.cells #[.string s, .slice none 0 0, .slice none 0 0] 130)) (some ⟨w.heap.size, 0, none⟩) 1 [⟨s, [], []⟩] := by
    refine ⟨Nat.le_refl _, by unfold maxLen; omega, .inr ⟨_, _, rfl, hB.lt, fun i hi => ?_⟩⟩
    obtain rfl : i = 0 := by simpa using hi
    refine ⟨⟨⟨s, [], []⟩, none, 0, none, 0⟩, rfl, ⟨hB.cell 0, hB.cell 1, hB.cell 2⟩, HasStrs.nil _ _ _ (Nat.zero_le _), HasStrs.nil _ _ _ (Nat.zero_le _), hs⟩
  have hr := bRight_any _ _ _ _ hd
  rw [word_defsR] at hr
  go_enter Tryz.func214, Tryz.ntmps214
  go_wp2_with (go_at_call 109; refine hr.mono ?_; rintro e w2 ⟨rfl, hb2⟩)
  go_ret
  exact ⟨rfl, bthen hb hb2⟩
theorem rteWithin_any (n a b : Int) (w : World) : Calls Tryz.prog 217 #[.int .i64 n, .int .i64 a, .int .i64 b] w (BoolS (inRt n a b) w) := by
  unfold inRt
  by_cases h : a ≤ n
  · have h1 : decide (a ≤ n) = true := decide_eq_true h
    go_enter Tryz.func217, Tryz.ntmps217
    go_wp2
    go_ret
    exact ⟨by rw [h1, Bool.true_and]; rfl, rfl⟩
  · have h1 : decide (a ≤ n) = false := decide_eq_false h
    go_enter Tryz.func217, Tryz.ntmps217
    go_wp2
    go_ret
    exact ⟨by simp, rfl⟩

/-! ### Matchers -/
set_option maxHeartbeats 1600000 in
set_option maxRecDepth 100000 in
theorem wrong_any (a : Option Addr) (c : Nat) (m : Mat) (w : World) (h : HasMat w (.agg (matCells a c m)) m) : Calls Tryz.prog 272 #[.agg (matCells a c m)] w (BoolB (!rightM m) w) := by
  have hb := (Below.refl w.heap.size w).alloc (Nat.le_refl _) (.cells (matCells a c m) 109)
  have hB := Blk.new w 109 (matCells a c m)
  have hr := mRight_any _ m _ (h.call hb)
  have HB := Lib.hid hb
  have HR := Lib.hid hr
  clear hb hr h
  simp only [matCells] at *
  have c0 := hB.cell 0
  have c1 := hB.cell 1
  have c2 := hB.cell 2
  go_enter Tryz.func272, Tryz.ntmps272
  go_wp2_with (go_at_call 170; refine HR.out.mono ?_; rintro e w2 ⟨rfl, hb2⟩)
  go_ret
  exact ⟨rfl, bthen HB.out hb2⟩

def IdxW (B : Bool) (w : World) (e : Ending) (w' : World) : Prop := ∃ n : Int, e = .returned (.int .i64 n) ∧ decide (0 ≤ n) = !B ∧ Below w.heap.size w w'
set_option maxHeartbeats 3200000 in
set_option maxRecDepth 100000 in
theorem idxWrong_any (a : Option Addr) (c : Nat) (ms : List Mat) (w : World) (h : HasMats w a c ms) :
    Calls Tryz.prog 270 #[.slice a ms.length c, .func (.func 272) #[] #[]] w (IdxW (ms.all rightM) w) := by
  obtain ⟨h1, h2, h4⟩ := h
  unfold maxLen at h2
  rcases h4 with rfl | ⟨b, off, rfl, hlt, hc⟩
  · simp only [List.length_nil] at *
    go_enter Tryz.func270, Tryz.ntmps270
    go_wp2_with fail
    refine wp_loop_rounds 1 ?_
    rw [rounds_succ]
    go_wp2_with fail
    go_ret
    exact ⟨-1, rfl, rfl, Below.refl _ _⟩
  · obtain ⟨J, hJ, hgood, hend⟩ := all_end rightM ms
    obtain ⟨R, hR⟩ : ∃ R, ms.all rightM = R := ⟨_, rfl⟩
    rw [hR] at hend ⊢
    have HG := Lib.hid hgood
    have HE := Lib.hid hend
    have HC := Lib.hid hc
    have HQ := Lib.hid (fun W a c m (h : HasMat W (.agg (matCells a c m)) m) => wrong_any a c m W h)
    clear hgood hend hc hR
    go_enter Tryz.func270, Tryz.ntmps270
    go_wp2_with fail
    go_loopg [8, 5] ms.length (fun gg iv _ wr => ∃ k : Nat, k + gg = ms.length ∧ k ≤ J ∧ iv = .int .i64 (k : Int) ∧ Below w.heap.size w wr)
    case atStart => exact ⟨0, by omega, Nat.zero_le _, rfl, Below.refl _ _⟩
    case round =>
      obtain ⟨k, hkg, hkJ, rfl, hbr⟩ := hrel
      cases gk with
      | zero =>
        obtain rfl : k = ms.length := by omega
        obtain rfl : R = true := by
          rcases HE.out with ⟨_, e⟩ | ⟨hj, _⟩
          · exact e
          · omega
        have HBR := Lib.hid hbr
        clear hbr
        go_wp2_with fail
        go_ret
        exact ⟨-1, rfl, rfl, HBR.out⟩
      | succ gg =>
        have hkl : k < ms.length := by omega
        obtain ⟨x, y, ⟨g0, g1, g2⟩, g3, g4, g5⟩ := HC.out k hkl
        have c0 := cellL hbr g0
        have c1 := cellL hbr g1
        have c2 := cellL hbr g2
        have hm : HasMat wr (.agg (matCells x y ms[k])) ms[k] := ⟨x, y, rfl, g3.call hbr, g4, g5⟩
        have hq := HQ.out wr x y ms[k] hm
        have hgk : k < J → rightM ms[k] = true := fun h => HG.out k h hkl
        have hjk : k = J → rightM ms[k] = false ∧ R = false := fun h => by
          rcases HE.out with ⟨e, _⟩ | ⟨hj, e, e2⟩
          · omega
          · subst h; exact ⟨e, e2⟩
        have HQ2 := Lib.hid hq
        have HBR := Lib.hid hbr
        clear hbr g0 g1 g2 g3 g4 g5 hm hq HC
        simp only [matCells] at *
        generalize ms[k] = m at *
        have e1 : off + k * 3 = off + k * 3 := rfl
        by_cases hk : k < J
        · rw [hgk hk] at HQ2
          clear hgk hjk e1
          go_wp2_with (go_at_call 272; refine HQ2.out.mono ?_; rintro e w2 ⟨rfl, hb2⟩)
          go_roundg gg
          case measure => omega
          case rel => exact ⟨k + 1, by omega, by omega, by go_num, bthen HBR.out hb2⟩
        · obtain ⟨e3, rfl⟩ := hjk (by omega)
          rw [e3] at HQ2
          clear hgk hjk e1 e3
          go_wp2_with (go_at_call 272; refine HQ2.out.mono ?_; rintro e w2 ⟨rfl, hb2⟩)
          go_ret
          exact ⟨(k : Int), rfl, by simp, bthen HBR.out hb2⟩
theorem anyWrong_any (a : Option Addr) (c : Nat) (ms : List Mat) (w : World) (h : HasMats w a c ms) :
    Calls Tryz.prog 211 #[.slice a ms.length c, .func (.func 272) #[] #[]] w (BoolB (!(ms.all rightM)) w) := by
  have hi := idxWrong_any a c ms w h
  generalize ms.all rightM = R at *
  have HI := Lib.hid hi
  clear hi h
  go_enter Tryz.func211, Tryz.ntmps211
  go_wp2_with (go_at_call 270; refine HI.out.mono ?_; rintro e w2 ⟨n, rfl, hn, hb2⟩)
  go_ret
  exact ⟨by first | rfl | rw [hn], hb2⟩
theorem rteMatch_any (a : Option Addr) (c : Nat) (ms : List Mat) (w : World) (h : HasMats w a c ms) : Calls Tryz.prog 215 #[.slice a ms.length c] w (BoolB (matchC ms) w) := by
  have hq := anyWrong_any a c ms w h
  unfold matchC
  generalize ms.all rightM = R at *
  have HQ := Lib.hid hq
  clear hq h
  by_cases h8 : ms.length ≤ 8
  · rw [decide_eq_true h8]
    have d8 : decide ((ms.length : Int) ≤ 8) = true := decide_eq_true (by omega)
    clear h8
    go_enter Tryz.func215, Tryz.ntmps215
    go_wp2_with (go_at_call 211; refine HQ.out.mono ?_; rintro e w2 ⟨rfl, hb2⟩)
    go_ret
    exact ⟨by cases R <;> rfl, hb2⟩
  · rw [decide_eq_false h8]
    have d8 : decide ((ms.length : Int) ≤ 8) = false := decide_eq_false (by omega)
    clear h8
    go_enter Tryz.func215, Tryz.ntmps215
    go_wp2_with fail
    go_ret
    exact ⟨rfl, Below.refl _ _⟩

/-! ### Names -/
theorem wpList_pushL2 {P : Program} (W : World) {ops : Array Oper} {rest : List Oper} {o : Oper} {a : Act} {Q : Exit → Act → World → Prop} (hgd : o.guard = none) (s x : Operand) (t : TypeId)
    (ho : o.op = .call { callee := .builtin .append, args := #[s, x], argTypes := #[t, t] })
    (base : Nat) (e : TypeId) (i : TypeInfo) (z : Value) (ht : P.underlying t = some (.slice e)) (hi : P.info? e = some i) (hz : i.zero = some z) (hsize : i.size = 2) (hby : i.bytes = 32) (hzs : z.cells.size = 2)
    (v : Value) (ls : List Lab) (l : Lab) (hs : a.eval s = v) (hown : OwnL e W base v ls) (us : List Value) (hus : us = labsV [l])
    (hx : a.eval x = .slice (some ⟨W.heap.size, 0, none⟩) 1 1) (h63 : ls.length ≤ 2000000) (hbase : base ≤ W.heap.size)
    (h : ∀ (v' : Value) (w' : World), OwnL e w' base v' (ls ++ [l]) → W.grownBy w' v.ownBlock → wpList P ops Q rest (a.put o.dst v') w') :
    wpList P ops Q (o :: rest) a (W.alloc (.cells us.toArray e)) := by
  subst hus
  refine wpList_append_own (W.alloc (.cells (labsV [l]).toArray e)) hgd s x t ho base e i z 2 32 ht hi hz hsize hby hzs (by omega) v ls.length (labsV ls) hs (World.ownsRow.alloc hown _) ⟨W.heap.size, 0, none⟩ 1 1 (labsV [l]) hx (by rw [labsV_len]; rfl) ?_ ?_ (by unfold maxLen; omega) (by omega) (by simp; omega) ?_
  · intro j y hy
    have e0 : (⟨W.heap.size, 0, none⟩ : Addr).add j = ⟨W.heap.size, j, none⟩ := by unfold Addr.add; split <;> simp_all
    rw [e0]
    rw [show (W.alloc (.cells (labsV [l]).toArray e)).cell? ⟨W.heap.size, j, none⟩ = _ from World.cell?_alloc_mark W (labsV [l]).toArray e (0, 0) j]
    simpa using hy
  · exact labsV_one _
  · intro v' w' hown' hg _
    refine h v' w' ?_ ⟨hg.os, hg.tape, hg.output, ?_, ?_⟩
    · unfold OwnL
      rw [labsV_app, List.length_append]
      exact hown'
    · have := hg.size; simp at this; omega
    · intro k hk hne
      rw [hg.block k (by simp; omega) hne]
      exact Below.heap_alloc W _ k hk


set_option maxHeartbeats 3200000 in
set_option maxRecDepth 100000 in
theorem rteBy_any (a : Option Addr) (c : Nat) (bs : List ByteArray) (w : World) (h : HasStrs w a c bs) (hn : bs.length ≤ 1048576) : Calls Tryz.prog 216 #[.slice a bs.length c] w (BoolB (rightC (byLabs bs)) w) := by
  obtain ⟨i0, hi, hz0, hz1, hz2⟩ := info_partsL Tryz.infoL
  have hsl : ∀ l ∈ byLabs bs, l.1.size ≤ maxLen ∧ l.2.size ≤ maxLen := fun l hl => by
    obtain ⟨b, hb, rfl⟩ := List.mem_map.1 hl
    exact ⟨h.2.2.1 b hb, by show (1 : Nat) ≤ maxLen; unfold maxLen; omega⟩
  obtain ⟨h1, h2, h3, h4⟩ := h
  unfold maxLen at h2
  rcases h4 with rfl | ⟨b, off, rfl, hb, hc⟩
  · have hR : rightC (byLabs []) = true := by decide
    rw [hR]
    have hq := right_any none 0 [] w (HasLabs.nil w none 0 (by unfold maxLen; omega))
    rw [show rightC [] = true by decide] at hq
    simp only [List.length_nil] at *
    have HQ := Lib.hid hq
    clear hq hR
    go_enter Tryz.func216, Tryz.ntmps216
    go_wp2_with fail
    refine wp_loop_rounds 1 ?_
    rw [rounds_succ]
    go_wp2_with (go_at_call 164; refine HQ.out.mono ?_; rintro e w2 ⟨rfl, hb2⟩)
    go_ret
    exact ⟨rfl, hb2⟩
  · have HC := Lib.hid hc
    have HS := Lib.hid hsl
    clear hc h3 hsl
    go_enter Tryz.func216, Tryz.ntmps216
    go_wp2_with fail
    go_loopg [8, 3, 5] bs.length (fun gg iv v _ wr => ∃ k : Nat, k + gg = bs.length ∧ iv = .int .i64 (k : Int) ∧ OwnL 152 wr w.heap.size v (byLabs (bs.take k)) ∧ Below w.heap.size w wr ∧ w.heap.size ≤ wr.heap.size)
    case atStart => exact ⟨0, by omega, rfl, OwnL.nil _ _ _, Below.refl _ _, Nat.le_refl _⟩
    case round =>
      obtain ⟨k, hkg, rfl, hown, hbl, hzl⟩ := hrel
      cases gk with
      | zero =>
        obtain rfl : k = bs.length := by omega
        rw [List.take_length] at hown
        obtain ⟨a', c', rfl, hh⟩ := hown.labs HS.out
        have hq := right_any a' c' (byLabs bs) wr hh
        have hbl2 := hbl
        generalize byLabs bs = L at *
        have HQ := Lib.hid hq
        have HBL := Lib.hid hbl2
        clear hq hown hh hbl hbl2 HS
        go_wp2_with (go_at_call 164; refine HQ.out.mono ?_; rintro e w2 ⟨rfl, hb2⟩)
        go_ret
        exact ⟨rfl, bthen HBL.out hb2⟩
      | succ gg =>
        have hkl : k < bs.length := by omega
        have c0 := cellL hbl (HC.out k hkl)
        have hts : byLabs (bs.take (k + 1)) = byLabs (bs.take k) ++ [(bs[k], ⟨#[118]⟩)] := by
          unfold byLabs
          rw [List.take_succ_eq_append_getElem hkl, List.map_append]; rfl
        have hll : (byLabs (bs.take k)).length ≤ 2000000 := by unfold byLabs; simp; omega
        have HTS := Lib.hid hts
        generalize byLabs (bs.take k) = M at *
        generalize bs[k] = s at *
        clear hts HS
        go_wp2_with (refine wpList_pushL2 wr (by rfl) (.tmp 12) (.tmp 15) 42 (by rfl) w.heap.size 152 i0 (.agg #[.string ⟨#[]⟩, .string ⟨#[]⟩]) Tryz.underlying42 hi hz0 hz1 hz2 rfl _ M (s, ⟨#[118]⟩) (by rfl) hown [.string s, .string ⟨#[118]⟩] rfl (by rfl) hll hzl ?_; intro v2 w2 hown2 hg2)
        have hb2 := hown.grown hbl hzl hg2
        have hz2' := Nat.le_trans hzl hg2.size
        go_roundg gg
        case measure => omega
        case rel => exact ⟨k + 1, by omega, by go_num, by rw [HTS.out]; exact hown2, hb2, hz2'⟩

/-! ### Words of hours -/
set_option maxHeartbeats 3200000 in
set_option maxRecDepth 100000 in
theorem rteMute_any (a : Option Addr) (c : Nat) (us : List ByteArray) (w : World) (h : HasStrs w a c us) : Calls Tryz.prog 218 #[.slice a us.length c] w (BoolB (muteC us) w) := by
  obtain ⟨h1, h2, h3, h4⟩ := h
  unfold maxLen at h2
  rcases h4 with rfl | ⟨b, off, rfl, hb, hc⟩
  · have hR : muteC [] = true := by decide
    rw [hR]
    simp only [List.length_nil] at *
    clear hR
    go_enter Tryz.func218, Tryz.ntmps218
    go_wp2_with fail
    refine wp_loop_rounds 1 ?_
    rw [rounds_succ]
    go_wp2_with fail
    go_ret
    exact ⟨rfl, Below.refl _ _⟩
  · obtain ⟨J, hJ, hgood, hend⟩ := mute_end us
    have hd8 : decide ((us.length : Int) ≤ 8) = decide (us.length ≤ 8) := by rw [Bool.eq_iff_iff]; simp; omega
    have hR : muteC us = (allU us && decide (us.length ≤ 8)) := rfl
    generalize decide (us.length ≤ 8) = D8 at *
    generalize muteC us = R at *
    have HG := Lib.hid hgood
    have HE := Lib.hid hend
    have HC := Lib.hid hc
    have HS := Lib.hid h3
    have HR := Lib.hid hR
    have H0 := Lib.hid (fun (h : 0 < us.length) => okU_zero us h)
    have H1 := Lib.hid (fun j (h : j + 1 < us.length) => okU_succ us j h)
    have HW := Lib.hid (fun s W (hs : s.size ≤ maxLen) => rteWord_any s W hs)
    clear hgood hend hc h3 hR
    go_enter Tryz.func218, Tryz.ntmps218
    go_wp2_with fail
    go_loopg [7, 3, 4] us.length (fun gg iv _ _ wr => ∃ k : Nat, k + gg = us.length ∧ k ≤ J ∧ iv = .int .i64 (k : Int) ∧ Below w.heap.size w wr)
    case atStart => exact ⟨0, by omega, Nat.zero_le _, rfl, Below.refl _ _⟩
    case round =>
      obtain ⟨k, hkg, hkJ, rfl, hbr⟩ := hrel
      cases gk with
      | zero =>
        obtain rfl : k = us.length := by omega
        obtain rfl : R = D8 := by
          rw [HR.out]
          rcases HE.out with ⟨_, e⟩ | ⟨hj, _⟩
          · rw [e]; rfl
          · omega
        have HBR := Lib.hid hbr
        clear hbr HR HE
        go_wp2_with fail
        go_ret
        exact ⟨by first | rfl | rw [hd8], HBR.out⟩
      | succ gg =>
        have hkl : k < us.length := by omega
        have c0 := cellL hbr (HC.out k hkl)
        have hq := HW.out us[k] wr (HS.out _ (List.getElem_mem hkl))
        have hgk : k < J → okU us k = true := fun h => HG.out k h
        have hjk : k = J → okU us k = false ∧ R = false := fun h => by
          rcases HE.out with ⟨e, _⟩ | ⟨hj, e, e2⟩
          · omega
          · subst h; exact ⟨e, by rw [HR.out, e2]; rfl⟩
        have HQ := Lib.hid hq
        have HBR := Lib.hid hbr
        clear hq
        cases k with
        | zero =>
          have hok := H0.out hkl
          simp only [Nat.add_zero] at c0
          generalize us[0] = s at *
          by_cases hk : 0 < J
          · have hs := hok.symm.trans (hgk hk)
            rw [hs] at HQ
            clear hgk hjk hok hs hbr HC HS HG HE HW H0 H1 HR
            go_wp2_with (go_at_call 214; refine HQ.out.mono ?_; rintro e w2 ⟨rfl, hb2⟩)
            go_roundg gg
            case measure => omega
            case rel => exact ⟨1, by omega, by omega, by go_num, bthen HBR.out hb2⟩
          · obtain ⟨e3, rfl⟩ := hjk (by omega)
            have hs := hok.symm.trans e3
            rw [hs] at HQ
            clear hgk hjk hok hs hbr HC HS HG HE HW H0 H1 HR
            go_wp2_with (go_at_call 214; refine HQ.out.mono ?_; rintro e w2 ⟨rfl, hb2⟩)
            go_ret
            exact ⟨rfl, bthen HBR.out hb2⟩
        | succ j =>
          have c1 := fun W (hW : Below wr.heap.size wr W) => cellL (bthen hbr hW) (HC.out j (by omega))
          have hok := H1.out j hkl
          have hlt := ltW_bytes us[j] us[j + 1]
          have e1 : ((j + 1 : Nat) : Int) = (j : Int) + 1 := by omega
          have e2 : IntKind.i64.wrap ((j : Int) + 1 - 1) = (j : Int) := by rw [IntWalk.i64_in _ (by omega)]; omega
          have e3 : (j : Int) + 1 - 1 = (j : Int) := by omega
          have e4 : (0 : Int) < (j : Int) + 1 := by omega
          have hjl : j < us.length := by omega
          generalize us[j + 1] = s at *
          generalize us[j] = p at *
          have C1 := Lib.hid c1
          have HGK := Lib.hid hgk
          have HJK := Lib.hid hjk
          have HOK := Lib.hid hok
          clear c1 hgk hjk hok hbr HC HS HG HE HW H0 H1 HR
          cases hbw : bwC s.data.toList with
          | false =>
            rw [hbw] at HQ HOK
            obtain ⟨_, rfl⟩ := HJK.out (by
              have : ¬ j + 1 < J := fun h => by have h1 := HOK.out; rw [HGK.out h] at h1; cases h1
              omega)
            clear hbw hlt
            go_wp2_with (go_at_call 214; refine HQ.out.mono ?_; rintro e w2 ⟨rfl, hb2⟩; have c2 := C1.out _ hb2)
            go_ret
            exact ⟨rfl, bthen HBR.out hb2⟩
          | true =>
            rw [hbw] at HQ HOK
            rw [Bool.true_and] at HOK
            clear hbw
            cases hl : ltW p s with
            | true =>
              rw [hl] at HOK hlt
              have hJ1 : j + 1 < J := by
                have : ¬ j + 1 = J := fun h => by have h1 := HOK.out; rw [(HJK.out h).1] at h1; cases h1
                omega
              clear hl HGK HJK HOK
              go_wp2_with (go_at_call 214; refine HQ.out.mono ?_; rintro e w2 ⟨rfl, hb2⟩; have c2 := C1.out _ hb2)
              go_roundg gg
              case measure => omega
              case rel => exact ⟨j + 2, by omega, by omega, by go_num, bthen HBR.out hb2⟩
            | false =>
              rw [hl] at HOK hlt
              obtain ⟨_, rfl⟩ := HJK.out (by
                have : ¬ j + 1 < J := fun h => by have h1 := HOK.out; rw [HGK.out h] at h1; cases h1
                omega)
              clear hl HGK HJK HOK
              go_wp2_with (go_at_call 214; refine HQ.out.mono ?_; rintro e w2 ⟨rfl, hb2⟩; have c2 := C1.out _ hb2)
              go_ret
              exact ⟨rfl, bthen HBR.out hb2⟩
end Go.Proofs.YtkgnapojkijbgaaGreatDoor
