/- The contract of the document's own Parse of layer 6. -/
import Derived.Test.YtekcmgajjbdmgabDoorRpsH
import Derived.Outline
namespace Go.Proofs.YtekcmgajjbdmgabDoor
open Go.RowKit

def RParP (r : List Dfn × Int × Int) (w : World) (e : Ending) (w' : World) : Prop :=
  ∃ a c, e = .returned (.agg #[.slice a r.1.length c, .int .i64 r.2.1, .int .i64 r.2.2]) ∧ HasDefs w' a c r.1 ∧ Below w.heap.size w w'

set_option maxHeartbeats 25600000 in
set_option maxRecDepth 100000 in
theorem rParse_any (s : ByteArray) (w : World) (hs : s.size ≤ 9000) : Calls Tryd.prog 10 #[.string s] w (RParP (parseB s.data.toList) w) := by
  have hl := lenB s
  have hkR := Blk.new w 27 #[.slice none 0 0, .int .i64 0, .int .i64 0]
  have hb0 := (Below.refl w.heap.size w).alloc (Nat.le_refl _) (.cells #[.slice none 0 0, .int .i64 0, .int .i64 0] 27)
  by_cases h8 : s.size ≤ 8192
  case neg =>
    have hp : parseB s.data.toList = ([], 2, 0) := by unfold parseB; rw [if_pos (by omega)]
    rw [hp]
    have h8i : (8192 : Int) < (s.size : Int) := by omega
    obtain ⟨c0, c1, c2⟩ := hkR.cells3
    have f0 := hkR.frozen 0
    have f1 := hkR.frozen 1
    have f2 := hkR.frozen 2
    clear hp hl
    go_enter Tryd.func10, Tryd.ntmps10
    go_wp2_with fail
    refine bodyPost_ret (v := .agg #[.slice none 0 0, .int .i64 2, .int .i64 0]) ?_ rfl ⟨none, 0, rfl, HasDefs.nil _ _ _ (by unfold maxLen; omega), (Below.refl _ _).alloc (Nat.le_refl _) _⟩
    refine (results_cell_S rfl _ _ w.heap.size _ #[.slice none 0 0, .int .i64 2, .int .i64 0] _ _ ?_ (Blk.new w 27 #[.slice none 0 0, .int .i64 2, .int .i64 0]) Tryd.underlying27 rfl (by kernel_rfl)).trans ?_
    · rfl
    · rfl
  case pos =>
  have h8i : ¬ (8192 : Int) < (s.size : Int) := by omega
  have hkR2 := hkR.alloc (.cells #[.slice none 0 0, .bool false, .bool true] 57)
  have hkS := Blk.new (w.alloc (.cells #[.slice none 0 0, .int .i64 0, .int .i64 0] 27)) 57 #[.slice none 0 0, .bool false, .bool true]
  rw [show (w.alloc (.cells #[.slice none 0 0, .int .i64 0, .int .i64 0] 27)).heap.size = w.heap.size + 1 by simp] at hkS
  have hb1 := hb0.alloc (by simp) (.cells #[.slice none 0 0, .bool false, .bool true] 57)
  have hz1 : ((w.alloc (.cells #[.slice none 0 0, .int .i64 0, .int .i64 0] 27)).alloc (.cells #[.slice none 0 0, .bool false, .bool true] 57)).heap.size = w.heap.size + 2 := by simp
  go_enter Tryd.func10, Tryd.ntmps10
  go_upto_region 7 with fail
  generalize (w.alloc (.cells #[.slice none 0 0, .int .i64 0, .int .i64 0] 27)).alloc (.cells #[.slice none 0 0, .bool false, .bool true] 57) = w1 at *
  go_loopg [6, 4, 5, 7] s.size (fun gg iv nv fv _ wr => ∃ (i : Nat) (ls : List Bs) (r : Bs) (frm : Nat) (st : PSt) (v : Value), i + gg = s.size ∧ iv = .int .i64 (i : Int) ∧ nv = .int .i64 ((ls.length : Int) + 1) ∧ fv = .int .i64 (frm : Int) ∧ AtByte s.data.toList i ls r frm st ∧ Blk wr (w.heap.size + 1) 57 #[v, .bool st.2, .bool true] ∧ Blk wr w.heap.size 27 #[.slice none 0 0, .int .i64 0, .int .i64 0] ∧ SAt wr (w.heap.size + 2) v st.1 ∧ Below w.heap.size w wr)
  case atStart => exact ⟨0, [], [], 0, ([], false), _, by omega, rfl, rfl, rfl, atByte_start _, hkS, hkR2, SAt.start (by omega), hb1⟩
  case round =>
    obtain ⟨i, ls, r, frm, st, v, hig, rfl, rfl, rfl, hat, hS, hR, hsat, hb⟩ := hrel
    have hfrm : frm + r.length = i := hat.2.2.1
    have hlsl : ls.length ≤ 9000 := by
      have e := (lines_len (s.data.toList.take i)).2.2
      rw [hat.1] at e
      simp only at e
      have h2 : (s.data.toList.take i).count 10 ≤ (s.data.toList.take i).length := List.count_le_length
      rw [List.length_take] at h2
      omega
    cases gk with
    | zero =>
      obtain rfl : i = s.size := by omega
      have hend := atByte_end (l := s.data.toList) (ls := ls) (r := r) (frm := frm) (st := st) (by rw [hl]; exact hat) (by omega)
      obtain ⟨c0, c1, c2⟩ := hR.cells3
      obtain ⟨d0, d1, d2⟩ := hS.cells3
      have f0 := hR.frozen 0
      have f1 := hR.frozen 1
      have f2 := hR.frozen 2
      by_cases hr : r = []
      case neg =>
        rw [if_pos (.inl hr)] at hend
        have hlt : (frm : Int) < (s.size : Int) := by
          have : 0 < r.length := List.length_pos_iff.2 hr
          omega
        clear hr hat
        have HE := Lib.hid hend
        clear hend
        go_wp2_with fail
        refine bodyPost_ret (v := .agg #[.slice none 0 0, .int .i64 250, .int .i64 ((ls.length : Int) + 1)]) ?_ rfl (by rw [HE.out]; exact ⟨none, 0, rfl, HasDefs.nil _ _ _ (by unfold maxLen; omega), below_set3 hb (Nat.le_refl _) _ _ _⟩)
        refine (results_cell_S rfl _ _ w.heap.size _ #[.slice none 0 0, .int .i64 250, .int .i64 ((ls.length : Int) + 1)] _ _ ?_ (hR.set3 _ _ _) Tryd.underlying27 rfl (by kernel_rfl)).trans ?_
        · rfl
        · rfl
      case pos =>
        subst hr
        obtain ⟨ds, op⟩ := st
        have hlt : ¬ (frm : Int) < (s.size : Int) := by simp at hfrm; omega
        have HE := Lib.hid hend
        clear hend hat
        cases op with
        | true =>
          have hE2 : parseB s.data.toList = ([], 250, (ls.length : Int) + 1) := by rw [HE.out, if_pos (.inr rfl)]
          have HE2 := Lib.hid hE2
          clear hE2
          go_wp2_with fail
          refine bodyPost_ret (v := .agg #[.slice none 0 0, .int .i64 250, .int .i64 ((ls.length : Int) + 1)]) ?_ rfl (by rw [HE2.out]; exact ⟨none, 0, rfl, HasDefs.nil _ _ _ (by unfold maxLen; omega), below_set3 hb (Nat.le_refl _) _ _ _⟩)
          refine (results_cell_S rfl _ _ w.heap.size _ #[.slice none 0 0, .int .i64 250, .int .i64 ((ls.length : Int) + 1)] _ _ ?_ (hR.set3 _ _ _) Tryd.underlying27 rfl (by kernel_rfl)).trans ?_
          · rfl
          · rfl
        | false =>
          have hE2 : parseB s.data.toList = (ds, 0, 0) := by rw [HE.out, if_neg (by simp)]
          have HE2 := Lib.hid hE2
          obtain ⟨a, c, rfl, _⟩ := hsat.defs
          have hsf := ((hsat.setT hR (by decide) (by decide) 0 (.slice a ds.length c)).setT (hR.set 0 (.slice a ds.length c)) (by decide) (by decide) 1 (.int .i64 0)).setT ((hR.set 0 (.slice a ds.length c)).set 1 (.int .i64 0)) (by decide) (by decide) 2 (.int .i64 0)
          obtain ⟨a', c', e', hdf⟩ := hsf.defs
          simp only [Value.slice.injEq] at e'
          obtain ⟨rfl, _, rfl⟩ := e'
          have HDF := Lib.hid hdf
          clear hE2 hsf hdf hsat
          go_wp2_with fail
          refine bodyPost_ret (v := .agg #[.slice a ds.length c, .int .i64 0, .int .i64 0]) ?_ rfl (by rw [HE2.out]; exact ⟨a, c, rfl, HDF.out, below_set3 hb (Nat.le_refl _) _ _ _⟩)
          refine (results_cell_S rfl _ _ w.heap.size _ #[.slice a ds.length c, .int .i64 0, .int .i64 0] _ _ ?_ (hR.set3 _ _ _) Tryd.underlying27 rfl (by kernel_rfl)).trans ?_
          · rfl
          · rfl
    | succ gg =>
      have hi : i < s.size := by omega
      have hil : i < s.data.toList.length := by omega
      have hg : s.data.toList[i] = s[i] := rfl
      obtain ⟨n, hn⟩ : ∃ n, s[i].toNat = n := ⟨_, rfl⟩
      by_cases hc : s.data.toList[i] = 10
      case neg =>
        have f1 : ((n : Int) != 10) = true := by
          rw [bne_iff_ne]
          intro h
          apply hc
          rw [hg]
          exact UInt8.toNat_inj.1 (by rw [hn]; show n = 10; omega)
        have HAT := Lib.hid (atByte_on hat hil hc)
        clear hat hc hg
        go_wp2_with fail
        go_roundg gg
        case measure => omega
        case rel => exact ⟨i + 1, ls, _, frm, st, v, by omega, by go_num, rfl, rfl, HAT.out, hS, hR, hsat, hb⟩
      case pos =>
        have f1 : ((n : Int) != 10) = false := by
          have : n = 10 := by rw [← hn, ← hg, hc]; rfl
          rw [this]; rfl
        have hsl := fun W => run_sliceMid (P := Tryd.prog) W 9 s frm i Tryd.underlying9 (by omega) (by omega)
        obtain ⟨X, hX⟩ : ∃ X, s.extract frm i = X := ⟨_, rfl⟩
        have hXl : X.data.toList = r := by
          rw [← hX, ← hat.2.2.2.1, ByteArray.data_extract, Array.toList_extract, List.drop_take]
        have hXs : X.size ≤ 9000 := by rw [← lenB, hXl]; omega
        rw [hX] at hsl
        have hbk := fun W => rBlank_any X W (by unfold maxLen; omega)
        rw [hXl] at hbk
        have hgood : Good st := hat.2.2.2.2
        have HBK := Lib.hid hbk
        have HAT := Lib.hid hat
        have HC := Lib.hid hc
        clear hX hbk hat hc hg
        obtain ⟨d0, d1, d2⟩ := hS.cells3
        cases hbl : blankL r with
        | true =>
          rw [hbl] at HBK
          have HL := Lib.hid (atByte_line HAT.out hil HC.out (stepL_blank hbl))
          clear hbl
          go_wp2_with (go_at_call 27; (with_reducible refine (HBK.out _).mono ?_); rintro e w4 ⟨rfl, rfl⟩)
          go_roundg gg
          case measure => omega
          case rel => exact ⟨i + 1, _, [], i + 1, st, v, by omega, by go_num, by rw [List.length_append, List.length_singleton]; go_num, by go_num, HL.out, hS, hR, hsat, hb⟩
        | false =>
          rw [hbl] at HBK
          have hB : w.heap.size + 2 ≤ wr.heap.size := by obtain ⟨_, _, _, _, h4, h5, _⟩ := hsat; omega
          have hline := line_any (w.heap.size + 2) st v X wr hsat hgood hXs
          rw [hXl] at hline
          have HSL := Lib.hid (stepL_line (st := st) hbl)
          have HLINE := Lib.hid hline
          clear hbl hline hgood hXl
          go_upto_region 13 with (go_at_call 27; (with_reducible refine (HBK.out _).mono ?_); rintro e w4 ⟨rfl, rfl⟩)
          go_upto_region 14 with (go_at_call 28; (with_reducible refine HLINE.out.mono ?_); rintro e w5 ⟨a5, n5, c5, op5, ok5, rfl, hb5, hres⟩; have hS5 := hS.below hb5 (by omega); obtain ⟨c0, c1, c2⟩ := hS5.cells3; have f0 := hS5.frozen 0; have f1 := hS5.frozen 1; have f2 := hS5.frozen 2)
          have hS6 := hS5.set3 (.slice a5 n5 c5) (.bool op5) (.bool ok5)
          have hR6 := (((hR.below hb5 (by omega)).setO ⟨w.heap.size + 1, 0, none⟩ (.slice a5 n5 c5) (by simp)).setO ⟨w.heap.size + 1, 1, none⟩ (.bool op5) (by simp)).setO ⟨w.heap.size + 1, 2, none⟩ (.bool ok5) (by simp)
          have hb6 := below_set3 (hb.trans (hb5.mono (by omega))) (Nat.le_succ w.heap.size) (.slice a5 n5 c5) (.bool op5) (.bool ok5)
          have hsat6 : ∀ ds, SAt w5 (w.heap.size + 2) (.slice a5 n5 c5) ds → SAt (((w5.setCell ⟨w.heap.size + 1, 0, none⟩ (.slice a5 n5 c5)).setCell ⟨w.heap.size + 1, 1, none⟩ (.bool op5)).setCell ⟨w.heap.size + 1, 2, none⟩ (.bool ok5)) (w.heap.size + 2) (.slice a5 n5 c5) ds := fun ds h => h.set3 hS5 _ _ _
          generalize ((w5.setCell ⟨w.heap.size + 1, 0, none⟩ (.slice a5 n5 c5)).setCell ⟨w.heap.size + 1, 1, none⟩ (.bool op5)).setCell ⟨w.heap.size + 1, 2, none⟩ (.bool ok5) = w6 at *
          clear c0 c1 c2 f0 f1 f2 d0 d1 d2
          obtain ⟨d0, d1, d2⟩ := hS6.cells3
          rcases hres with ⟨hno, rfl⟩ | ⟨st', hyes, rfl, rfl, hs'⟩
          · have hE := atByte_bad HAT.out hil HC.out (HSL.out.trans hno) (by omega)
            have HE := Lib.hid hE
            clear hE hno
            obtain ⟨c0, c1, c2⟩ := hR6.cells3
            have f0 := hR6.frozen 0
            have f1 := hR6.frozen 1
            have f2 := hR6.frozen 2
            go_wp2_with fail
            refine bodyPost_ret (v := .agg #[.slice none 0 0, .int .i64 250, .int .i64 ((ls.length : Int) + 1)]) ?_ rfl (by rw [HE.out]; exact ⟨none, 0, rfl, HasDefs.nil _ _ _ (by unfold maxLen; omega), below_set3 hb6 (Nat.le_refl _) _ _ _⟩)
            refine (results_cell_S rfl _ _ w.heap.size _ #[.slice none 0 0, .int .i64 250, .int .i64 ((ls.length : Int) + 1)] _ _ ?_ (hR6.set3 _ _ _) Tryd.underlying27 rfl (by kernel_rfl)).trans ?_
            · rfl
            · rfl
          · have HL := Lib.hid (atByte_line HAT.out hil HC.out (HSL.out.trans hyes))
            have HS6 := Lib.hid (hsat6 _ hs')
            clear hyes hs' hsat6
            go_wp2_with fail
            go_roundg gg
            case measure => omega
            case rel => exact ⟨i + 1, _, [], i + 1, st', _, by omega, by go_num, by rw [List.length_append, List.length_singleton]; go_num, by go_num, HL.out, hS6, hR6, HS6.out, hb6⟩
end Go.Proofs.YtekcmgajjbdmgabDoor
