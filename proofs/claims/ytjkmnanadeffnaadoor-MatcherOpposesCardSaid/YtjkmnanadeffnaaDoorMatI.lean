/- The contract of 'cut' of the statements of layer 4. -/
import Derived.Test.YtjkmnanadeffnaaDoorMatF
import Derived.Test.YtjkmnanadeffnaaDoorMatB
import Derived.Test.YtjkmnanadeffnaaDoorOwnS
import Derived.Laws.Rows
import Derived.Laws.Tables
import Derived.RegionTactic
import Derived.BigRegion
namespace Go.Proofs.YtjkmnanadeffnaaDoor
open Go.RowKit Go.Maps

def cutM (m : Mat) : Mat := ⟨cut70 m.name, m.how, (m.words.take 10).map cut70⟩
theorem cutM_words (m : Mat) : (cutM m).words.length ≤ 10 := by simp [cutM]; omega
theorem cutM_size (m : Mat) : ∀ s ∈ (cutM m).words, s.size ≤ 70 := by
  intro s hs
  obtain ⟨x, _, rfl⟩ := List.mem_map.1 hs
  exact cut70_size x
theorem run_min10 {P : Program} (w : World) (ts : Array TypeId) (t : TypeId) (x : Nat) : (Builtin.min_ ts t #[.int .i64 (x : Int), .int .i64 10]).run P w = .ok (.int .i64 ((min x 10 : Nat) : Int)) w := by
  simp [Builtin.min_, Builtin.min2]
  repeat' split
  all_goals omega
def MatPost (m : Mat) (w : World) (e : Ending) (w' : World) : Prop :=
  ∃ a c, e = .returned (.agg #[.string m.name, .int .i64 m.how, .slice a m.words.length c]) ∧ HasStrs w' a c m.words ∧ (∀ b o s, a = some ⟨b, o, s⟩ → w.heap.size < b) ∧ Below w.heap.size w w'
theorem cutM_name (m : Mat) : (cutM m).name.size ≤ maxLen := Nat.le_trans (cut70_size _) (by unfold maxLen; omega)

set_option maxHeartbeats 3200000 in
set_option maxRecDepth 100000 in
theorem cut_any (v : Value) (m : Mat) (w : World) (h : HasMat w v m) : Calls Tryd.prog 10 #[v] w (MatPost (cutM m) w) := by
  obtain ⟨a, c, rfl, hW, hs, hwf⟩ := h
  obtain ⟨i0, hi, hz0, hz1, hz2⟩ := info_parts Tryd.infoS
  have h2 := hW.2.1
  have h1 := hW.1
  unfold maxLen at h2 hs
  have HW := Lib.hid hW
  clear hW hwf
  go_enter Tryd.func10, Tryd.ntmps10
  go_upto_region 1 with fail
  have hB1 := (Blk.new w 25 #[.string m.name, .int .i64 m.how, .slice a m.words.length c]).alloc (.cells #[.string ⟨#[]⟩, .int .i64 0, .slice none 0 0] 25)
  have hB2 := Blk.new (w.alloc (.cells #[.string m.name, .int .i64 m.how, .slice a m.words.length c] 25)) 25 #[.string ⟨#[]⟩, .int .i64 0, .slice none 0 0]
  have hb0 := ((Below.refl _ w).alloc (Nat.le_refl _) (.cells #[.string m.name, .int .i64 m.how, .slice a m.words.length c] 25)).alloc (by simp) (.cells #[.string ⟨#[]⟩, .int .i64 0, .slice none 0 0] 25)
  have e1 : (w.alloc (.cells #[.string m.name, .int .i64 m.how, .slice a m.words.length c] 25)).heap.size = w.heap.size + 1 := by simp
  rw [e1] at hB2
  generalize (w.alloc (.cells #[.string m.name, .int .i64 m.how, .slice a m.words.length c] 25)).alloc (.cells #[.string ⟨#[]⟩, .int .i64 0, .slice none 0 0] 25) = wx at *
  have HB1 := Lib.hid hB1
  have HB2 := Lib.hid hB2
  have HB0 := Lib.hid hb0
  clear hB1 hB2 hb0 e1
  go_cut [3] (fun p wy => ∃ g, p = .pointer (some ⟨g, 0, none⟩) ∧ w.heap.size + 1 < g ∧ Blk wy g 25 #[.string (cut70 m.name), .int .i64 m.how, .slice none 0 0] ∧ Blk wy w.heap.size 25 #[.string m.name, .int .i64 m.how, .slice a m.words.length c] ∧ Blk wy (w.heap.size + 1) 25 #[.string ⟨#[]⟩, .int .i64 0, .slice none 0 0] ∧ Below w.heap.size w wy)
  case first =>
    obtain ⟨c0, c1, c2⟩ := HB1.out.cells3
    have c0a := fun o => (HB1.out.alloc o).drew.cells3.1
    have c1a := fun o => (HB1.out.alloc o).drew.cells3.2.1
    have hm1 := fun W => run_min70 (P := Tryd.prog) W #[3, 3] 3 m.name.size
    have hs1 := fun W => run_cut70 (P := Tryd.prog) W 9 m.name Tryd.underlying9
    generalize cut70 m.name = Y at *
    generalize min m.name.size 70 = m1 at *
    go_region
    all_goals
      go_wp2_with fail
      go_meet
      exact ⟨_, rfl, HB2.out.lt, (Blk.new _ _ _).drew, (HB1.out.alloc _).drew, (HB2.out.alloc _).drew, (HB0.out.alloc HB0.out.size _).drew⟩
  case rest =>
    obtain ⟨g, rfl, hgw, hg, hB1, hB2, hb⟩ := hcut
    clear HB0
    obtain ⟨c0, c1, c2⟩ := hB1.cells3
    have HG := Lib.hid hg
    have HB3 := Lib.hid hB2
    have HB4 := Lib.hid hb
    have HGW := Lib.hid hgw
    have hgs := hg.lt
    have HGS := Lib.hid hgs
    clear HB1 HB2 hg hB1 hB2 hb hgw hgs hs
    have hmn := fun W (t : TypeId) (ts : Array TypeId) => run_min10 (P := Tryd.prog) W ts t m.words.length
    have hcs : ∀ k, (m.words.take (k + 1)).map cut70 = (m.words.take k).map cut70 ++ (if h : k < m.words.length then [cut70 m.words[k]] else []) := by
      intro k
      by_cases h : k < m.words.length
      · rw [List.take_succ_eq_append_getElem h, List.map_append, dif_pos h]; rfl
      · rw [dif_neg h, List.take_of_length_le (by omega), List.take_of_length_le (by omega)]; simp
    have HCS := Lib.hid hcs
    have hsz : ∀ k, ∀ s ∈ (m.words.take k).map cut70, s.size ≤ maxLen := by
      intro k s hs
      obtain ⟨x, _, rfl⟩ := List.mem_map.1 hs
      have := cut70_size x
      unfold maxLen; omega
    have HSZ := Lib.hid hsz
    clear hcs hsz
    go_upto_region 3 with fail
    go_loopw [24] (fun i wr => ∃ (k : Nat) (p : Option Addr) (q : Nat), k ≤ min m.words.length 10 ∧ i = .int .i64 k ∧ Blk wr g 25 #[.string (cut70 m.name), .int .i64 m.how, .slice p k q] ∧ OwnS 9 wr wc.heap.size (.slice p k q) ((m.words.take k).map cut70) ∧ Blk wr (w.heap.size + 1) 25 #[.string ⟨#[]⟩, .int .i64 0, .slice none 0 0] ∧ Below w.heap.size w wr ∧ wc.heap.size ≤ wr.heap.size) (fun i _ => 10 - (intOf i).toNat)
    case atStart => exact ⟨0, none, 0, Nat.zero_le _, rfl, HG.out, OwnS.nil _ _ _, HB3.out, HB4.out, Nat.le_refl _⟩
    case round =>
      obtain ⟨k, p, q, hk, rfl, hg, hown, hr, hb, hz⟩ := hrel
      by_cases hkl : k < min m.words.length 10
      · have hki : (k : Int) < ((min m.words.length 10 : Nat) : Int) := by omega
        have hkw : k < m.words.length := by omega
        obtain ⟨_, _, h3, h4⟩ := HW.out.call hb
        rcases h4 with h4 | ⟨b, off, rfl, hbb, hcell⟩
        · rw [h4] at hkw; simp at hkw
        have hc := hcell k hkw
        have hts := HCS.out k
        rw [dif_pos hkw] at hts
        have hsx := h3 _ (List.getElem_mem hkw)
        obtain ⟨X, hX⟩ : ∃ X, m.words[k] = X := ⟨_, rfl⟩
        rw [hX] at hc hts hsx
        have HTS := Lib.hid hts
        have hll : ((m.words.take k).map cut70).length ≤ 1000000 := by simp; omega
        have hlk : ((m.words.take k).map cut70).length = k := by simp; omega
        have HSK := Lib.hid (HSZ.out (k + 1))
        obtain ⟨M, HM⟩ : ∃ M, Hid ((m.words.take k).map cut70 = M) := ⟨_, Lib.hid rfl⟩
        rw [HM.out] at hown hll HTS hlk
        rw [HTS.out] at HSK
        have HLK := Lib.hid hlk
        clear hts hX hcell h3 hbb hlk
        have hs1 := fun W => run_cut70 (P := Tryd.prog) W 9 X Tryd.underlying9
        have hm1 := fun W => run_min70 (P := Tryd.prog) W #[3, 3] 3 X.size
        unfold maxLen at hsx
        go_upto_region 5 with fail
        generalize cut70 X = Y at *
        generalize min X.size 70 = m1 at *
        have hne : some g ≠ (Value.slice p k q).ownBlock := hown.ne HGS.out
        have hne2 : some (w.heap.size + 1) ≠ (Value.slice p k q).ownBlock := hown.ne (by have := HGS.out; have := HGW.out; omega)
        have hgD : Blk wr.drew g 25 _ := hg
        have hownD : OwnS 9 wr.drew wc.heap.size _ M := hown
        have hzD : wc.heap.size ≤ wr.drew.heap.size := hz
        have HR := Lib.hid hr
        have HB := Lib.hid hb
        have q2 := hgD.cells3.2.2
        have q2a := fun o => (Blk.alloc hg o).cells3.2.2
        clear hr hb
        go_region_law (refine step_pushS wr.drew (by rfl) (.tmp 29) (.tmp 35) 23 (by rfl) wc.heap.size 9 i0 (.string ⟨#[]⟩) Tryd.underlying23 hi hz0 hz1 hz2 rfl (.slice p k q) M Y (by rfl) hownD wr.heap.size (by rfl) rfl hll hzD ?_; intro v2 w2 hown2 hg2; have hk2 := hgD.push hg2 hne; obtain ⟨p2, qq2, rfl, _⟩ := hown2.strs HSK.out; obtain ⟨x0, x1, x2⟩ := hk2.cells3; have f2 := hk2.frozen 2)
        all_goals
          have hb2 := hownD.grown HB.out.drew HB4.out.size HB.out.size hg2
          have hr2 := HR.out.drew.push hg2 hne2
          have hz2 := Nat.le_trans hzD hg2.size
          have hl1 : (M ++ [Y]).length = k + 1 := by rw [List.length_append, HLK.out]; rfl
          rw [hl1] at hown2
          have HK2 := Lib.hid hk2
          have HO2 := Lib.hid hown2
          have HR2 := Lib.hid hr2
          clear hl1 hown2 hr2 hk2 hg2 hgD hownD hzD q2 q2a hne hne2 hs1 hm1 x0 x1 x2 f2
          go_wp2_with fail
          go_roundw
          case rel =>
            rw [HLK.out]
            exact ⟨k + 1, p2, qq2, by omega, by go_num, HK2.out.set 2 _, by rw [HTS.out]; exact HO2.out.setCell HGS.out 2 _, HR2.out.setO _ _ (by have := HGW.out; show w.heap.size + 1 ≠ g; omega), hb2.setCell (by have := HGW.out; show w.heap.size ≤ g; omega) _, by simpa [World.setCell] using hz2⟩
          case measure => simp [intOf]; omega
      · obtain rfl : k = min m.words.length 10 := by omega
        have htk : (m.words.take (min m.words.length 10)).map cut70 = (m.words.take 10).map cut70 := by
          congr 1
          by_cases h : m.words.length ≤ 10
          · rw [Nat.min_eq_left h, List.take_of_length_le (Nat.le_refl _), List.take_of_length_le h]
          · rw [Nat.min_eq_right (by omega)]
        have hlt : w.heap.size + 1 < wc.heap.size := by have := HGW.out; have := HGS.out; omega
        have hlen : ((m.words.take 10).map cut70).length = min m.words.length 10 := by simp; omega
        rw [htk] at hown
        have hownE := ((hown.setCell hlt 0 (.string (cut70 m.name))).setCell hlt 1 (.int .i64 m.how)).setCell hlt 2 (.slice p (min m.words.length 10) q)
        obtain ⟨p', q', e, hh⟩ := hownE.strs (HSZ.out 10)
        obtain ⟨rfl, rfl⟩ : p = p' ∧ q = q' := by
          simp only [Value.slice.injEq] at e
          exact ⟨e.1, e.2.2⟩
        obtain ⟨x0, x1, x2⟩ := hg.cells3
        obtain ⟨y0, y1, y2⟩ := hr.cells3
        have f0 := hr.frozen 0
        have f1 := hr.frozen 1
        have f2 := hr.frozen 2
        have HFR : Hid (∀ b o s, p = some ⟨b, o, s⟩ → w.heap.size < b) := Lib.hid (fun b o s e => by
          subst e
          rcases hown.2 with ⟨e2, _⟩ | ⟨g2, cap2, cur2, e2, hb2, _⟩
          · cases e2
          · simp only [Value.slice.injEq, Option.some.injEq, Addr.mk.injEq] at e2
            omega)
        have HH := Lib.hid hh
        have HLN := Lib.hid hlen
        have HR3 := Lib.hid (hr.set3 (.string (cut70 m.name)) (.int .i64 m.how) (.slice p (min m.words.length 10) q))
        have HE := Lib.hid (below_set3 hb (show w.heap.size ≤ w.heap.size + 1 by omega) (.string (cut70 m.name)) (.int .i64 m.how) (.slice p (min m.words.length 10) q))
        have hki : ¬ ((min m.words.length 10 : Nat) : Int) < ((min m.words.length 10 : Nat) : Int) := by omega
        clear hh hlen e hownE hown hg hr hb htk hlt hkl
        go_wp2_with fail
        refine bodyPost_ret (v := .agg #[.string (cut70 m.name), .int .i64 m.how, .slice p (min m.words.length 10) q]) ?_ rfl ⟨p, q, by rw [← HLN.out]; rfl, HH.out, HFR.out, HE.out⟩
        refine (results_cell_row rfl _ _ (w.heap.size + 1) _ #[.string (cut70 m.name), .int .i64 m.how, .slice p (min m.words.length 10) q] _ _ ?_ HR3.out Tryd.underlying25 rfl (by kernel_rfl)).trans ?_
        · rfl
        · rfl
end Go.Proofs.YtjkmnanadeffnaaDoor
