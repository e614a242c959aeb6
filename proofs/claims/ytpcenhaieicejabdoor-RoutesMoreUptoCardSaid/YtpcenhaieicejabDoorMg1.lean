/- The contract of the statements' own count of routes. -/
import Derived.Test.YtpcenhaieicejabDoorRteA
import Derived.Outline
import Derived.Test.YtpcenhaieicejabDoorLabF
namespace Go.Proofs.YtpcenhaieicejabDoor
open Go.RowKit

def ManyP (q : RtAt) (m : Nat) (w : World) (e : Ending) (w' : World) : Prop :=
  ∃ z : Nat, e = .returned (.int .i64 (z : Int)) ∧ 1 ≤ z ∧ z ≤ m + 1 ∧ (z ≤ m → z = q.n.count) ∧ Below w.heap.size w w'

set_option maxHeartbeats 6400000 in
set_option maxRecDepth 100000 in
theorem many_any {w0 : World} {q : RtAt} (h : q.ok w0) : ∀ (w : World) (m : Nat), Below w0.heap.size w0 w → m ≤ 1000 → Calls Tryd.prog 7 #[.agg (tCells q), .int .i64 (m : Int)] w (ManyP q m w) := by
  induction h with
  | flat q h0 h1 =>
    intro w m _ hm
    have hb := (Below.refl w.heap.size w).alloc (Nat.le_refl _) (.cells (tCells q) 26)
    have hB := Blk.new w 26 (tCells q)
    have hc : q.n.count = 1 := by rw [Rt.count_eq, h1]; rfl
    have hz : q.n.kids.length = 0 := by rw [h1]; rfl
    have HB := Lib.hid hb
    have HC := Lib.hid hc
    have HZ := Lib.hid hz
    clear hb hc h0 h1 hz
    obtain ⟨n, ma, mc, ba, bc, ua, uc, ka, kc⟩ := q
    simp only [tCells] at *
    go_enter Tryd.func7, Tryd.ntmps7
    go_upto_region 1 with fail
    generalize w.alloc (.cells #[.string n.recv, .slice ma n.ms.length mc, .slice ba n.bys.length bc, .int .i64 n.wait, .int .i64 n.every, .int .i64 n.rep, .slice ua n.mute.length uc, .bool n.on, .slice ka n.kids.length kc] 26) = wx at *
    obtain ⟨c0, c1, c2, c3, c4, c5, c6, c7, c8⟩ := hB.cells9
    have hz := HZ.out
    go_wp2_with fail
    refine wp_loop_rounds 1 ?_
    rw [rounds_succ]
    go_wp2_with fail
    go_ret
    exact ⟨1, rfl, by omega, by omega, fun _ => HC.out.symm, HB.out⟩
  | row q b off R h0 h1 h2 h3 h4 h5 ih =>
    intro w m hw hm
    have hb := (Below.refl w.heap.size w).alloc (Nat.le_refl _) (.cells (tCells q) 26)
    have hB := Blk.new w 26 (tCells q)
    have hl := h0.2
    have H3 := Lib.hid h3
    have H4 := Lib.hid h4
    have IH := Lib.hid ih
    have HB := Lib.hid hb
    have HW := Lib.hid hw
    have hcnt := Rt.count_eq q.n
    have HCN := Lib.hid hcnt
    clear h0 h2 h3 h4 h5 ih hw hcnt
    obtain ⟨n, ma, mc, ba, bc, ua, uc, ka, kc⟩ := q
    simp only [tCells] at *
    subst h1
    unfold maxLen at hl
    have lic := hl.1
    have lic2 := hl.2
    go_enter Tryd.func7, Tryd.ntmps7
    go_upto_region 1 with fail
    have HW1 := Lib.hid (HW.out.trans (hb.mono HW.out.size))
    generalize w.alloc (.cells #[.string n.recv, .slice ma n.ms.length mc, .slice ba n.bys.length bc, .int .i64 n.wait, .int .i64 n.every, .int .i64 n.rep, .slice ua n.mute.length uc, .bool n.on, .slice (some ⟨b, off, none⟩) n.kids.length kc] 26) = wx at *
    obtain ⟨c0, c1, c2, c3, c4, c5, c6, c7, c8⟩ := hB.cells9
    clear hb
    go_wp2_with fail
    go_loopg [11, 5, 7] n.kids.length (fun gg iv kv _ wr => ∃ k z : Nat, k + gg = n.kids.length ∧ iv = .int .i64 k ∧ kv = .int .i64 z ∧ 1 ≤ z ∧ z ≤ m + 1 ∧ (z ≤ m → z = 1 + countRs (n.kids.take k)) ∧ Below wx.heap.size wx wr)
    case atStart => exact ⟨0, 1, by omega, rfl, rfl, by omega, by omega, fun _ => by simp [countRs], Below.refl _ _⟩
    case round =>
      obtain ⟨k, z, hkg, rfl, rfl, hz1, hzm, hzc, hbr⟩ := hrel
      have HZ := Lib.hid hzc
      have HBR := Lib.hid hbr
      clear hzc hbr
      cases gk with
      | zero =>
        obtain rfl : k = n.kids.length := by omega
        go_wp2_with fail
        go_ret
        exact ⟨z, rfl, by omega, by omega, fun h => by rw [HCN.out, HZ.out h, List.take_length], bthen HB.out HBR.out⟩
      | succ gg =>
        have hkl : k < n.kids.length := by omega
        have hrn := H3.out k hkl
        have hrl := (H4.out k hkl).call (HW1.out)
        obtain ⟨e0, e1, e2, e3, e4, e5, e6, e7, e8⟩ := hrl.call HBR.out
        have hct := countRs_take n.kids k hkl
        rw [← hrn] at hct
        have hih := IH.out k hkl (wr.alloc (.cells (tCells (R k)) 26)) (m - z) (HW1.out.trans ((HBR.out.mono HW1.out.size).trans (((Below.refl wr.heap.size wr).alloc (Nat.le_refl _) _).mono (Nat.le_trans HW1.out.size HBR.out.size)))) (by omega)
        have hbn := (Below.refl wr.heap.size wr).alloc (Nat.le_refl _) (.cells (tCells (R k)) 26)
        obtain ⟨f0, f1, f2, f3, f4, f5, f6, f7, f8⟩ := (Blk.new wr 26 (tCells (R k))).cells9
        have HIH := Lib.hid hih
        have HBN := Lib.hid hbn
        have HCT := Lib.hid hct
        clear hrn hrl hct hih hbn H3 H4 IH
        generalize R k = r at *
        obtain ⟨r, ma', mc', ba', bc', ua', uc', ka', kc'⟩ := r
        simp only [tCells] at *
        by_cases hzm2 : z ≤ m
        case neg =>
          go_wp2_with fail
          go_ret
          exact ⟨z, rfl, by omega, by omega, fun h => by omega, bthen HB.out (bthen HBR.out HBN.out)⟩
        case pos =>
          have hsub : ((m - z : Nat) : Int) = (m : Int) - (z : Int) := by omega
          rw [hsub] at HIH
          clear hsub
          go_wp2_with (go_at_call 7; refine HIH.out.mono ?_; rintro e w3 ⟨y, rfl, hy1, hy2, hy3, hb3⟩)
          go_roundg gg
          case measure => omega
          case rel => exact ⟨k + 1, z + y, by omega, by go_num, by go_num, by omega, by omega, fun h => by rw [HCT.out, ← hy3 (by omega)]; have := HZ.out hzm2; omega, bthen HBR.out (bthen HBN.out hb3)⟩
end Go.Proofs.YtpcenhaieicejabDoor
/- The contract of the few of layer 9. -/
namespace Go.Proofs.YtpcenhaieicejabDoor
open Go.RowKit

/-- labels at a place that is new since w -/
def LabsF (ls : List Lab) (w : World) (e : Ending) (w' : World) : Prop := ∃ a c, e = .returned (.slice a ls.length c) ∧ HasLabs w' a c ls ∧ (∀ b o s, a = some ⟨b, o, s⟩ → w.heap.size ≤ b) ∧ Below w.heap.size w w'
theorem own_fresh {T : TypeId} {w : World} {base n c : Nat} {a : Option Addr} {ls : List Lab} (h : OwnL T w base (.slice a n c) ls) : ∀ b o s, a = some ⟨b, o, s⟩ → base ≤ b := by
  intro b o s e
  subst e
  rcases h.2 with ⟨e2, _⟩ | ⟨g2, cap2, cur2, e2, hb2, _⟩
  · cases e2
  · simp only [Value.slice.injEq, Option.some.injEq, Addr.mk.injEq] at e2
    omega
set_option maxHeartbeats 3200000 in
set_option maxRecDepth 100000 in
theorem few_some (b off c : Nat) (ls : List Lab) (w : World) (hne : ls ≠ []) (hlc : ls.length ≤ c) (hcm : c ≤ maxLen) (hsz : ∀ l ∈ ls, l.1.size ≤ maxLen ∧ l.2.size ≤ maxLen) (_hb : b < w.heap.size)
    (hcell : ∀ i (h : i < ls.length), w.cell? ⟨b, off + i * 2, none⟩ = some (.string ls[i].1) ∧ w.cell? ⟨b, off + i * 2 + 1, none⟩ = some (.string ls[i].2)) :
    Calls Tryd.prog 6 #[.slice (some ⟨b, off, none⟩) ls.length c] w (LabsF (fewL ls) w) := by
  obtain ⟨i0, hi, hz0, hz1, hz2⟩ := info_partsL Tryd.infoL
  unfold maxLen at hcm
  have hpos : 0 < ls.length := List.length_pos_iff.2 hne
  have HC := Lib.hid hcell
  have HS := Lib.hid (labs_sizes hsz)
  clear hcell hsz hne
  go_enter Tryd.func6, Tryd.ntmps6
  go_upto_region 2 with fail
  go_cut [10, 11, 12] (fun v n i wx => ∃ L : Nat, L ≤ 10 ∧ L ≤ ls.length ∧ ls.take L = ls.take 10 ∧ v = .slice (some ⟨b, off, none⟩) L c ∧ n = .int .i64 L ∧ i = .int .i64 0 ∧ w = wx)
  case first =>
    by_cases h5 : ls.length ≤ 10
    · go_wp2_with fail
      go_meet
      exact ⟨ls.length, h5, Nat.le_refl _, by rw [List.take_of_length_le (Nat.le_refl _), List.take_of_length_le h5], by (congr 1; omega), by (congr 1; omega), rfl, rfl⟩
    · go_wp2_with fail
      go_meet
      exact ⟨10, Nat.le_refl _, by omega, rfl, by (congr 1; omega), by (congr 1; omega), rfl, rfl⟩
  case rest =>
    obtain ⟨L, hL5, hL, hT, rfl, rfl, rfl, rfl⟩ := hcut
    have HT := Lib.hid hT
    clear hT
    go_wp2_with fail
    go_loopw [3, 12] (fun v i wr => ∃ k : Nat, k ≤ L ∧ i = .int .i64 k ∧ OwnL 51 wr w.heap.size v ((ls.take k).map fun l => (cut70 l.1, cut70 l.2)) ∧ Below w.heap.size w wr ∧ w.heap.size ≤ wr.heap.size) (fun _ i _ => L - (intOf i).toNat)
    case atStart => exact ⟨0, Nat.zero_le _, rfl, OwnL.nil _ _ _, Below.refl _ _, Nat.le_refl _⟩
    case round =>
      obtain ⟨k, hk, rfl, hown, hbl, hzl⟩ := hrel
      by_cases hkL : k < L
      · have hc1 := cellLater hbl (HC.out k (by omega)).1
        have hc2 := cellLater hbl (HC.out k (by omega)).2
        obtain ⟨hs1, hs2⟩ := HS.out k (by omega)
        have hts : (ls.take (k + 1)).map (fun l => (cut70 l.1, cut70 l.2)) = (ls.take k).map (fun l => (cut70 l.1, cut70 l.2)) ++ [(cut70 (ls[k]'(by omega)).1, cut70 (ls[k]'(by omega)).2)] := by
          rw [List.take_succ_eq_append_getElem (by omega), List.map_append]; rfl
        have hkl : k < ls.length := by omega
        obtain ⟨X, hX⟩ : ∃ X, ls[k] = X := ⟨_, rfl⟩
        rw [hX] at hc1 hc2 hs1 hs2 hts
        have HTS := Lib.hid hts
        have hll : ((ls.take k).map fun l => (cut70 l.1, cut70 l.2)).length ≤ 1000000 := by simp; omega
        obtain ⟨M, HM⟩ : ∃ M, Hid ((ls.take k).map (fun l => (cut70 l.1, cut70 l.2)) = M) := ⟨_, Lib.hid rfl⟩
        rw [HM.out] at hown hll
        clear hts hX
        unfold maxLen at hs1 hs2
        have hbx := Blk.new wr 51 #[.string X.1, .string X.2]
        have hne : some wr.heap.size ≠ u3.ownBlock := fun e => by have := (World.ownsRow.lt hown _ e.symm).2; omega
        have hownW := hown.alloc (.cells #[.string X.1, .string X.2] 51)
        have hbW := hbl.alloc hzl (.cells #[.string X.1, .string X.2] 51)
        have hzW := hbW.size
        clear hown hbl
        go_upto_region 5 with fail
        generalize wr.alloc (.cells #[.string X.1, .string X.2] 51) = W at *
        generalize wr.heap.size = B at *
        have q1 := hbx.cell 0
        have q2 := hbx.cell 1
        have hm1 := fun W => run_min70 (P := Tryd.prog) W #[3, 3] 3 X.1.size
        have hm2 := fun W => run_min70 (P := Tryd.prog) W #[3, 3] 3 X.2.size
        have hs1 := fun W => run_cut70 (P := Tryd.prog) W 9 X.1 Tryd.underlying9
        have hs2 := fun W => run_cut70 (P := Tryd.prog) W 9 X.2 Tryd.underlying9
        generalize cut70 X.1 = Y1 at *
        generalize cut70 X.2 = Y2 at *
        generalize min X.1.size 70 = m1 at *
        generalize min X.2.size 70 = m2 at *
        have hbD : Below w.heap.size w W.drew := below_drewN hbW 1
        have hownD : OwnL 51 W.drew w.heap.size u3 M := hownW
        have hzD : w.heap.size ≤ W.drew.heap.size := hzW
        have hbxD : Blk W.drew B 51 #[.string X.1, .string X.2] := hbx
        have hS0 : W.drew.cell? ⟨B, 0, none⟩ = some (.string X.1) ∧ W.drew.cell? ⟨B, 1, none⟩ = some (.string X.2) := ⟨hbxD.cell 0, hbxD.cell 1⟩
        have hSA : ∀ o, (W.drew.alloc o).cell? ⟨B, 0, none⟩ = some (.string X.1) ∧ (W.drew.alloc o).cell? ⟨B, 1, none⟩ = some (.string X.2) := fun o => ⟨(hbxD.alloc o).cell 0, (hbxD.alloc o).cell 1⟩
        have HSP : Hid (∀ w2, W.drew.grownBy w2 u3.ownBlock → w2.cell? ⟨B, 0, none⟩ = some (.string X.1) ∧ w2.cell? ⟨B, 1, none⟩ = some (.string X.2)) := Lib.hid fun w2 hg => ⟨(hbxD.push hg hne).cell 0, (hbxD.push hg hne).cell 1⟩
        clear q1 q2
        go_region_held3 (fun w' => w'.cell? ⟨B, 0, none⟩ = some (.string X.1) ∧ w'.cell? ⟨B, 1, none⟩ = some (.string X.2))
          (first | exact hS0 | exact hSA _ | exact HSP.out _ (by assumption))
          (first
            | (refine step_pushL W.drew (by rfl) (.tmp 16) (.tmp 32) 27 (by rfl) w.heap.size 51 i0 (.agg #[.string ⟨#[]⟩, .string ⟨#[]⟩]) Tryd.underlying27 hi hz0 hz1 hz2 rfl u3 M (Y1, Y2) (by rfl) hownD [.string Y1, .string Y2] rfl W.heap.size (by rfl) rfl hll hzD ?_; intro v2 w2 hown2 hg2))
        all_goals
          have hb2 := hownD.grown hbD hzD hg2
          have hz2' := Nat.le_trans hzD hg2.size
          clear hownD hbD hzD hg2 hS0 hSA hm1 hm2 hs1 hs2
          go_wp2
          go_roundw
          case rel => exact ⟨k + 1, by omega, by go_num, by rw [HTS.out, HM.out]; exact hown2, hb2, hz2'⟩
          case measure => simp [intOf]; omega
      · obtain rfl : k = L := by omega
        have hfl : (ls.take k).map (fun l => (cut70 l.1, cut70 l.2)) = fewL ls := by rw [fewL, HT.out]
        rw [hfl] at hown
        obtain ⟨a', c', rfl, hh⟩ := hown.labs (fun l hl => by have := fewL_size ls l hl; unfold maxLen; omega)
        have HH := Lib.hid hh
        have HFR := Lib.hid (own_fresh hown)
        clear hfl hown hh
        go_wp2
        go_ret
        exact ⟨a', c', rfl, HH.out, HFR.out, hbl⟩

theorem few_none (a : Option Addr) (c : Nat) (w : World) (hcm : c ≤ maxLen) : Calls Tryd.prog 6 #[.slice a 0 c] w (LabsF (fewL []) w) := by
  unfold maxLen at hcm
  go_enter Tryd.func6, Tryd.ntmps6
  go_wp2
  refine wp_loop_rounds 1 ?_
  rw [rounds_succ]
  go_wp2
  go_ret
  exact ⟨none, 0, rfl, HasLabs.nil _ _ _ (by unfold maxLen; omega), fun _ _ _ h => (by cases h), Below.refl _ _⟩

theorem few_any (a : Option Addr) (c : Nat) (ls : List Lab) (w : World) (h : HasLabs w a c ls) : Calls Tryd.prog 6 #[.slice a ls.length c] w (LabsF (fewL ls) w) := by
  obtain ⟨h1, h2, h3, h4⟩ := h
  by_cases he : ls = []
  · subst he; exact few_none a c w h2
  · rcases h4 with h4 | ⟨b, off, rfl, hb, hc⟩
    · exact absurd h4 he
    · exact few_some b off c ls w he h1 h2 h3 hb hc
end Go.Proofs.YtpcenhaieicejabDoor
