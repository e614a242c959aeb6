/- The contract of the statements' own count of routes. -/
import Derived.Test.YtmhehojjlacfoaaDoorRteA
import Derived.Outline
import Derived.Test.YtmhehojjlacfoaaDoorMg2
import Derived.Test.YtmhehojjlacfoaaDoorMg7
import Derived.OrdersHeld
import Derived.StillTail
import Derived.Deep.RegionHeld
namespace Go.Proofs.YtmhehojjlacfoaaDoor
open Go.RowKit

def ManyP (q : RtAt) (m : Nat) (w : World) (e : Ending) (w' : World) : Prop :=
  ∃ z : Nat, e = .returned (.int .i64 (z : Int)) ∧ 1 ≤ z ∧ z ≤ m + 1 ∧ (z ≤ m → z = q.n.count) ∧ Below w.heap.size w w'

set_option maxHeartbeats 6400000 in
set_option maxRecDepth 100000 in
theorem many_any {w0 : World} {q : RtAt} (h : q.ok w0) : ∀ (w : World) (m : Nat), Below w0.heap.size w0 w → m ≤ 1000 → Calls Tryd.prog 5 #[.agg (tCells q), .int .i64 (m : Int)] w (ManyP q m w) := by
  induction h with
  | flat q h0 h1 =>
    intro w m _ hm
    have hb := (Below.refl w.heap.size w).alloc (Nat.le_refl _) (.cells (tCells q) 26)
    have hB := Blk.new w 26 (tCells q)
    have hc : q.n.count = 1 := by rw [Rt.count_eq, h1]; rfl
    have hz : q.n.kids.length = 0 := by rw [h1]; rfl
    have HB := Lib.hid hb
    have HC := Lib.hid hc
    have HZ := Lib.hid hz
    clear hb hc h0 h1 hz
    obtain ⟨n, ma, mc, ba, bc, ua, uc, ka, kc⟩ := q
    simp only [tCells] at *
    go_enter Tryd.func5, Tryd.ntmps5
    go_upto_region 1 with fail
    generalize w.alloc (.cells #[.string n.recv, .slice ma n.ms.length mc, .slice ba n.bys.length bc, .int .i64 n.wait, .int .i64 n.every, .int .i64 n.rep, .slice ua n.mute.length uc, .bool n.on, .slice ka n.kids.length kc] 26) = wx at *
    obtain ⟨c0, c1, c2, c3, c4, c5, c6, c7, c8⟩ := hB.cells9
    have hz := HZ.out
    go_wp2_with fail
    refine wp_loop_rounds 1 ?_
    rw [rounds_succ]
    go_wp2_with fail
    go_ret
    exact ⟨1, rfl, by omega, by omega, fun _ => HC.out.symm, HB.out⟩
  | row q b off R h0 h1 h2 h3 h4 h5 ih =>
    intro w m hw hm
    have hb := (Below.refl w.heap.size w).alloc (Nat.le_refl _) (.cells (tCells q) 26)
    have hB := Blk.new w 26 (tCells q)
    have hl := h0.2
    have H3 := Lib.hid h3
    have H4 := Lib.hid h4
    have IH := Lib.hid ih
    have HB := Lib.hid hb
    have HW := Lib.hid hw
    have hcnt := Rt.count_eq q.n
    have HCN := Lib.hid hcnt
    clear h0 h2 h3 h4 h5 ih hw hcnt
    obtain ⟨n, ma, mc, ba, bc, ua, uc, ka, kc⟩ := q
    simp only [tCells] at *
    subst h1
    unfold maxLen at hl
    have lic := hl.1
    have lic2 := hl.2
    go_enter Tryd.func5, Tryd.ntmps5
    go_upto_region 1 with fail
    have HW1 := Lib.hid (HW.out.trans (hb.mono HW.out.size))
    generalize w.alloc (.cells #[.string n.recv, .slice ma n.ms.length mc, .slice ba n.bys.length bc, .int .i64 n.wait, .int .i64 n.every, .int .i64 n.rep, .slice ua n.mute.length uc, .bool n.on, .slice (some ⟨b, off, none⟩) n.kids.length kc] 26) = wx at *
    obtain ⟨c0, c1, c2, c3, c4, c5, c6, c7, c8⟩ := hB.cells9
    clear hb
    go_wp2_with fail
    go_loopg [11, 5, 7] n.kids.length (fun gg iv kv _ wr => ∃ k z : Nat, k + gg = n.kids.length ∧ iv = .int .i64 k ∧ kv = .int .i64 z ∧ 1 ≤ z ∧ z ≤ m + 1 ∧ (z ≤ m → z = 1 + countRs (n.kids.take k)) ∧ Below wx.heap.size wx wr)
    case atStart => exact ⟨0, 1, by omega, rfl, rfl, by omega, by omega, fun _ => by simp [countRs], Below.refl _ _⟩
    case round =>
      obtain ⟨k, z, hkg, rfl, rfl, hz1, hzm, hzc, hbr⟩ := hrel
      have HZ := Lib.hid hzc
      have HBR := Lib.hid hbr
      clear hzc hbr
      cases gk with
      | zero =>
        obtain rfl : k = n.kids.length := by omega
        go_wp2_with fail
        go_ret
        exact ⟨z, rfl, by omega, by omega, fun h => by rw [HCN.out, HZ.out h, List.take_length], bthen HB.out HBR.out⟩
      | succ gg =>
        have hkl : k < n.kids.length := by omega
        have hrn := H3.out k hkl
        have hrl := (H4.out k hkl).call (HW1.out)
        obtain ⟨e0, e1, e2, e3, e4, e5, e6, e7, e8⟩ := hrl.call HBR.out
        have hct := countRs_take n.kids k hkl
        rw [← hrn] at hct
        have hih := IH.out k hkl (wr.alloc (.cells (tCells (R k)) 26)) (m - z) (HW1.out.trans ((HBR.out.mono HW1.out.size).trans (((Below.refl wr.heap.size wr).alloc (Nat.le_refl _) _).mono (Nat.le_trans HW1.out.size HBR.out.size)))) (by omega)
        have hbn := (Below.refl wr.heap.size wr).alloc (Nat.le_refl _) (.cells (tCells (R k)) 26)
        obtain ⟨f0, f1, f2, f3, f4, f5, f6, f7, f8⟩ := (Blk.new wr 26 (tCells (R k))).cells9
        have HIH := Lib.hid hih
        have HBN := Lib.hid hbn
        have HCT := Lib.hid hct
        clear hrn hrl hct hih hbn H3 H4 IH
        generalize R k = r at *
        obtain ⟨r, ma', mc', ba', bc', ua', uc', ka', kc'⟩ := r
        simp only [tCells] at *
        by_cases hzm2 : z ≤ m
        case neg =>
          go_wp2_with fail
          go_ret
          exact ⟨z, rfl, by omega, by omega, fun h => by omega, bthen HB.out (bthen HBR.out HBN.out)⟩
        case pos =>
          have hsub : ((m - z : Nat) : Int) = (m : Int) - (z : Int) := by omega
          rw [hsub] at HIH
          clear hsub
          go_wp2_with (go_at_call 5; refine HIH.out.mono ?_; rintro e w3 ⟨y, rfl, hy1, hy2, hy3, hb3⟩)
          go_roundg gg
          case measure => omega
          case rel => exact ⟨k + 1, z + y, by omega, by go_num, by go_num, by omega, by omega, fun h => by rw [HCT.out, ← hy3 (by omega)]; have := HZ.out hzm2; omega, bthen HBR.out (bthen HBN.out hb3)⟩
end Go.Proofs.YtmhehojjlacfoaaDoor
/- The contract of the few of layer 9. -/
namespace Go.Proofs.YtmhehojjlacfoaaDoor
open Go.RowKit

/-- labels at a place that is new since w -/
def LabsF (ls : List Lab) (w : World) (e : Ending) (w' : World) : Prop := ∃ a c, e = .returned (.slice a ls.length c) ∧ HasLabs w' a c ls ∧ (∀ b o s, a = some ⟨b, o, s⟩ → w.heap.size ≤ b) ∧ Below w.heap.size w w'
theorem own_fresh {T : TypeId} {w : World} {base n c : Nat} {a : Option Addr} {ls : List Lab} (h : OwnL T w base (.slice a n c) ls) : ∀ b o s, a = some ⟨b, o, s⟩ → base ≤ b := by
  intro b o s e
  subst e
  rcases h.2 with ⟨e2, _⟩ | ⟨g2, cap2, cur2, e2, hb2, _⟩
  · cases e2
  · simp only [Value.slice.injEq, Option.some.injEq, Addr.mk.injEq] at e2
    omega
set_option maxHeartbeats 3200000 in
set_option maxRecDepth 100000 in
theorem few_some (b off c : Nat) (ls : List Lab) (w : World) (hne : ls ≠ []) (hlc : ls.length ≤ c) (hcm : c ≤ maxLen) (hsz : ∀ l ∈ ls, l.1.size ≤ maxLen ∧ l.2.size ≤ maxLen) (_hb : b < w.heap.size)
    (hcell : ∀ i (h : i < ls.length), w.cell? ⟨b, off + i * 2, none⟩ = some (.string ls[i].1) ∧ w.cell? ⟨b, off + i * 2 + 1, none⟩ = some (.string ls[i].2)) :
    Calls Tryd.prog 4 #[.slice (some ⟨b, off, none⟩) ls.length c] w (LabsF (fewL ls) w) := by
  obtain ⟨i0, hi, hz0, hz1, hz2⟩ := info_partsL Tryd.infoL
  unfold maxLen at hcm
  have hpos : 0 < ls.length := List.length_pos_iff.2 hne
  have HC := Lib.hid hcell
  have HS := Lib.hid (labs_sizes hsz)
  clear hcell hsz hne
  go_enter Tryd.func4, Tryd.ntmps4
  go_upto_region 2 with fail
  go_cut [10, 11, 12] (fun v n i wx => ∃ L : Nat, L ≤ 10 ∧ L ≤ ls.length ∧ ls.take L = ls.take 10 ∧ v = .slice (some ⟨b, off, none⟩) L c ∧ n = .int .i64 L ∧ i = .int .i64 0 ∧ w = wx)
  case first =>
    by_cases h5 : ls.length ≤ 10
    · go_wp2_with fail
      go_meet
      exact ⟨ls.length, h5, Nat.le_refl _, by rw [List.take_of_length_le (Nat.le_refl _), List.take_of_length_le h5], by (congr 1; omega), by (congr 1; omega), rfl, rfl⟩
    · go_wp2_with fail
      go_meet
      exact ⟨10, Nat.le_refl _, by omega, rfl, by (congr 1; omega), by (congr 1; omega), rfl, rfl⟩
  case rest =>
    obtain ⟨L, hL5, hL, hT, rfl, rfl, rfl, rfl⟩ := hcut
    have HT := Lib.hid hT
    clear hT
    go_wp2_with fail
    go_loopw [3, 12] (fun v i wr => ∃ k : Nat, k ≤ L ∧ i = .int .i64 k ∧ OwnL 45 wr w.heap.size v ((ls.take k).map fun l => (cut70 l.1, cut70 l.2)) ∧ Below w.heap.size w wr ∧ w.heap.size ≤ wr.heap.size) (fun _ i _ => L - (intOf i).toNat)
    case atStart => exact ⟨0, Nat.zero_le _, rfl, OwnL.nil _ _ _, Below.refl _ _, Nat.le_refl _⟩
    case round =>
      obtain ⟨k, hk, rfl, hown, hbl, hzl⟩ := hrel
      by_cases hkL : k < L
      · have hc1 := cellLater hbl (HC.out k (by omega)).1
        have hc2 := cellLater hbl (HC.out k (by omega)).2
        obtain ⟨hs1, hs2⟩ := HS.out k (by omega)
        have hts : (ls.take (k + 1)).map (fun l => (cut70 l.1, cut70 l.2)) = (ls.take k).map (fun l => (cut70 l.1, cut70 l.2)) ++ [(cut70 (ls[k]'(by omega)).1, cut70 (ls[k]'(by omega)).2)] := by
          rw [List.take_succ_eq_append_getElem (by omega), List.map_append]; rfl
        have hkl : k < ls.length := by omega
        obtain ⟨X, hX⟩ : ∃ X, ls[k] = X := ⟨_, rfl⟩
        rw [hX] at hc1 hc2 hs1 hs2 hts
        have HTS := Lib.hid hts
        have hll : ((ls.take k).map fun l => (cut70 l.1, cut70 l.2)).length ≤ 1000000 := by simp; omega
        obtain ⟨M, HM⟩ : ∃ M, Hid ((ls.take k).map (fun l => (cut70 l.1, cut70 l.2)) = M) := ⟨_, Lib.hid rfl⟩
        rw [HM.out] at hown hll
        clear hts hX
        unfold maxLen at hs1 hs2
        have hbx := Blk.new wr 45 #[.string X.1, .string X.2]
        have hne : some wr.heap.size ≠ u3.ownBlock := fun e => by have := (World.ownsRow.lt hown _ e.symm).2; omega
        have hownW := hown.alloc (.cells #[.string X.1, .string X.2] 45)
        have hbW := hbl.alloc hzl (.cells #[.string X.1, .string X.2] 45)
        have hzW := hbW.size
        clear hown hbl
        go_upto_region 5 with fail
        generalize wr.alloc (.cells #[.string X.1, .string X.2] 45) = W at *
        generalize wr.heap.size = B at *
        have q1 := hbx.cell 0
        have q2 := hbx.cell 1
        have hm1 := fun W => run_min70 (P := Tryd.prog) W #[3, 3] 3 X.1.size
        have hm2 := fun W => run_min70 (P := Tryd.prog) W #[3, 3] 3 X.2.size
        have hs1 := fun W => run_cut70 (P := Tryd.prog) W 9 X.1 Tryd.underlying9
        have hs2 := fun W => run_cut70 (P := Tryd.prog) W 9 X.2 Tryd.underlying9
        generalize cut70 X.1 = Y1 at *
        generalize cut70 X.2 = Y2 at *
        generalize min X.1.size 70 = m1 at *
        generalize min X.2.size 70 = m2 at *
        have hbD : Below w.heap.size w W.drew := below_drewN hbW 1
        have hownD : OwnL 45 W.drew w.heap.size u3 M := hownW
        have hzD : w.heap.size ≤ W.drew.heap.size := hzW
        have hbxD : Blk W.drew B 45 #[.string X.1, .string X.2] := hbx
        have hS0 : W.drew.cell? ⟨B, 0, none⟩ = some (.string X.1) ∧ W.drew.cell? ⟨B, 1, none⟩ = some (.string X.2) := ⟨hbxD.cell 0, hbxD.cell 1⟩
        have hSA : ∀ o, (W.drew.alloc o).cell? ⟨B, 0, none⟩ = some (.string X.1) ∧ (W.drew.alloc o).cell? ⟨B, 1, none⟩ = some (.string X.2) := fun o => ⟨(hbxD.alloc o).cell 0, (hbxD.alloc o).cell 1⟩
        have HSP : Hid (∀ w2, W.drew.grownBy w2 u3.ownBlock → w2.cell? ⟨B, 0, none⟩ = some (.string X.1) ∧ w2.cell? ⟨B, 1, none⟩ = some (.string X.2)) := Lib.hid fun w2 hg => ⟨(hbxD.push hg hne).cell 0, (hbxD.push hg hne).cell 1⟩
        clear q1 q2
        go_region_held3 (fun w' => w'.cell? ⟨B, 0, none⟩ = some (.string X.1) ∧ w'.cell? ⟨B, 1, none⟩ = some (.string X.2))
          (first | exact hS0 | exact hSA _ | exact HSP.out _ (by assumption))
          (first
            | (refine step_pushL W.drew (by rfl) (.tmp 16) (.tmp 32) 27 (by rfl) w.heap.size 45 i0 (.agg #[.string ⟨#[]⟩, .string ⟨#[]⟩]) Tryd.underlying27 hi hz0 hz1 hz2 rfl u3 M (Y1, Y2) (by rfl) hownD [.string Y1, .string Y2] rfl W.heap.size (by rfl) rfl hll hzD ?_; intro v2 w2 hown2 hg2))
        all_goals
          have hb2 := hownD.grown hbD hzD hg2
          have hz2' := Nat.le_trans hzD hg2.size
          clear hownD hbD hzD hg2 hS0 hSA hm1 hm2 hs1 hs2
          go_wp2
          go_roundw
          case rel => exact ⟨k + 1, by omega, by go_num, by rw [HTS.out, HM.out]; exact hown2, hb2, hz2'⟩
          case measure => simp [intOf]; omega
      · obtain rfl : k = L := by omega
        have hfl : (ls.take k).map (fun l => (cut70 l.1, cut70 l.2)) = fewL ls := by rw [fewL, HT.out]
        rw [hfl] at hown
        obtain ⟨a', c', rfl, hh⟩ := hown.labs (fun l hl => by have := fewL_size ls l hl; unfold maxLen; omega)
        have HH := Lib.hid hh
        have HFR := Lib.hid (own_fresh hown)
        clear hfl hown hh
        go_wp2
        go_ret
        exact ⟨a', c', rfl, HH.out, HFR.out, hbl⟩

theorem few_none (a : Option Addr) (c : Nat) (w : World) (hcm : c ≤ maxLen) : Calls Tryd.prog 4 #[.slice a 0 c] w (LabsF (fewL []) w) := by
  unfold maxLen at hcm
  go_enter Tryd.func4, Tryd.ntmps4
  go_wp2
  refine wp_loop_rounds 1 ?_
  rw [rounds_succ]
  go_wp2
  go_ret
  exact ⟨none, 0, rfl, HasLabs.nil _ _ _ (by unfold maxLen; omega), fun _ _ _ h => (by cases h), Below.refl _ _⟩

theorem few_any (a : Option Addr) (c : Nat) (ls : List Lab) (w : World) (h : HasLabs w a c ls) : Calls Tryd.prog 4 #[.slice a ls.length c] w (LabsF (fewL ls) w) := by
  obtain ⟨h1, h2, h3, h4⟩ := h
  by_cases he : ls = []
  · subst he; exact few_none a c w h2
  · rcases h4 with h4 | ⟨b, off, rfl, hb, hc⟩
    · exact absurd h4 he
    · exact few_some b off c ls w he h1 h2 h3 hb hc
end Go.Proofs.YtmhehojjlacfoaaDoor
/- The contract of 'alive' of layer 9, and of the document's own Like of two routes that hold none. -/
namespace Go.Proofs.YtmhehojjlacfoaaDoor
open Go.RowKit

def opsR : RtAt := ⟨.mk ⟨#[111, 112, 115]⟩ [] [] 0 1 1 [] false [], none, 0, none, 0, none, 0, none, 0⟩
theorem ops_ok (w : World) : opsR.ok w :=
  .flat _ ⟨⟨HasMats.nil w none 0 (by unfold maxLen; omega), HasStrs.nil w none 0 (Nat.zero_le _), HasStrs.nil w none 0 (Nat.zero_le _), by decide, ⟨by decide, by decide, by decide⟩, by decide, by decide, by decide⟩, Nat.le_refl _, by show 0 ≤ maxLen; omega⟩ rfl
theorem ops_find : opsR.n.find [] [] = [([], opsR.n)] := by
  simp [opsR, Rt.find, findRs]
theorem proj_one {ts : List TgtAt} {p : Bs} {n : Rt} (h : proj ts = [(p, n)]) : ∃ t, ts = [t] ∧ t.1.data.toList = p ∧ t.2.n = n := by
  match ts, h with
  | [t], h => simp [proj] at h; exact ⟨t, rfl, by simpa using h.1, h.2⟩
set_option maxHeartbeats 3200000 in
set_option maxRecDepth 100000 in
theorem alive_any (w : World) : Calls Tryd.prog 6 #[] w (BoolB true w) := by
  have hf := find_any opsR none 0 [] w (ops_ok w) (HasLabs.nil w none 0 (by unfold maxLen; omega)) (by decide)
  have hf2 : Calls Tryd.prog 7 #[.agg #[.string ⟨#[111, 112, 115]⟩, .slice none 0 0, .slice none 0 0, .int .i64 0, .int .i64 1, .int .i64 1, .slice none 0 0, .bool false, .slice none 0 0], .slice none 0 0] w
      (fun e w' => ∃ b off c', e = .returned (.tuple #[.slice (some ⟨b, off, none⟩) 1 c', .int .i64 0]) ∧ w'.cell? ⟨b, off, none⟩ = some (.string ⟨#[]⟩) ∧ w'.cell? ⟨b, off + 1, none⟩ = some (.string ⟨#[111, 112, 115]⟩) ∧ Below w.heap.size w w') := by
    refine hf.mono ?_
    rintro e w' (⟨h1, _⟩ | ⟨_, a', c', ts, rfl, hp, ht, hb⟩)
    · exact absurd h1 (by decide)
    · rw [ops_find] at hp
      obtain ⟨t, rfl, h1, h2⟩ := proj_one hp
      obtain ⟨_, _, _, h3 | ⟨b, off, rfl, _, hc⟩⟩ := ht
      · cases h3
      · have hl := hc 0 (by simp)
        have l1 := hl.1
        have l2 := hl.2.1
        simp only [List.getElem_cons_zero, Nat.zero_mul, Nat.add_zero] at l1 l2
        have e1 : t.1 = ⟨#[]⟩ := bytes_ext h1
        rw [e1] at l1
        rw [h2] at l2
        exact ⟨b, off, c', rfl, l1, l2, hb⟩
  have HF := Lib.hid hf2
  clear hf hf2
  go_enter Tryd.func6, Tryd.ntmps6
  go_wp2_with (go_at_call 7; refine HF.out.mono ?_; rintro e w2 ⟨b, off, c', rfl, l1, l2, hb2⟩)
  go_ret
  exact ⟨rfl, hb2⟩
end Go.Proofs.YtmhehojjlacfoaaDoor
/- A region that draws its order and ends in stores into cells that it has loaded: a load may be taken first if the first of these stores waits for it. It speaks of no one program. -/
namespace Go.Proofs.YtmhehojjlacfoaaDoor

section
variable {P : Program} {ops : Array Oper} {Q : Exit → Act → World → Prop} {md : Region.Mode} {S : World → Prop} {m : Nat}

/-- what has come up has come up behind all that it waits for -/
def closedB (md : Region.Mode) (ops : Array Oper) (listed : Array Bool) : Bool :=
  (List.range ops.size).all fun j => !listed.getD j false || ((ops[j]?).map fun o => o.after.all fun e => !Region.binds md e || listed.getD e.on false).getD true
def ClosedR (md : Region.Mode) (ops : Array Oper) (listed : Array Bool) : Prop :=
  ∀ j oj, ops[j]? = some oj → listed.getD j false = true → ∀ e ∈ oj.after, Region.binds md e = true → listed.getD e.on false = true
theorem closed_of {listed : Array Bool} (h : closedB md ops listed = true) : ClosedR md ops listed := by
  intro j oj hj hl e he hb
  have hlt : j < ops.size := (Array.getElem?_eq_some_iff.1 hj).1
  have h1 := List.all_eq_true.1 h j (List.mem_range.2 hlt)
  rw [hl, hj] at h1
  simp only [Bool.not_true, Bool.false_or, Option.map_some, Option.getD_some] at h1
  obtain ⟨i, hi, rfl⟩ := Array.mem_iff_getElem.1 he
  have h2 := Array.all_eq_true.1 h1 i hi
  rw [hb] at h2
  simpa using h2
theorem ClosedR.set {i : Nat} {listed : Array Bool} (h : ClosedR md ops listed) (hi : i ∈ Region.ready md ops listed) : ClosedR md ops (listed.setIfInBounds i true) := by
  obtain ⟨_, oi, hoi, hall⟩ := mem_ready.1 hi
  intro j oj hj hl e he hb
  by_cases hij : i = j
  · subst hij
    have : oj = oi := Option.some.inj (hj.symm.trans hoi)
    subst this
    exact getD_set_true (hall e he hb)
  · rw [getD_set_ne false hij] at hl
    exact getD_set_true (h j oj hj hl e he hb)
theorem not_yet {i : Nat} {listed : Array Bool} (h : ClosedR md ops listed) (hi : i ∈ Region.ready md ops listed) (hm : Region.waitsFor md ops m i = true) : listed.getD m false = false := by
  cases hl : listed.getD m false with
  | false => rfl
  | true =>
    obtain ⟨om, hom, e, he, hb, hon⟩ := Region.waitsFor_spec hm
    have h2 := h m om hom hl e he hb
    rw [hon, getD_both (mem_ready.1 hi).1] at h2
    cases h2
/-- m waits for the first of these, that for the next, and so on, the last for i -/
def pathB (md : Region.Mode) (ops : Array Oper) (m : Nat) : List Nat → Nat → Bool
  | [], i => Region.waitsFor md ops m i
  | k :: ks, i => Region.waitsFor md ops m k && pathB md ops k ks i
theorem not_yet_path {i : Nat} {listed : Array Bool} (h : ClosedR md ops listed) (hi : i ∈ Region.ready md ops listed) : ∀ (p : List Nat) (m : Nat), pathB md ops m p i = true → listed.getD m false = false
  | [], _, hm => not_yet h hi hm
  | k :: ks, m, hm => by
    simp only [pathB, Bool.and_eq_true] at hm
    have hk := not_yet_path h hi ks k hm.2
    cases hl : listed.getD m false with
    | false => rfl
    | true =>
      obtain ⟨om, hom, e, he, hb, hon⟩ := Region.waitsFor_spec hm.1
      have h2 := h m om hom hl e he hb
      rw [hon, hk] at h2
      cases h2
/-- whatever order is picked from here on, and S holds behind every operation that is carried out, until number m has come up -/
def wpAnyM (P : Program) (md : Region.Mode) (ops : Array Oper) (Q : Exit → Act → World → Prop) (S : World → Prop) (m : Nat) : Nat → Array Bool → Act → World → Prop
  | 0, listed, a, w => Region.ready md ops listed = [] ∧ Q .normal a w
  | fuel + 1, listed, a, w =>
    (Region.ready md ops listed = [] → Q .normal a w) ∧
    ∀ i ∈ Region.ready md ops listed, wpOp P ops Q i (fun a' w' => ((listed.setIfInBounds i true).getD m false = false → S w') ∧ wpAnyM P md ops Q S m fuel (listed.setIfInBounds i true) a' w') a w
theorem wpAny_of_marked : ∀ (fuel : Nat) (listed : Array Bool) (a : Act) (w : World), wpAnyM P md ops Q S m fuel listed a w → wpAny P md ops Q fuel listed a w
  | 0, _, _, _, h => h
  | fuel + 1, _, _, _, h => ⟨h.1, fun i hi => wpOp_mono (fun a' w' h' => wpAny_of_marked fuel _ a' w' h'.2) (h.2 i hi)⟩
theorem marked_of_any : ∀ (fuel : Nat) (listed : Array Bool) (a : Act) (w : World), listed.getD m false = true → wpAny P md ops Q fuel listed a w → wpAnyM P md ops Q S m fuel listed a w
  | 0, _, _, _, _, h => h
  | fuel + 1, listed, _, _, hl, h => ⟨h.1, fun i hi => wpOp_mono (fun a' w' h' => ⟨fun h0 => (by rw [getD_set_true hl] at h0; cases h0), marked_of_any fuel _ a' w' (getD_set_true hl) h'⟩) (h.2 i hi)⟩

theorem wpAnyM_first {i : Nat} {oi : Oper} {v : Value} {T : World → Prop} (hi : ops[i]? = some oi) (hsel : ∀ (j : Nat) (o : Oper) cs b, ops[j]? = some o → o.op ≠ .select cs b)
    (hQ : ∀ c a w, Q (.panic c) (a.put oi.dst v) w → Q (.panic c) a w)
    (him : i ≠ m) (hT : (∀ w, T w) ∨ (T = S ∧ ∃ p, pathB md ops m p i = true)) :
    ∀ (fuel : Nat) (listed : Array Bool) (a : Act) (w : World), ClosedR md ops listed →
      (∀ j oj, ops[j]? = some oj → j ≠ i → listed.getD j true = false → (∀ e ∈ oj.after, Region.binds md e = true → e.on ≠ i) → oi.apart ops oj = true) →
      i ∈ Region.ready md ops listed → YieldsIf P ops T oi v a → (listed.getD m false = false → S w) →
      wpAnyM P md ops Q S m fuel (listed.setIfInBounds i true) (a.put oi.dst v) w → wpAnyM P md ops Q S m (fuel + 1) listed a w := by
  intro fuel
  have hTw : ∀ (listed : Array Bool) (w : World), ClosedR md ops listed → i ∈ Region.ready md ops listed → (listed.getD m false = false → S w) → T w := by
    intro listed w hc hr hS
    rcases hT with h | ⟨rfl, p, hm⟩
    · exact h w
    · exact hS (not_yet_path hc hr p m hm)
  have back : ∀ (listed : Array Bool) (j : Nat), (listed.setIfInBounds j true).getD m false = false → listed.getD m false = false := by
    intro listed j h
    cases hl : listed.getD m false with
    | false => rfl
    | true => rw [getD_set_true hl] at h; cases h
  induction fuel with
  | zero =>
    intro listed a w hc _ hr hy hS H
    refine ⟨fun h => (by rw [h] at hr; cases hr), fun j hj => ?_⟩
    by_cases hji : j = i
    · subst hji; exact hy.wpOp hi (hTw _ _ hc hr hS) ⟨fun h => hS (back _ _ h), H⟩
    · have := ready_mono hj hji
      rw [H.1] at this
      cases this
  | succ fuel ih =>
    intro listed a w hc hfree hr hy hS H
    refine ⟨fun h => (by rw [h] at hr; cases hr), fun j hj => ?_⟩
    by_cases hji : j = i
    · subst hji; exact hy.wpOp hi (hTw _ _ hc hr hS) ⟨fun h => hS (back _ _ h), H⟩
    · have h1 := H.2 j (ready_mono hj hji)
      obtain ⟨hjun, oj, hoj, hall⟩ := mem_ready.1 hj
      have hnot : ∀ e ∈ oj.after, Region.binds md e = true → e.on ≠ i := fun e he hb heq => by
        have h1 := hall e he hb
        rw [heq, getD_both (mem_ready.1 hr).1] at h1
        cases h1
      have h2 := wpOp_putIf hoj (hfree j oj hoj hji hjun hnot) (fun cs b => hsel i oi cs b hi) (fun cs b => hsel j oj cs b hoj) hQ hy h1
      have hfree' : ∀ k ok, ops[k]? = some ok → k ≠ i → (listed.setIfInBounds j true).getD k true = false →
          (∀ e ∈ ok.after, Region.binds md e = true → e.on ≠ i) → oi.apart ops ok = true := fun k ok hk hki hun hno => by
        refine hfree k ok hk hki ?_ hno
        by_cases hjk : j = k
        · subst hjk; exact hjun
        · rw [getD_set_ne true hjk] at hun; exact hun
      refine wpOp_mono (fun a' w' h3 => ?_) h2
      have hS' : (listed.setIfInBounds j true).getD m false = false → S w' := fun h0 => by
        refine h3.2.1 ?_
        rw [Array.setIfInBounds_comm _ _ (Ne.symm hji)]
        rw [getD_set_ne false him]; exact h0
      refine ⟨hS', ih (listed.setIfInBounds j true) a' w' (hc.set hj) hfree' (ready_mono hr (Ne.symm hji)) h3.1 hS' ?_⟩
      rw [Array.setIfInBounds_comm _ _ hji]
      exact h3.2.2

/-- the beginning -/
theorem wp_region_marked {id : Nat} {a : Act} {w : World} (S : World → Prop) (m : Nat) (hm : P.follows .mixedOrders = true)
    (h : wpAnyM P .any ops Q S m ops.size (Array.replicate ops.size false) a w.drew) : (Code.region id ops true).wp P Q a w :=
  wp_region_any hm (wpAny_of_marked _ _ _ _ h)
/-- a load may be taken first -/
theorem wpAnyM_load (i : Nat) {oi : Oper} {v : Value} {fuel : Nat} {listed : Array Bool} {a : Act} {w : World} (hi : ops[i]? = some oi) (hc : closedB md ops listed = true)
    (hs : Region.noSelect ops = true) (hf : Region.free md ops listed i = true) (hr : (Region.ready md ops listed).contains i = true) (him : i ≠ m) (hw : Region.waitsFor md ops m i = true)
    (hQ : ∀ c a w, Q (.panic c) (a.put oi.dst v) w → Q (.panic c) a w) (hy : YieldsIf P ops S oi v a) (hS : S w)
    (h : wpAnyM P md ops Q S m fuel (listed.setIfInBounds i true) (a.put oi.dst v) w) : wpAnyM P md ops Q S m (fuel + 1) listed a w :=
  wpAnyM_first (T := S) hi (Region.noSelect_spec hs) hQ him (.inr ⟨rfl, [], hw⟩) fuel listed a w (closed_of hc) (Region.free_spec hi hf) (by simpa using hr) hy (fun _ => hS) h
/-- a load may be taken first, if the one that is marked waits for it over others -/
theorem wpAnyM_loadP (p : List Nat) (i : Nat) {oi : Oper} {v : Value} {fuel : Nat} {listed : Array Bool} {a : Act} {w : World} (hi : ops[i]? = some oi) (hc : closedB md ops listed = true)
    (hs : Region.noSelect ops = true) (hf : Region.free md ops listed i = true) (hr : (Region.ready md ops listed).contains i = true) (him : i ≠ m) (hw : pathB md ops m p i = true)
    (hQ : ∀ c a w, Q (.panic c) (a.put oi.dst v) w → Q (.panic c) a w) (hy : YieldsIf P ops S oi v a) (hS : S w)
    (h : wpAnyM P md ops Q S m fuel (listed.setIfInBounds i true) (a.put oi.dst v) w) : wpAnyM P md ops Q S m (fuel + 1) listed a w :=
  wpAnyM_first (T := S) hi (Region.noSelect_spec hs) hQ him (.inr ⟨rfl, p, hw⟩) fuel listed a w (closed_of hc) (Region.free_spec hi hf) (by simpa using hr) hy (fun _ => hS) h
/-- what hangs on no world may be taken first -/
theorem wpAnyM_pure (i : Nat) {oi : Oper} {v : Value} {fuel : Nat} {listed : Array Bool} {a : Act} {w : World} (hi : ops[i]? = some oi) (hc : closedB md ops listed = true)
    (hs : Region.noSelect ops = true) (hf : Region.free md ops listed i = true) (hr : (Region.ready md ops listed).contains i = true) (him : i ≠ m)
    (hQ : ∀ c a w, Q (.panic c) (a.put oi.dst v) w → Q (.panic c) a w) (hy : YieldsIf P ops (fun _ => True) oi v a) (hS : S w)
    (h : wpAnyM P md ops Q S m fuel (listed.setIfInBounds i true) (a.put oi.dst v) w) : wpAnyM P md ops Q S m (fuel + 1) listed a w :=
  wpAnyM_first (T := fun _ => True) hi (Region.noSelect_spec hs) hQ him (.inl fun _ => trivial) fuel listed a w (closed_of hc) (Region.free_spec hi hf) (by simpa using hr) hy (fun _ => hS) h
/-- the one that may come up, comes up -/
theorem wpAnyM_one (i : Nat) {oi : Oper} {fuel : Nat} {listed : Array Bool} {a : Act} {w : World} (hi : ops[i]? = some oi) (hr : Region.ready md ops listed = [i])
    (h : ∀ K' : Act → World → Prop, Shut (∀ a w, S w → wpAnyM P md ops Q S m fuel (listed.setIfInBounds i true) a w → K' a w) → if Region.wanted oi (yielded ops a.tmps) = true then Oper.wp P oi a w K' Q else K' (a.put oi.dst undef) w) :
    wpAnyM P md ops Q S m (fuel + 1) listed a w := by
  refine ⟨fun h0 => (by rw [hr] at h0; cases h0), fun j hj => ?_⟩
  rw [hr] at hj
  obtain rfl : j = i := by simpa using hj
  exact wpOp_step hi (fun K' hK => h K' (fun a w hS hW => hK a w ⟨fun _ => hS, hW⟩))
/-- either of the two that may come up -/
theorem wpAnyM_two (i k : Nat) {oi ok : Oper} {fuel : Nat} {listed : Array Bool} {a : Act} {w : World} (hi : ops[i]? = some oi) (hk : ops[k]? = some ok) (hr : Region.ready md ops listed = [i, k])
    (h : ∀ K' : Act → World → Prop, Shut (∀ a w, S w → wpAnyM P md ops Q S m fuel (listed.setIfInBounds i true) a w → K' a w) → if Region.wanted oi (yielded ops a.tmps) = true then Oper.wp P oi a w K' Q else K' (a.put oi.dst undef) w)
    (h2 : ∀ K' : Act → World → Prop, Shut (∀ a w, S w → wpAnyM P md ops Q S m fuel (listed.setIfInBounds k true) a w → K' a w) → if Region.wanted ok (yielded ops a.tmps) = true then Oper.wp P ok a w K' Q else K' (a.put ok.dst undef) w) :
    wpAnyM P md ops Q S m (fuel + 1) listed a w := by
  refine ⟨fun h0 => (by rw [hr] at h0; cases h0), fun j hj => ?_⟩
  rw [hr] at hj
  simp only [List.mem_cons, List.not_mem_nil, or_false] at hj
  rcases hj with rfl | rfl
  · exact wpOp_step hi (fun K' hK => h K' (fun a w hS hW => hK a w ⟨fun _ => hS, hW⟩))
  · exact wpOp_step hk (fun K' hK => h2 K' (fun a w hS hW => hK a w ⟨fun _ => hS, hW⟩))
/-- the stores, in their order -/
theorem wpAnyM_tail {L : List Oper} {fuel : Nat} {listed : Array Bool} {a : Act} {w : World} (hf : fuel = (L.drop m).length) (hm : m < listed.size) (hm2 : m < L.length)
    (hB : Region.seqB md L.toArray (L.drop m).length m listed = true) (h : wpList P L.toArray Q (L.drop m) a w) : wpAnyM P md L.toArray Q S m fuel listed a w := by
  subst hf
  have e : L.drop m = L[m] :: L.drop (m + 1) := List.drop_eq_getElem_cons hm2
  rw [e] at hB h ⊢
  simp only [List.length_cons, Region.seqB, Bool.and_eq_true, decide_eq_true_eq] at hB ⊢
  refine ⟨fun h0 => (by rw [hB.1] at h0; cases h0), fun j hj => ?_⟩
  rw [hB.1] at hj
  obtain rfl : j = m := by simpa using hj
  have h0 : L.toArray[j]? = some L[j] := by simp [hm2]
  have hl : (listed.setIfInBounds j true).getD j false = true := by simp [hm]
  have hw : wpOp P L.toArray Q j (wpList P L.toArray Q (L.drop (j + 1))) a w := by unfold wpOp; simp only [h0]; exact h
  refine wpOp_mono (fun a' w' h' => ⟨fun h1 => (by rw [hl] at h1; cases h1), marked_of_any _ _ _ _ hl (wpAny_of_seq (L.drop (j + 1)) (j + 1) _ a' w' (fun q => by simp [List.getElem?_drop]) hB.2 h')⟩) hw
end
end Go.Proofs.YtmhehojjlacfoaaDoor
