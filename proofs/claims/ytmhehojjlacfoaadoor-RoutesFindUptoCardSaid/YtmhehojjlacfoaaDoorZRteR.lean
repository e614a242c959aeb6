/- The document's own row of a route and all within it. -/
import Derived.Test.YtmhehojjlacfoaaDoorRteM
import Derived.Test.YtmhehojjlacfoaaDoorMg3
import Derived.Deep.CutBlock
namespace Go.Proofs.YtmhehojjlacfoaaDoor
open Go.RowKit

mutual
/-- a route and all within it, each ahead of those within it -/
def Rt.all : Rt → List Rt
  | .mk r m b a e p u o xs => .mk r m b a e p u o xs :: allRs xs
def allRs : List Rt → List Rt
  | [] => []
  | x :: xs => x.all ++ allRs xs
end
theorem Rt.all_eq (n : Rt) : n.all = n :: allRs n.kids := by cases n; rfl
theorem allRs_take (xs : List Rt) (k : Nat) (h : k < xs.length) : allRs (xs.take (k + 1)) = allRs (xs.take k) ++ xs[k].all := by
  induction xs generalizing k with
  | nil => simp at h
  | cons x xs ih =>
    cases k with
    | zero => simp [allRs]
    | succ k =>
      have := ih k (by simpa using h)
      simp only [List.take_succ_cons, allRs, List.getElem_cons_succ, List.append_assoc]
      rw [this]
mutual
theorem Rt.all_len : ∀ (n : Rt), n.all.length = n.count
  | .mk r m b a e p u o xs => by
    have := allRs_len xs
    simp only [Rt.all, Rt.count, List.length_cons]
    omega
theorem allRs_len : ∀ (xs : List Rt), (allRs xs).length = countRs xs
  | [] => rfl
  | x :: xs => by
    have h1 := Rt.all_len x
    have h2 := allRs_len xs
    simp only [allRs, countRs, List.length_append]
    omega
end

def rtV (q : RtAt) : List Value := [.string q.n.recv, .slice q.ma q.n.ms.length q.mc, .slice q.ba q.n.bys.length q.bc, .int .i64 q.n.wait, .int .i64 q.n.every, .int .i64 q.n.rep, .slice q.ua q.n.mute.length q.uc, .bool q.n.on, .slice q.ka q.n.kids.length q.kc]
def rtsV (rs : List RtAt) : List Value := rs.flatMap rtV
theorem rtsV_len : ∀ (rs : List RtAt), (rtsV rs).length = rs.length * 9
  | [] => rfl
  | t :: ts => by
    have ih := rtsV_len ts
    have e : rtsV (t :: ts) = rtV t ++ rtsV ts := rfl
    rw [e, List.length_append, ih, List.length_cons]
    show 9 + _ = _
    omega
theorem rtsV_app (a b : List RtAt) : rtsV (a ++ b) = rtsV a ++ rtsV b := by simp [rtsV]
theorem rtsV_one (rs : List RtAt) : ∀ u ∈ rtsV rs, u.oneCell' = true := by
  intro u hu
  obtain ⟨t, _, h⟩ := List.mem_flatMap.1 hu
  simp only [rtV, List.mem_cons, List.not_mem_nil, or_false] at h
  rcases h with rfl | rfl | rfl | rfl | rfl | rfl | rfl | rfl | rfl <;> rfl
theorem rtsV_get : ∀ (ts : List RtAt) (i : Nat) (h : i < ts.length) (j : Nat), j < 9 → (rtsV ts)[i * 9 + j]? = (rtV ts[i])[j]?
  | t :: ts, 0, _, j, hj => by
    have e : rtsV (t :: ts) = rtV t ++ rtsV ts := rfl
    rw [e, Nat.zero_mul, Nat.zero_add, List.getElem?_append_left (show j < (rtV t).length from hj)]
    rfl
  | t :: ts, i + 1, h, j, hj => by
    have e : rtsV (t :: ts) = rtV t ++ rtsV ts := rfl
    have ih := rtsV_get ts i (by simpa using h) j hj
    rw [e, List.getElem?_append_right (show (rtV t).length ≤ _ by show 9 ≤ _; omega), show (i + 1) * 9 + j - (rtV t).length = i * 9 + j by show _ - 9 = _; omega, ih]
    rfl
/-- v is the call's own slice of the routes rs -/
def OwnR (w : World) (base : Nat) (v : Value) (rs : List RtAt) : Prop := w.ownsRow base 26 9 v rs.length (rtsV rs)
theorem OwnR.call {w w1 : World} {base : Nat} {v : Value} {l : List RtAt} (h : OwnR w base v l) (hb : Below w.heap.size w w1) : OwnR w1 base v l :=
  World.ownsRow.kept h (row := none) ⟨hb.os, hb.tape, hb.output, hb.size, fun k hk _ => hb.block k hk⟩ (by cases v.ownBlock <;> simp)
theorem OwnR.one (w : World) (q : RtAt) (B : Nat) (hB : B ≤ w.heap.size) : OwnR (w.alloc (.cells (tCells q) 26)) B (.slice (some ⟨w.heap.size, 0, none⟩) 1 1) [q] := by
  refine ⟨rfl, .inr ⟨w.heap.size, 1, tCells q, rfl, hB, ?_, Nat.le_refl _, by unfold maxLen; omega, rfl, by simp [rtsV, rtV]⟩⟩
  exact Blk.new w 26 (tCells q)
/-- the slice of block g reads as the routes rs -/
def RowR (w : World) (g : Nat) (rs : List RtAt) : Prop := ∀ j u, (rtsV rs)[j]? = some u → w.cell? ⟨g, j, none⟩ = some u
theorem RowR.call {w w1 : World} {g : Nat} {rs : List RtAt} (h : RowR w g rs) (hb : Below w.heap.size w w1) : RowR w1 g rs := fun j u hu => cellL hb (h j u hu)
theorem RowR.lies {w : World} {g : Nat} {rs : List RtAt} (h : RowR w g rs) (i : Nat) (hi : i < rs.length) : rs[i].lies w g (i * 9) := by
  have k := fun j (hj : j < 9) (u : Value) (hu : (rtV rs[i])[j]? = some u) => h (i * 9 + j) u ((rtsV_get rs i hi j hj).trans hu)
  exact ⟨k 0 (by omega) _ rfl, k 1 (by omega) _ rfl, k 2 (by omega) _ rfl, k 3 (by omega) _ rfl, k 4 (by omega) _ rfl, k 5 (by omega) _ rfl, k 6 (by omega) _ rfl, k 7 (by omega) _ rfl, k 8 (by omega) _ rfl⟩
theorem OwnR.out {w : World} {base : Nat} {v : Value} {rs : List RtAt} (h : OwnR w base v rs) (hne : rs ≠ []) : ∃ g c, v = .slice (some ⟨g, 0, none⟩) rs.length c ∧ base ≤ g ∧ rs.length ≤ c ∧ c ≤ maxLen ∧ RowR w g rs := by
  rcases h.2 with ⟨_, h0⟩ | ⟨g, cap, cur, e, hb, hg, hn, hm, hcs, ht⟩
  · exact absurd (List.eq_nil_of_length_eq_zero h0) hne
  · refine ⟨g, cap, e, hb, hn, hm, fun j u hu => ?_⟩
    have := World.ownsRow.cells h (g := g) (by rw [e]; rfl) j u hu
    have e0 : (⟨g, 0, none⟩ : Addr).add j = ⟨g, j, none⟩ := by unfold Addr.add; split <;> simp_all
    rwa [e0] at this
abbrev rtZ : Value := .agg #[.string ⟨#[]⟩, .slice none 0 0, .slice none 0 0, .int .i64 0, .int .i64 0, .int .i64 0, .slice none 0 0, .bool false, .slice none 0 0]
theorem Tryd.infoR : (Tryd.prog.info? 26).map (fun i => (i.zero, i.size, i.bytes)) = some (some rtZ, 9, 144) := by kernel_rfl
theorem info_partsR {x : Option TypeInfo} (h : x.map (fun i => (i.zero, i.size, i.bytes)) = some (some rtZ, 9, 144)) : ∃ i, x = some i ∧ i.zero = some rtZ ∧ i.size = 9 ∧ i.bytes = 144 := by
  cases x with
  | none => cases h
  | some i => simp at h; exact ⟨i, rfl, h.1, h.2.1, h.2.2⟩

def AllP (w0 : World) (q : RtAt) (W : World) (e : Ending) (W' : World) : Prop :=
  ∃ g c rs, e = .returned (.slice (some ⟨g, 0, none⟩) (List.length rs) c) ∧ W.heap.size ≤ g ∧ rs.map (fun r : RtAt => r.n) = q.n.all ∧ (∀ r ∈ rs, r.ok w0) ∧ RowR W' g rs ∧ rs.length ≤ c ∧ c ≤ maxLen ∧ Below W.heap.size W W'
def AllAll (w0 : World) (q : RtAt) : Prop := ∀ W, Below w0.heap.size w0 W → q.n.count ≤ 100000 → Calls Tryd.prog 13 #[.agg (tCells q)] W (AllP w0 q W)
set_option maxHeartbeats 6400000 in
set_option maxRecDepth 100000 in
theorem all_step {w0 : World} (q : RtAt) (hq : q.ok w0) (HK : q.n.kids = [] ∨ ∃ b off, q.ka = some ⟨b, off, none⟩ ∧ b < w0.heap.size ∧ ∀ i (h : i < q.n.kids.length), ∃ r : RtAt, r.n = q.n.kids[i] ∧ r.lies w0 b (off + i * 9) ∧ r.ok w0 ∧ AllAll w0 r) : AllAll w0 q := by
  intro W hW hcnt
  obtain ⟨i0, hi, hz0, hz1, hz2⟩ := info_partsR Tryd.infoR
  have hb := (Below.refl W.heap.size W).alloc (Nat.le_refl _) (.cells (tCells q) 26)
  have hB := Blk.new W 26 (tCells q)
  have hz : (W.alloc (.cells (tCells q) 26)).heap.size = W.heap.size + 1 := by simp
  have hown := OwnR.one (W.alloc (.cells (tCells q) 26)) q (W.heap.size + 1) (by omega)
  have hb1 := (Below.refl (W.heap.size + 1) (W.alloc (.cells (tCells q) 26))).alloc (by omega) (.cells (tCells q) 26)
  have hB1 := hB.alloc (.cells (tCells q) 26)
  have hkc := hq.head.2
  have hce := q.n.count_eq
  have hae := q.n.all_eq
  rw [hz] at hown
  have HQ := Lib.hid hq
  have HKK := Lib.hid HK
  have HWW := Lib.hid (hW.trans ((hb.mono hW.size).trans (hb1.mono (by have := hW.size; omega))))
  have HBB := Lib.hid (hb.trans (hb1.mono (by omega)))
  have HAE := Lib.hid hae
  have HCE := Lib.hid hce
  have HCN := Lib.hid hcnt
  have hzz : W.heap.size + 1 ≤ ((W.alloc (.cells (tCells q) 26)).alloc (.cells (tCells q) 26)).heap.size := by simp
  have hws : w0.heap.size ≤ W.heap.size + 1 := by have := hW.size; omega
  clear HK hq hW hb hb1 hae hcnt hce
  obtain ⟨n, ma, mc, ba, bc, ua, uc, ka, kc⟩ := q
  simp only [tCells] at *
  unfold maxLen at hkc
  obtain ⟨c0, c1, c2, c3, c4, c5, c6, c7, c8⟩ := hB.cells9
  go_enter Tryd.func13, Tryd.ntmps13
  go_upto_region 2 with fail
  clear c0 c1 c2 c3 c4 c5 c6 c7 c8
  generalize (W.alloc (.cells #[.string n.recv, .slice ma n.ms.length mc, .slice ba n.bys.length bc, .int .i64 n.wait, .int .i64 n.every, .int .i64 n.rep, .slice ua n.mute.length uc, .bool n.on, .slice ka n.kids.length kc] 26)).alloc (.cells #[.string n.recv, .slice ma n.ms.length mc, .slice ba n.bys.length bc, .int .i64 n.wait, .int .i64 n.every, .int .i64 n.rep, .slice ua n.mute.length uc, .bool n.on, .slice ka n.kids.length kc] 26) = wx at *
  obtain ⟨c0, c1, c2, c3, c4, c5, c6, c7, c8⟩ := hB1.cells9
  clear hB hB1 hz
  by_cases hl0 : n.kids.length = 0
  · have hk0 : n.kids = [] := List.eq_nil_of_length_eq_zero hl0
    have hfin : [n] = n.all := by rw [HAE.out, hk0]; rfl
    obtain ⟨g, c', e, hg, hc1, hc2, hrow⟩ := hown.out (List.cons_ne_nil _ _)
    simp only [Value.slice.injEq, Option.some.injEq, Addr.mk.injEq] at e
    obtain ⟨⟨rfl, hx1⟩, hx2, rfl⟩ := e
    clear hx1 hx2
    have HF := Lib.hid hfin
    have HR := Lib.hid hrow
    rw [hl0] at c8
    clear hk0 hfin hrow hown hg hc1 hc2 hws hzz hl0 hkc c0 c1 c2 c3 c4 c5 c6 c7
    go_wp2_with fail
    refine wp_loop_rounds 1 ?_
    rw [rounds_succ]
    go_wp2_with fail
    go_ret
    exact ⟨_, 1, [⟨n, ma, mc, ba, bc, ua, uc, ka, kc⟩], rfl, by omega, HF.out, fun r hr => by rw [List.mem_singleton] at hr; rw [hr]; exact HQ.out, HR.out, Nat.le_refl _, by unfold maxLen; omega, HBB.out⟩
  · obtain ⟨kb, kof, rfl, _, hkk⟩ : ∃ b off, ka = some ⟨b, off, none⟩ ∧ b < w0.heap.size ∧ ∀ i (h : i < n.kids.length), ∃ r : RtAt, r.n = n.kids[i] ∧ r.lies w0 b (off + i * 9) ∧ r.ok w0 ∧ AllAll w0 r := by
      rcases HKK.out with h | h
      · exact absurd (by rw [h]; rfl) hl0
      · exact h
    have HKI := Lib.hid hkk
    clear hkk HKK hl0 c0 c1 c2 c3 c4 c5 c6 c7
    go_wp2_with fail
    clear c8
    go_loopg [11, 3, 5] n.kids.length (fun gg iv v _ wr => ∃ (k : Nat) (rs : List RtAt), k + gg = n.kids.length ∧ iv = .int .i64 (k : Int) ∧ OwnR wr (W.heap.size + 1) v rs ∧ Hid (rs.map (fun r : RtAt => r.n) = n :: allRs (n.kids.take k)) ∧ Hid (∀ r ∈ rs, r.ok w0) ∧ Below (W.heap.size + 1) wx wr ∧ W.heap.size + 1 ≤ wr.heap.size)
    case atStart => exact ⟨0, [_], by omega, rfl, hown, Lib.hid (by simp [allRs]), Lib.hid (fun r hr => by rw [List.mem_singleton] at hr; rw [hr]; exact HQ.out), Below.refl _ _, hzz⟩
    case round =>
      obtain ⟨k, rs, hkg, rfl, hownk, HM, HO, hbr, hzr⟩ := hrel
      cases gk with
      | zero =>
        obtain rfl : k = n.kids.length := by omega
        have hall : rs.map (fun r : RtAt => r.n) = n.all := by rw [HM.out, List.take_length, HAE.out]
        have hne : rs ≠ [] := fun e => by
          have := HM.out
          rw [e] at this
          cases this
        obtain ⟨g, c', rfl, hg, hc1, hc2, hrow⟩ := hownk.out hne
        have HA := Lib.hid hall
        have HR := Lib.hid hrow
        have HBR := Lib.hid hbr
        clear hall hne hrow hownk hbr hown
        go_wp2_with fail
        go_ret
        exact ⟨g, c', rs, rfl, by omega, HA.out, HO.out, HR.out, hc1, hc2, HBB.out.trans (HBR.out.mono (by omega))⟩
      | succ gg =>
        have hkl : k < n.kids.length := by omega
        obtain ⟨r, hrn, hrl, hro, hra⟩ := HKI.out k hkl
        have hbw := HWW.out.trans (hbr.mono hws)
        obtain ⟨e0, e1, e2, e3, e4, e5, e6, e7, e8⟩ := hrl.call hbw
        have hbn := (Below.refl wr.heap.size wr).alloc (Nat.le_refl _) (.cells (tCells r) 26)
        have hat := allRs_take n.kids k hkl
        have hct := countRs_take n.kids k hkl
        have hct2 : countRs (n.kids.take (k + 1)) ≤ countRs n.kids := by
          rw [← allRs_len, ← allRs_len]
          conv => rhs; rw [← List.take_append_drop (k + 1) n.kids]
          have happ : ∀ (a b : List Rt), allRs (a ++ b) = allRs a ++ allRs b := by
            intro a b
            induction a with
            | nil => rfl
            | cons x a ih => simp only [List.cons_append, allRs, ih, List.append_assoc]
          rw [happ, List.length_append]
          omega
        rw [← hrn] at hat hct
        have hrc : r.n.count ≤ 100000 := by have := HCE.out; have := HCN.out; omega
        have hrl2 : rs.length ≤ 100000 := by
          have := congrArg List.length HM.out
          rw [List.length_map, List.length_cons, allRs_len] at this
          have := HCE.out; have := HCN.out
          have h1 : 1 ≤ r.n.count := by rw [Rt.count_eq]; omega
          omega
        have hall := hra _ (hbw.trans (hbn.mono hbw.size)) hrc
        obtain ⟨f0, f1, f2, f3, f4, f5, f6, f7, f8⟩ := (Blk.new wr 26 (tCells r)).cells9
        have hownn := hownk.call hbn
        have hbrn := hbr.trans (hbn.mono hzr)
        have hzn : W.heap.size + 1 ≤ (wr.alloc (.cells (tCells r) 26)).heap.size := Nat.le_trans hzr hbn.size
        have HL9 := Lib.hid (fun (rs' : List RtAt) (h : rs'.map (fun r : RtAt => r.n) = r.n.all) => (show rs'.length ≤ 100000 by
          have h := congrArg List.length h
          rw [List.length_map, Rt.all_len] at h
          omega))
        have HALL := Lib.hid hall
        have HAT := Lib.hid hat
        have HBRN := Lib.hid hbrn
        clear hrn hrl hro hra hbw hat hct hct2 hall hbrn hbn hownk hbr hown
        obtain ⟨r, ma', mc', ba', bc', ua', uc', ka', kc'⟩ := r
        simp only [tCells] at *
        go_wp2_with (first
          | (go_at_call 13; refine HALL.out.mono ?_; rintro e w3 ⟨g', c', rs', rfl, hg', hm', hok', hrow', hc1', hc2', hb3⟩; have hown3 := hownn.call hb3; have hz3 := Nat.le_trans hzn hb3.size; have hl' := HL9.out rs' hm')
          | (refine wpList_append_own _ (by rfl) (.tmp 15) (.tmp 17) 24 (by rfl) (W.heap.size + 1) 26 i0 rtZ 9 144 Tryd.underlying24 hi hz0 hz1 hz2 rfl (by omega) _ rs.length (rtsV rs) (by rfl) hown3 ⟨g', 0, none⟩ rs'.length c' (rtsV rs') (by rfl) (rtsV_len rs') (fun j u hu => by have e9 : (⟨g', 0, none⟩ : Addr).add j = ⟨g', j, none⟩ := (by unfold Addr.add; split <;> simp_all); rw [e9]; exact hrow' j u hu) (rtsV_one rs') (by unfold maxLen; omega) (by omega) hz3 ?_; intro v' w4 hown4 hg4 _))
        have hb4 := (HBRN.out.trans (hb3.mono hzn)).grown hg4 hz3 (fun k hk => (World.ownsRow.lt hown3 k hk).1)
        go_roundg gg
        case measure => omega
        case rel => exact ⟨k + 1, rs ++ rs', by omega, by go_num, by unfold OwnR; rw [rtsV_app, List.length_append]; exact hown4, Lib.hid (by rw [List.map_append, HM.out, hm', HAT.out]; rfl), Lib.hid (fun x hx => (List.mem_append.1 hx).elim (HO.out x) (hok' x)), hb4, Nat.le_trans hz3 hg4.size⟩
theorem all_any {w0 : World} {q : RtAt} (h : q.ok w0) : AllAll w0 q := by
  induction h with
  | flat q h0 h1 => exact all_step q (.flat q h0 h1) (.inl h1)
  | row q b off R h0 h1 h2 h3 h4 h5 ih => exact all_step q (.row q b off R h0 h1 h2 h3 h4 h5) (.inr ⟨b, off, h1, h2, fun i hi => ⟨R i, h3 i hi, h4 i hi, h5 i hi, ih i hi⟩⟩)
end Go.Proofs.YtmhehojjlacfoaaDoor
