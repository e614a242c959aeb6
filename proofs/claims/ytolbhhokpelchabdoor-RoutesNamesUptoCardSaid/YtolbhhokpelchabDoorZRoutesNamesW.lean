/- RoutesNames: the receivers, and the words of hours, of any route and all within it, are as the document says: the law's walk. -/
import Derived.Test.YtolbhhokpelchabDoorZNamA
import Derived.Test.YtolbhhokpelchabDoorMg4
import Derived.Test.YtolbhhokpelchabDoorMg5
import Derived.Test.YtolbhhokpelchabDoorMg6
namespace Go.Proofs.YtolbhhokpelchabDoor
open Go.RowKit

theorem strs_one (W : World) (T : TypeId) (s : ByteArray) (hs : s.size ≤ maxLen) : HasStrs (W.alloc (.cells #[.string s] T)) (some ⟨W.heap.size, 0, none⟩) 1 [s] := by
  refine ⟨Nat.le_refl _, by unfold maxLen; omega, fun x hx => ?_, .inr ⟨W.heap.size, 0, rfl, by simp, fun i hi => ?_⟩⟩
  · rw [List.mem_singleton] at hx; rw [hx]; exact hs
  · obtain rfl : i = 0 := by simpa using hi
    exact (Blk.new W T #[.string s]).cell 0
theorem tell_bound (T : Rt → List ByteArray) (xs : List Rt) (k : Nat) : (tellL T (xs.take k)).length ≤ (tellL T xs).length := by
  conv => rhs; rw [← List.take_append_drop k xs]
  rw [tellL_app, List.length_append]
  omega
set_option maxHeartbeats 12800000 in
set_option maxRecDepth 100000 in
theorem routesNames_walk {w : World} (q : RtAt) (hq : q.ok w) : Calls Tryd.prog 4 #[.agg (tCells q)] w (BoolB true w) := by
  obtain ⟨i1, hj, hy0, hy1, hy2⟩ := info_parts Tryd.infoS
  have hb0 := (Below.refl w.heap.size w).alloc (Nat.le_refl _) (.cells (tCells q) 26)
  have hB0 := Blk.new w 26 (tCells q)
  have hmany := fun W (hW : Below w.heap.size w W) => (many_any hq W 60 hW (by omega)).mono (fun e w' h => (show (∃ y : Int, e = .returned (.int .i64 y) ∧ Below W.heap.size W w' ∧ ((y = 61 ∧ decide ((60 : Int) < y) = true) ∨ (y = (q.n.count : Int) ∧ q.n.count ≤ 60 ∧ decide ((60 : Int) < y) = false))) from by
    obtain ⟨z, h1, h2, h3, h4, h5⟩ := h
    refine ⟨z, h1, h5, ?_⟩
    by_cases hz : z ≤ 60
    · have := h4 hz
      exact .inr ⟨by rw [this], by omega, decide_eq_false (by omega)⟩
    · exact .inl ⟨by omega, decide_eq_true (by omega)⟩))
  rw [show ((60 : Nat) : Int) = 60 from rfl] at hmany
  have hall := fun W (hW : Below w.heap.size w W) (hc : q.n.count ≤ 60) => all_any hq W hW (by omega)
  have hnames := fun W (hW : Below w.heap.size w W) (hc : q.n.count ≤ 60) => routesNames_any W q (hq.call hW) hc
  have htell1 := fun (hc : q.n.count ≤ 60) => tells (recv_ok w) hq hc
  have htell2 := fun (hc : q.n.count ≤ 60) => tells (mute_ok w) hq hc
  have HMANY := Lib.hid hmany
  have HALL := Lib.hid hall
  have HNAMES := Lib.hid hnames
  have HT1 := Lib.hid htell1
  have HT2 := Lib.hid htell2
  have HLEN := Lib.hid (Rt.all_len q.n)
  have HB0 := Lib.hid hb0
  clear hmany hall hnames htell1 htell2 hq hb0
  obtain ⟨n, ma, mc, ba, bc, ua, uc, ka, kc⟩ := q
  simp only [tCells] at *
  go_enter Tryd.func4, Tryd.ntmps4
  go_upto_region 1 with fail
  generalize w.alloc (.cells #[.string n.recv, .slice ma n.ms.length mc, .slice ba n.bys.length bc, .int .i64 n.wait, .int .i64 n.every, .int .i64 n.rep, .slice ua n.mute.length uc, .bool n.on, .slice ka n.kids.length kc] 26) = w1 at *
  obtain ⟨c0, c1, c2, c3, c4, c5, c6, c7, c8⟩ := hB0.cells9
  go_cut [11] (fun v wy => ∃ u : Bool, v = .bool u ∧ (u = false → n.count ≤ 60) ∧ Below w1.heap.size w1 wy)
  case first =>
    go_wp2_with (go_at_call 6; refine (HMANY.out _ HB0.out).mono ?_; rintro e w3 ⟨y, rfl, hb3, hy⟩; rcases hy with ⟨rfl, hy1⟩ | ⟨rfl, hy2, hy1⟩)
    · go_meet
      exact ⟨true, rfl, (fun h => by cases h), hb3⟩
    · go_meet
      exact ⟨false, rfl, (fun _ => hy2), hb3⟩
  case rest =>
  obtain ⟨u, rfl, hu, hb3⟩ := hcut
  obtain ⟨w3, hw3⟩ : ∃ W, W = wc := ⟨_, rfl⟩
  subst hw3
  have hB3 := hB0.call hb3
  have hbw3 := bthen HB0.out hb3
  have HBW3 := Lib.hid hbw3
  clear c0 c1 c2 c3 c4 c5 c6 c7 c8 hB0 hb3 hbw3
  cases u with
  | true =>
    go_wp2_with (go_at_call 7; refine (alive_any _).mono ?_; rintro e w4 ⟨rfl, hb4⟩)
    go_ret
    exact ⟨rfl, bthen HBW3.out hb4⟩
  | false =>
    have hc60 := hu rfl
    have hA := HALL.out w3 HBW3.out hc60
    have HA := Lib.hid hA
    obtain ⟨hl1, hs1⟩ := HT1.out hc60
    obtain ⟨hl2, hs2⟩ := HT2.out hc60
    have hN := fun W (hW : Below w3.heap.size w3 W) => HNAMES.out W (bthen HBW3.out hW) hc60
    have HN := Lib.hid hN
    have hlen : n.all.length ≤ 60 := by rw [HLEN.out]; exact hc60
    clear hA hN HALL HNAMES HMANY HT1 HT2 hu HLEN hc60
    obtain ⟨c0, c1, c2, c3, c4, c5, c6, c7, c8⟩ := hB3.cells9
    go_upto_region 5 with (go_at_call 14; refine HA.out.mono ?_; rintro e w4 ⟨g, c, rs, rfl, hg4, hm4, hok4, hrow4, hlc4, hcm4, hb4⟩)
    have hll : rs.length = n.all.length := by rw [← hm4, List.length_map]
    have HLL := Lib.hid hll
    clear hll
    have hB4 := hB3.call hb4
    have hbw4 := bthen HBW3.out hb4
    have HBW4 := Lib.hid hbw4
    have HB34 := Lib.hid hb4
    have hT0 := TwoS.nil 9 w4 w4.heap.size
    clear c0 c1 c2 c3 c4 c5 c6 c7 c8 hB3 hg4 hb4 hbw4 HA
    unfold maxLen at hcm4
    go_loopg [16, 3, 4] rs.length (fun gg iv v1 v2 wr => ∃ (k : Nat), k + gg = rs.length ∧ iv = .int .i64 (k : Int) ∧ TwoS 9 wr w4.heap.size v1 v2 (tellL recvT (n.all.take k)) (tellL muteT (n.all.take k)) ∧ Below w4.heap.size w4 wr)
    case atStart => exact ⟨0, by omega, rfl, by simpa [tellL] using hT0, Below.refl _ _⟩
    case round =>
      obtain ⟨k, hkg, rfl, hTk, hbk⟩ := hrel
      obtain ⟨p1, d1, rfl, _, _⟩ := hTk.1.form
      obtain ⟨p2, d2, rfl, _, _⟩ := hTk.2.1.form
      cases gk with
      | zero =>
        obtain rfl : k = rs.length := by omega
        have hll := HLL.out
        rw [hll, List.take_length] at hTk
        simp only [hll, List.take_length]
        have hq1 := hTk.1.strs hs1
        have hq2 := hTk.2.1.strs hs2
        obtain ⟨a1, b1, q1, hq1⟩ := hq1
        obtain ⟨a2, b2, q2, hq2⟩ := hq2
        simp only [Value.slice.injEq] at q1 q2
        obtain ⟨rfl, -, rfl⟩ := q1
        obtain ⟨rfl, -, rfl⟩ := q2
        have hBr := hB4.call hbk
        have hN := HN.out wr (bthen HB34.out hbk)
        have ho1 := fun W (hW : Below wr.heap.size wr W) => rOnce_any p1 d1 (tellL recvT n.all) W (hq1.call hW) (by omega)
        have ho2 := fun W (hW : Below wr.heap.size wr W) => rOnce_any p2 d2 (tellL muteT n.all) W (hq2.call hW) (by omega)
        have hsm := fun (X : List ByteArray) (a a' : Option Addr) (c c' : Nat) W (h : HasStrs W a c X) (h' : HasStrs W a' c' X) => (same_any a a' c c' X X W h h').mono (fun e w' h => (show e = .returned (.bool true) ∧ Below W.heap.size W w' from by rw [decide_eq_true rfl] at h; exact h))
        have HN2 := Lib.hid hN
        have HO1 := Lib.hid ho1
        have HO2 := Lib.hid ho2
        have HSM := Lib.hid hsm
        have HBR := Lib.hid (bthen HBW4.out hbk)
        clear hN ho1 ho2 hsm hq1 hq2 hTk hs1 hs2 hB4 hbk hT0 hl1 hl2 hlen hll hkg hrow4 hm4 hok4
        generalize onceL (tellL recvT n.all) = X at *
        generalize onceL (tellL muteT n.all) = Y at *
        generalize tellL recvT n.all = LA at *
        generalize tellL muteT n.all = LB at *
        obtain ⟨c0, c1, c2, c3, c4, c5, c6, c7, c8⟩ := hBr.cells9
        go_upto_region 11 with (go_at_call 17; refine HN2.out.mono ?_; rintro e w6 ⟨xa, xc, ya, yc, rfl, hx6, hy6, hb6⟩)
        clear c0 c1 c2 c3 c4 c5 c6 c7 c8 hBr
        go_wp2_with (first
          | (go_at_call 7; refine (alive_any _).mono ?_; rintro e w7 ⟨rfl, hb7⟩)
          | (go_at_call 19; (with_reducible refine (HO1.out w7 (bthen hb6 hb7)).mono ?_); rintro e w8 ⟨oa1, oc1, rfl, ho1, hb8⟩)
          | (go_at_call 18; (with_reducible refine (HSM.out X _ _ _ _ w8 (hx6.call (bthen hb7 hb8)) ho1).mono ?_); rintro e w9 ⟨rfl, hb9⟩)
          | (go_at_call 19; (with_reducible refine (HO2.out w9 (bthen hb6 (bthen hb7 (bthen hb8 hb9)))).mono ?_); rintro e w10 ⟨oa2, oc2, rfl, ho2, hb10⟩)
          | (go_at_call 18; (with_reducible refine (HSM.out Y _ _ _ _ w10 (hy6.call (bthen hb7 (bthen hb8 (bthen hb9 hb10)))) ho2).mono ?_); rintro e w11 ⟨rfl, hb11⟩))
        go_ret
        exact ⟨rfl, bthen HBR.out (bthen hb6 (bthen hb7 (bthen hb8 (bthen hb9 (bthen hb10 hb11)))))⟩
      | succ gg =>
        have hkl : k < rs.length := by omega
        obtain ⟨r, hr⟩ : ∃ r, rs[k] = r := ⟨_, rfl⟩
        have hkl2 : k < n.all.length := by rw [← HLL.out]; exact hkl
        have hrn : n.all[k]'hkl2 = r.n := by
          have : (rs.map (fun r : RtAt => r.n))[k]? = some r.n := by rw [List.getElem?_map, List.getElem?_eq_getElem hkl, hr]; rfl
          rw [hm4, List.getElem?_eq_getElem (by omega)] at this
          exact Option.some.inj this
        have hta : n.all.take (k + 1) = n.all.take k ++ [r.n] := by rw [List.take_add_one, List.getElem?_eq_getElem (by omega), hrn]; rfl
        have hro := (hok4 r (by rw [← hr]; exact List.getElem_mem hkl)).own.call HBW4.out
        have hlie := (hrow4.lies k hkl).call hbk
        rw [hr] at hlie
        obtain ⟨e0, e1, e2, e3, e4, e5, e6, e7, e8⟩ := hlie
        have hk1 := tell_bound recvT n.all k
        have hk2 := tell_bound muteT n.all k
        have hr1 : r.n.recv.size ≤ maxLen := by have := hro.2.2.2.1; unfold maxLen; omega
        have hr2 := hro.2.2.1
        have hr3 := hro.2.2.2.2.2.2.2
        have HTA := Lib.hid hta
        clear hr hrn hta hro hkl2
        generalize hM1 : tellL recvT (n.all.take k) = M1 at *
        generalize hM2 : tellL muteT (n.all.take k) = M2 at *
        have HM1 : Hid (tellL recvT (n.all.take (k + 1)) = M1 ++ [r.n.recv]) := Lib.hid (by rw [HTA.out, tellL_snoc, hM1]; rfl)
        have HM2 : Hid (tellL muteT (n.all.take (k + 1)) = M2 ++ r.n.mute) := Lib.hid (by rw [HTA.out, tellL_snoc, hM2]; rfl)
        have hbn := (Below.refl wr.heap.size wr).alloc (Nat.le_refl _) (.cells (tCells r) 26)
        have hBn := Blk.new wr 26 (tCells r)
        have hTn := hTk.call hbn
        have HR2 := Lib.hid hr2
        have hbkn := hbk.trans (hbn.mono hbk.size)
        have HR1 := Lib.hid hr1
        clear hM1 hM2 HTA hTk hr2 hbk hbn hr1
        obtain ⟨r, ma', mc', ba', bc', ua', uc', ka', kc'⟩ := r
        simp only [tCells] at *
        go_upto_region 7 with fail
        clear e0 e1 e2 e3 e4 e5 e6 e7 e8
        generalize wr.alloc (.cells #[.string r.recv, .slice ma' r.ms.length mc', .slice ba' r.bys.length bc', .int .i64 r.wait, .int .i64 r.every, .int .i64 r.rep, .slice ua' r.mute.length uc', .bool r.on, .slice ka' r.kids.length kc'] 26) = wn at *
        obtain ⟨f0, f1, f2, f3, f4, f5, f6, f7, f8⟩ := hBn.cells9
        have hzn := hbkn.size
        have hsrc := strs_one wn 9 r.recv HR1.out
        have hba := (Below.refl wn.heap.size wn).alloc (Nat.le_refl _) (.cells #[.string r.recv] 9)
        have hTa := hTn.call hba
        have hza : w4.heap.size ≤ (wn.alloc (.cells #[.string r.recv] 9)).heap.size := Nat.le_trans hzn hba.size
        have hBa := hBn.call hba
        have hbka := hbkn.trans (hba.mono hzn)
        have hne : ∀ v l, OwnS 9 (wn.alloc (.cells #[.string r.recv] 9)) w4.heap.size v l → some wr.heap.size ≠ v.ownBlock := fun v l ho => ho.other hBa (by decide)
        have HNE := Lib.hid hne
        have HTA := Lib.hid hTa
        have HBA := Lib.hid hBa
        have HSRC := Lib.hid hsrc
        clear hTn hne hTa hBa hsrc hBn hT0
        go_wp2_with (first
          | (refine wpList_appL (wn.alloc (.cells #[.string r.recv] 9)) (by rfl) (.tmp 20) (.tmp 23) 23 (by rfl) w4.heap.size 9 i1 (.string ⟨#[]⟩) Tryd.underlying23 hj hy0 hy1 hy2 rfl (.slice p1 M1.length d1) M1 (by rfl) HTA.out.1 (some ⟨wn.heap.size, 0, none⟩) 1 1 [r.recv] (by rfl) rfl HSRC.out (by simp only [List.length_singleton]; omega) hza ?_
             intro na nn nc w5 hnn ho5 hg5 hl5
             have E1 := Lib.hid (show nn = M1.length + 1 from by rw [hnn, List.length_append]; rfl)
             have hT5 := HTA.out.grow ho5 hg5 hl5
             have hB5 := HBA.out.push hg5 (HNE.out _ _ HTA.out.1)
             have hc5 := hB5.cells9.2.2.2.2.2.2.1
             have hb5 := OwnS.grown HTA.out.1 hbka (Nat.le_refl _) hza hg5
             have hz5 := Nat.le_trans hza hg5.size)
          | (refine wpList_appL w5 (by rfl) (.tmp 25) (.tmp 27) 23 (by rfl) w4.heap.size 9 i1 (.string ⟨#[]⟩) Tryd.underlying23 hj hy0 hy1 hy2 rfl (.slice p2 M2.length d2) M2 (by rfl) hT5.2.1 ua' r.mute.length uc' r.mute (by rfl) rfl (HR2.out.call hb5) (by omega) hz5 ?_
             intro nb mb cb w6 hmm ho6 hg6 hl6
             have E2 := Lib.hid (show mb = M2.length + r.mute.length from by rw [hmm, List.length_append])
             have hT6 := (hT5.swap.grow ho6 hg6 hl6).swap
             have hb6 := OwnS.grown hT5.2.1 hb5 (Nat.le_refl _) hz5 hg6))
        have HT6 := Lib.hid hT6
        have HB6 := Lib.hid hb6
        clear hT6 hb6 hT5 hb5 ho5 ho6 hg5 hg6 hl5 hl6 hB5 hc5
        go_roundg gg
        case measure => omega
        case rel => exact ⟨k + 1, by omega, by go_num, by rw [HM1.out, HM2.out]; have h := HT6.out; rw [E1.out, E2.out] at h; exact h, HB6.out⟩
end Go.Proofs.YtolbhhokpelchabDoor
