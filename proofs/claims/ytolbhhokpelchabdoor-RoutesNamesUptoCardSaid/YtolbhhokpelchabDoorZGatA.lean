/- The contract of gather's closure, whatever tells of a route. -/
import Derived.Test.YtolbhhokpelchabDoorMg2
namespace Go.Proofs.YtolbhhokpelchabDoor
open Go.RowKit

set_option maxHeartbeats 6400000 in
set_option maxRecDepth 100000 in
theorem gat_step1 {w0 : World} {tB cB aB mB : Nat} (q : RtAt) (hq : q.own w0) (W : World) (v : Value) (L : List ByteArray) (hL : L.length + (recvT q.n).length ≤ 100000000) (hW : GatW w0 37 tB cB aB mB W v L) :
    Calls Tryd.prog 56 #[.agg (tCells q), .pointer (some ⟨tB, 0, none⟩), .pointer (some ⟨cB, 0, none⟩), .pointer (some ⟨aB, 0, none⟩)] W (GatP w0 37 tB cB aB mB W (L ++ recvT q.n)) := by
  obtain ⟨i1, hj, hy0, hy1, hy2⟩ := info_parts Tryd.infoS
  have hb := (Below.refl W.heap.size W).alloc (Nat.le_refl _) (.cells (tCells q) 26)
  have hB := Blk.new W 26 (tCells q)
  have hW1 := hW.call hb
  have hk1 := KeepR.of hb
  have ht := names1_any w0 q _ hq hW1.below
  have HQ := Lib.hid hq
  have HTT := Lib.hid ht
  have HK1 := Lib.hid hk1
  clear ht hk1 hb hW
  obtain ⟨n, ma, mc, ba, bc, ua, uc, ka, kc⟩ := q
  simp only [tCells] at *
  generalize recvT n = TT at *
  go_enter Tryd.func56, Tryd.ntmps56
  go_upto_region 1 with fail
  generalize W.alloc (.cells #[.string n.recv, .slice ma n.ms.length mc, .slice ba n.bys.length bc, .int .i64 n.wait, .int .i64 n.every, .int .i64 n.rep, .slice ua n.mute.length uc, .bool n.on, .slice ka n.kids.length kc] 26) = wx at *
  obtain ⟨c0, c1, c2, c3, c4, c5, c6, c7, c8⟩ := hB.cells9
  have g1 := hW1.tell.cell1
  go_upto_region 2 with (go_at_call 37; refine HTT.out.mono ?_; rintro e w2 ⟨a, c, rfl, hs2, ho2, hb2⟩)
  have hW2 := hW1.call hb2
  have HKP := Lib.hid (HK1.out.trans (KeepR.of hb2))
  clear hW1 g1 c0 c1 c2 c3 c4 c5 c6 c7 c8 hB HTT HK1 hb2 hq HQ
  obtain ⟨hs21, hs22, hs23, hs24⟩ := hs2
  by_cases hl0 : TT.length = 0
  · obtain rfl : TT = [] := List.eq_nil_of_length_eq_zero hl0
    rw [List.append_nil]
    have HW2 := Lib.hid hW2
    clear hW2 hs21 hs22 hs23 hs24 ho2 hl0 hL
    simp only [List.length_nil]
    go_wp2_with fail
    refine wp_loop_rounds 1 ?_
    rw [rounds_succ]
    go_wp2_with fail
    go_end0
    exact ⟨rfl, ⟨_, HW2.out⟩, HKP.out⟩
  · have hS : ∃ b off, a = some ⟨b, off, none⟩ ∧ b < w2.heap.size ∧ ∀ i (h : i < TT.length), w2.cell? ⟨b, off + i, none⟩ = some (.string TT[i]) := by
      rcases hs24 with h | h
      · exact absurd (by rw [h]; rfl) hl0
      · exact h
    obtain ⟨b, off, rfl, hbl, hcell⟩ := hS
    have hO : (b < w0.heap.size ∧ ∀ i (h : i < TT.length), w0.cell? ⟨b, off + i, none⟩ = some (.string TT[i])) ∨ TT.length = 1 := by
      rcases ho2 with ⟨_, _, _, h | ⟨b', off', e, h1, h2⟩⟩ | h
      · exact absurd (by rw [h]; rfl) hl0
      · simp only [Option.some.injEq, Addr.mk.injEq] at e
        obtain ⟨rfl, rfl, _⟩ := e
        exact .inl ⟨h1, h2⟩
      · exact .inr h
    have HS := Lib.hid hs23
    have HO := Lib.hid hO
    have HC := Lib.hid hcell
    clear hs23 hs24 ho2 hl0 hbl hO hcell
    go_wp2_with fail
    go_loopg [11, 6] TT.length (fun gg iv _ wr => ∃ (k : Nat) (vk : Value), k + gg = TT.length ∧ iv = .int .i64 (k : Int) ∧ GatW w0 37 tB cB aB mB wr vk (L ++ TT.take k) ∧ Hid (KeepR W wr) ∧ Hid (∀ h : k < TT.length, wr.cell? ⟨b, off + k, none⟩ = some (.string TT[k])))
    case atStart => exact ⟨0, _, by omega, rfl, by simpa using hW2, HKP, Lib.hid (fun h => HC.out 0 h)⟩
    case round =>
      obtain ⟨k, vk, hkg, rfl, hWk, HK, HCk⟩ := hrel
      cases gk with
      | zero =>
        obtain rfl : k = TT.length := by omega
        rw [List.take_length] at hWk
        have HWK := Lib.hid hWk
        clear hWk
        go_wp2_with fail
        go_end0
        exact ⟨rfl, ⟨_, HWK.out⟩, HK.out⟩
      | succ gg =>
        have hkl : k < TT.length := by omega
        obtain ⟨s, hsk⟩ : ∃ s, TT[k] = s := ⟨_, rfl⟩
        have htk : TT.take (k + 1) = TT.take k ++ [s] := by rw [← hsk, List.take_add_one, List.getElem?_eq_getElem hkl]; rfl
        have hsm := HS.out _ (List.getElem_mem hkl)
        have hck := HCk.out hkl
        rw [hsk] at hsm hck
        have hml : (L ++ TT.take k).length ≤ 100000000 := by rw [List.length_append, List.length_take]; omega
        have HTK := Lib.hid htk
        clear hsk htk
        generalize hM : L ++ TT.take k = M at *
        have HM := Lib.hid hM
        clear hM
        have hlk := hWk.cnt.look s hsm
        have hN8 := cntL_len M s
        obtain ⟨N, hN⟩ : ∃ N, cntL M s = N := ⟨_, rfl⟩
        rw [hN] at hlk hN8
        have HN := Lib.hid hN
        have hN9 : N ≤ 100000000 := by omega
        have x1 := hWk.times.cell1
        have HWK := Lib.hid hWk
        have HSM := Lib.hid hsm
        have HML := Lib.hid hml
        have hcnt := hWk.cnt
        clear hWk hN hsm hml hN8 HCk
        go_upto_region 5 with (refine wpList_putC _ rfl _ _ _ rfl mB M s rfl hcnt (by have := HML.out; omega) rfl (by rw [HN.out]; rfl) HSM.out ?_; intro w4 hc4 hg4)
        obtain ⟨m1, m2, m3, m4, m5, m6⟩ := HWK.out.mid hc4 hg4
        have hlk4 := hc4.look s HSM.out
        rw [cntL_snoc, if_pos rfl, HN.out] at hlk4
        have y1 := m3.cell1
        have y2 := m4.cell1
        have y3 := m4.frozen 0
        clear hlk x1 hck
        have hz4 := m1.size
        have hko : (onceL M).length ≤ 100000000 := Nat.le_trans (once_len M) HML.out
        have hnext : ∀ W', Below w0.heap.size w0 W' → ∀ h : k + 1 < TT.length, W'.cell? ⟨b, off + (k + 1), none⟩ = some (.string TT[k + 1]) := by
          intro W' hb' h
          rcases HO.out with ⟨h1, h2⟩ | h1
          · exact (hb'.cell (p := ⟨b, off + (k + 1), none⟩) h1).trans (h2 _ h)
          · omega
        have HNX := Lib.hid hnext
        have hMs : M ++ [s] = L ++ TT.take (k + 1) := by rw [HTK.out, ← HM.out, List.append_assoc]
        have HMS := Lib.hid hMs
        have HKR := Lib.hid (HK.out.trans m6)
        clear hnext hMs HTK
        by_cases hn0 : N = 0
        · subst hn0
          have hlk5 : (Instr.lookup 77 (.map (some mB)) (.string s) false).run Tryd.prog w4 = .ok (.int .i64 1) w4 := hlk4
          have HNEW := Lib.hid (fun (W2 : World) (v2 : Value) (ho : OwnS 9 W2 w0.heap.size v2 (onceL M ++ [s])) (hg2 : w4.grownBy W2 vk.ownBlock) => HWK.out.new HN.out hc4 hg4 ho hg2)
          obtain ⟨ka', kc', rfl, _, _⟩ := m5.form
          clear hlk4
          go_upto_region 6 with fail
          clear hlk5
          go_wp2_with (refine wpList_push w4 (by rfl) (.tmp 23) (.tmp 25) 23 (by rfl) w0.heap.size 9 i1 (.string ⟨#[]⟩) 16 Tryd.underlying23 hj hy0 hy1 hy2 rfl (.slice ka' (onceL M).length kc') (onceL M).length (strsV (onceL M)) (by rfl) m5 (.string s) (by rfl) rfl (by unfold maxLen; omega) (by omega) hz4 ?_; intro g' c' w5 ho5 hg5; have t4 := m4.push hg5 (m5.other m4 (by decide)); have z2 := t4.cell1; have z3 := t4.frozen 0)
          have hfin := HNEW.out w5 (.slice (some ⟨g', 0, none⟩) ((onceL M).length + 1) c') (by unfold OwnS; rw [List.length_append, ← strsV_push]; exact ho5) hg5
          have HFIN := Lib.hid hfin
          clear hfin ho5 hg5 t4 z2 z3 m1 m2 m3 m4 m5 m6
          go_roundg gg
          case measure => omega
          case rel => exact ⟨k + 1, _, by omega, by go_num, by rw [← HMS.out]; exact HFIN.out.1, Lib.hid (HK.out.trans HFIN.out.2), Lib.hid (HNX.out _ HFIN.out.1.below)⟩
        · have hne : ((((N : Nat) : Int) + 1) == 1) = false := by rw [beq_eq_false_iff_ne]; omega
          have hlk5 : (Instr.lookup 77 (.map (some mB)) (.string s) false).run Tryd.prog w4 = .ok (.int .i64 ((N : Int) + 1)) w4 := hlk4
          have HOLD := Lib.hid (HWK.out.old (by rw [HN.out]; exact hn0) hc4 hg4)
          clear hlk4
          go_wp2_with fail
          go_roundg gg
          case measure => omega
          case rel => exact ⟨k + 1, vk, by omega, by go_num, by rw [← HMS.out]; exact HOLD.out.1, HKR, Lib.hid (HNX.out _ HOLD.out.1.below)⟩
end Go.Proofs.YtolbhhokpelchabDoor
