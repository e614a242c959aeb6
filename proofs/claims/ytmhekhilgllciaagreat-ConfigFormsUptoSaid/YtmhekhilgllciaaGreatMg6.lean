/- The contracts of routes' each and of gather of texts. -/
import Derived.Test.YtmhekhilgllciaaGreatMg5
import Derived.Deep.RegionWith
import Derived.Deep.CutBlock
import Derived.Deep.RegionHeld3
import Derived.Test.YtmhekhilgllciaaGreatMg3
import Derived.Test.YtmhekhilgllciaaGreatMg4
import Derived.Test.YtmhekhilgllciaaGreatMg1
import Derived.Lib.SmallJoins
import Derived.Test.YtmhekhilgllciaaGreatShelf
namespace Go.Proofs.YtmhekhilgllciaaGreat
open Go.RowKit

set_option maxHeartbeats 6400000 in
set_option maxRecDepth 100000 in
theorem each_any {w0 : World} {F tB cB aB mB : Nat} {T : Rt → List ByteArray} (HG : GatAll w0 F tB cB aB mB T) {q : RtAt} (h : q.ok w0) (W : World) (v : Value) (L : List ByteArray)
    (hL : L.length + (tellL T q.n.all).length ≤ 100000000) (hW : GatW w0 F tB cB aB mB W v L) :
    Calls Tryz.prog 132 #[.agg (tCells q), gatF tB cB aB] W (GatP w0 F tB cB aB mB W (L ++ tellL T q.n.all)) := by
  have hb1 := (Below.refl W.heap.size W).alloc (Nat.le_refl _) (.cells (tCells q) 27)
  have hz1 : (W.alloc (.cells (tCells q) 27)).heap.size = W.heap.size + 1 := by simp
  have hb2 := hb1.alloc (by omega) (.cells #[gatF tB cB aB] 148)
  have hz2 : ((W.alloc (.cells (tCells q) 27)).alloc (.cells #[gatF tB cB aB] 148)).heap.size = W.heap.size + 2 := by simp
  have hb3 := hb2.alloc (by omega) (.cells #[visF (W.heap.size + 1) (W.heap.size + 2)] 148)
  have hB := ((Blk.new W 27 (tCells q)).alloc (.cells #[gatF tB cB aB] 148)).alloc (.cells #[visF (W.heap.size + 1) (W.heap.size + 2)] 148)
  have hD := (Blk.new (W.alloc (.cells (tCells q) 27)) 148 #[gatF tB cB aB]).alloc (.cells #[visF (W.heap.size + 1) (W.heap.size + 2)] 148)
  rw [hz1] at hD
  have hV := Blk.new ((W.alloc (.cells (tCells q) 27)).alloc (.cells #[gatF tB cB aB] 148)) 148 #[visF (W.heap.size + 1) (W.heap.size + 2)]
  rw [hz2] at hV
  have hcall := eachIn_any HG h _ v L hL ⟨hW.call hb3, hD, hV⟩
  have hv1 := hV.cell1
  have HK := Lib.hid (KeepR.of hb3)
  have HC := Lib.hid hcall
  clear hb1 hz1 hb2 hz2 hb3 hD hV hcall hW h HG hL
  obtain ⟨n, ma, mc, ba, bc, ua, uc, ka, kc⟩ := q
  simp only [tCells, gatF, visF] at *
  go_enter Tryz.func132, Tryz.ntmps132
  go_upto_region 3 with fail
  generalize ((W.alloc (.cells #[.string n.recv, .slice ma n.ms.length mc, .slice ba n.bys.length bc, .int .i64 n.wait, .int .i64 n.every, .int .i64 n.rep, .slice ua n.mute.length uc, .bool n.on, .slice ka n.kids.length kc] 27)).alloc (.cells #[.func (.func 198) #[] #[.pointer (some ⟨tB, 0, none⟩), .pointer (some ⟨cB, 0, none⟩), .pointer (some ⟨aB, 0, none⟩)]] 148)).alloc (.cells #[.func (.func 197) #[] #[.pointer (some ⟨W.heap.size + 1, 0, none⟩), .pointer (some ⟨W.heap.size + 2, 0, none⟩)]] 148) = wx at *
  obtain ⟨c0, c1, c2, c3, c4, c5, c6, c7, c8⟩ := hB.cells9
  go_wp2_with (go_at_call 197; refine HC.out.mono ?_; rintro e w2 ⟨rfl, hg2, hk2⟩)
  go_end0
  exact ⟨rfl, hg2, HK.out.trans hk2⟩
/-- all of them come of routes that lie there -/
theorem all_own {w : World} {q : RtAt} (h : q.ok w) : ∀ x ∈ q.n.all, ∃ r : RtAt, r.n = x ∧ r.own w := by
  induction h with
  | flat q h0 h1 =>
    intro x hx
    rw [Rt.all_eq, h1] at hx
    simp only [allRs, List.mem_singleton] at hx
    exact ⟨q, hx.symm, h0.1⟩
  | row q b off R h0 h1 h2 h3 h4 h5 ih =>
    intro x hx
    rw [Rt.all_eq, List.mem_cons] at hx
    rcases hx with rfl | hx
    · exact ⟨q, rfl, h0.1⟩
    · have hm : ∀ (xs : List Rt), x ∈ allRs xs → ∃ y ∈ xs, x ∈ y.all := by
        intro xs
        induction xs with
        | nil => intro h; simp [allRs] at h
        | cons y ys ihy =>
          intro h
          simp only [allRs, List.mem_append] at h
          rcases h with h | h
          · exact ⟨y, List.mem_cons_self, h⟩
          · obtain ⟨z, hz, hx⟩ := ihy h
            exact ⟨z, List.mem_cons_of_mem _ hz, hx⟩
      obtain ⟨y, hy, hxy⟩ := hm _ hx
      obtain ⟨i, hi, rfl⟩ := List.mem_iff_getElem.1 hy
      rw [← h3 i hi] at hxy
      exact ih i hi x hxy
theorem tell_len {T : Rt → List ByteArray} {m : Nat} : ∀ (xs : List Rt), (∀ x ∈ xs, (T x).length ≤ m) → (tellL T xs).length ≤ xs.length * m
  | [], _ => by simp [tellL]
  | x :: xs, h => by
    have e : tellL T (x :: xs) = T x ++ tellL T xs := rfl
    have h1 := h x List.mem_cons_self
    have h2 := tell_len xs (fun y hy => h y (List.mem_cons_of_mem _ hy))
    rw [e, List.length_append, List.length_cons, Nat.succ_mul]
    omega
/-- what tells: few texts, none too long -/
def TellOk (w : World) (T : Rt → List ByteArray) : Prop := ∀ r : RtAt, r.own w → (T r.n).length ≤ 1048576 ∧ ∀ s ∈ T r.n, s.size ≤ maxLen
theorem recv_ok (w : World) : TellOk w recvT := fun r h => ⟨by simp [recvT], fun s hs => by
  simp only [recvT, List.mem_singleton] at hs
  have := h.2.2.2.1
  rw [hs]; unfold maxLen; omega⟩
theorem mute_ok (w : World) : TellOk w muteT := fun _r h => ⟨h.2.2.2.2.2.2.2, h.2.2.1.2.2.1⟩
theorem tells {w : World} {T : Rt → List ByteArray} (hT : TellOk w T) {q : RtAt} (h : q.ok w) (hc : q.n.count ≤ 60) : (tellL T q.n.all).length ≤ 62914560 ∧ ∀ s ∈ tellL T q.n.all, s.size ≤ maxLen := by
  have ha := all_own h
  constructor
  · have := tell_len (T := T) (m := 1048576) q.n.all (fun x hx => by obtain ⟨r, rfl, hr⟩ := ha x hx; exact (hT r hr).1)
    rw [Rt.all_len] at this
    omega
  · intro s hs
    obtain ⟨x, hx, hs⟩ := List.mem_flatMap.1 hs
    obtain ⟨r, rfl, hr⟩ := ha x hx
    exact (hT r hr).2 s hs
/-- what gather answers -/
def RowP (M : List ByteArray) (w : World) (e : Ending) (w' : World) : Prop := ∃ a c, e = .returned (.slice a M.length c) ∧ HasStrs w' a c M ∧ Below w.heap.size w w'
set_option maxHeartbeats 6400000 in
set_option maxRecDepth 100000 in
theorem gather_any (F : Nat) (T : Rt → List ByteArray) (w : World) (HG : ∀ tB cB aB mB, GatAll w F tB cB aB mB T) (hT : TellOk w T) (q : RtAt) (h : q.ok w) (hc : q.n.count ≤ 60) :
    Calls Tryz.prog 136 #[.agg (tCells q), .func (.func F) #[] #[]] w (RowP (onceL (tellL T q.n.all)) w) := by
  obtain ⟨hl, hs⟩ := tells hT h hc
  have hb1 := (Below.refl w.heap.size w).alloc (Nat.le_refl _) (.cells (tCells q) 27)
  have hz1 : (w.alloc (.cells (tCells q) 27)).heap.size = w.heap.size + 1 := by simp
  have hb2 := hb1.alloc (by omega) (.cells #[.func (.func F) #[] #[]] 149)
  have hz2 : ((w.alloc (.cells (tCells q) 27)).alloc (.cells #[.func (.func F) #[] #[]] 149)).heap.size = w.heap.size + 2 := by simp
  have hB2 := (Blk.new w 27 (tCells q)).alloc (.cells #[.func (.func F) #[] #[]] 149)
  have hF2 := Blk.new (w.alloc (.cells (tCells q) 27)) 149 #[.func (.func F) #[] #[]]
  rw [hz1] at hF2
  have HS := Lib.hid hs
  have HC := Lib.hid hc
  have HQ := Lib.hid h
  have hgall := fun tB cB aB mB => @each_any w F tB cB aB mB T (HG tB cB aB mB) q h
  have HEACH := Lib.hid hgall
  clear hb1 hz1 hs hc h hgall HG hT
  obtain ⟨n, ma, mc, ba, bc, ua, uc, ka, kc⟩ := q
  simp only [tCells] at *
  go_enter Tryz.func136, Tryz.ntmps136
  go_upto_region 1 with fail
  generalize (w.alloc (.cells #[.string n.recv, .slice ma n.ms.length mc, .slice ba n.bys.length bc, .int .i64 n.wait, .int .i64 n.every, .int .i64 n.rep, .slice ua n.mute.length uc, .bool n.on, .slice ka n.kids.length kc] 27)).alloc (.cells #[.func (.func F) #[] #[]] 149) = w2 at *
  have hA3 := Blk.new w2 24 #[.slice none 0 0]
  rw [hz2] at hA3
  have hb3 := hb2.alloc hb2.size (.cells #[.slice none 0 0] 24)
  have hB3 := hB2.alloc (.cells #[.slice none 0 0] 24)
  have hF3 := hF2.alloc (.cells #[.slice none 0 0] 24)
  have hz3 : (w2.alloc (.cells #[.slice none 0 0] 24)).heap.size = w.heap.size + 3 := by simp; omega
  clear hb2 hB2 hF2
  go_upto_region 2 with fail
  generalize w2.alloc (.cells #[.slice none 0 0] 24) = w3 at *
  have hmm := @run_makeMap Tryz.prog
  have hz4 : (w3.alloc (.map #[] 0)).heap.size = w3.heap.size + 1 := by simp
  have hM4 := CntIs.made w3
  rw [hz3] at hM4
  have hM5 := hM4.call ((Below.refl _ _).alloc (Nat.le_refl _) (.cells #[.map (some (w.heap.size + 3))] 192))
  have hC5 := Blk.new (w3.alloc (.map #[] 0)) 192 #[.map (some (w.heap.size + 3))]
  rw [hz4, hz3] at hC5
  have hA5 := (hA3.alloc (.map #[] 0)).alloc (.cells #[.map (some (w.heap.size + 3))] 192)
  have hB5 := (hB3.alloc (.map #[] 0)).alloc (.cells #[.map (some (w.heap.size + 3))] 192)
  have hF5 := (hF3.alloc (.map #[] 0)).alloc (.cells #[.map (some (w.heap.size + 3))] 192)
  have hb5 := (hb3.alloc hb3.size (.map #[] 0)).alloc (by rw [hz4]; have := hb3.size; omega) (.cells #[.map (some (w.heap.size + 3))] 192)
  have hGW : GatW w F (w.heap.size + 1) (w.heap.size + 4) (w.heap.size + 2) (w.heap.size + 3) _ (.slice none 0 0) [] := ⟨hb5, hF5, hC5, hA5, OwnS.nil _ _ _, hM5, by omega, by omega⟩
  have hcall := HEACH.out _ _ _ _ _ _ _ (by simp only [List.length_nil]; omega) hGW
  rw [List.nil_append] at hcall
  have HCALL := Lib.hid hcall
  simp only [gatF] at HCALL
  clear hA3 hb3 hB3 hF3 hM4 hM5 hC5 hA5 hF5 hb5 hGW hcall HEACH hz4
  go_upto_region 3 with fail
  generalize (w3.alloc (.map #[] 0)).alloc (.cells #[.map (some (w.heap.size + 3))] 192) = w5 at *
  obtain ⟨c0, c1, c2, c3, c4, c5, c6, c7, c8⟩ := hB5.cells9
  clear hB5
  go_wp2_with (go_at_call 132; refine HCALL.out.mono ?_; rintro e w6 ⟨rfl, ⟨v6, hg6⟩, hk6⟩; obtain ⟨a6, c6', rfl, _, _⟩ := hg6.own.form; have y1 := hg6.all.cell1)
  go_ret
  obtain ⟨a7, c7', e7, h7⟩ := hg6.own.strs (fun s hs => HS.out s ((mem_once _ s).1 hs))
  simp only [Value.slice.injEq] at e7
  obtain ⟨rfl, _, rfl⟩ := e7
  exact ⟨_, _, rfl, h7, hg6.below⟩
end Go.Proofs.YtmhekhilgllciaaGreat
/- The contract of gather's closure, whatever tells of a route. -/
namespace Go.Proofs.YtmhekhilgllciaaGreat
open Go.RowKit

set_option maxHeartbeats 6400000 in
set_option maxRecDepth 100000 in
theorem gat_step1 {w0 : World} {tB cB aB mB : Nat} (q : RtAt) (hq : q.own w0) (W : World) (v : Value) (L : List ByteArray) (hL : L.length + (recvT q.n).length ≤ 100000000) (hW : GatW w0 134 tB cB aB mB W v L) :
    Calls Tryz.prog 198 #[.agg (tCells q), .pointer (some ⟨tB, 0, none⟩), .pointer (some ⟨cB, 0, none⟩), .pointer (some ⟨aB, 0, none⟩)] W (GatP w0 134 tB cB aB mB W (L ++ recvT q.n)) := by
  obtain ⟨i1, hj, hy0, hy1, hy2⟩ := info_parts Tryz.infoS
  have hb := (Below.refl W.heap.size W).alloc (Nat.le_refl _) (.cells (tCells q) 27)
  have hB := Blk.new W 27 (tCells q)
  have hW1 := hW.call hb
  have hk1 := KeepR.of hb
  have ht := names1_any w0 q _ hq hW1.below
  have HQ := Lib.hid hq
  have HTT := Lib.hid ht
  have HK1 := Lib.hid hk1
  clear ht hk1 hb hW
  obtain ⟨n, ma, mc, ba, bc, ua, uc, ka, kc⟩ := q
  simp only [tCells] at *
  generalize recvT n = TT at *
  go_enter Tryz.func198, Tryz.ntmps198
  go_upto_region 1 with fail
  generalize W.alloc (.cells #[.string n.recv, .slice ma n.ms.length mc, .slice ba n.bys.length bc, .int .i64 n.wait, .int .i64 n.every, .int .i64 n.rep, .slice ua n.mute.length uc, .bool n.on, .slice ka n.kids.length kc] 27) = wx at *
  obtain ⟨c0, c1, c2, c3, c4, c5, c6, c7, c8⟩ := hB.cells9
  have g1 := hW1.tell.cell1
  go_upto_region 2 with (go_at_call 134; refine HTT.out.mono ?_; rintro e w2 ⟨a, c, rfl, hs2, ho2, hb2⟩)
  have hW2 := hW1.call hb2
  have HKP := Lib.hid (HK1.out.trans (KeepR.of hb2))
  clear hW1 g1 c0 c1 c2 c3 c4 c5 c6 c7 c8 hB HTT HK1 hb2 hq HQ
  obtain ⟨hs21, hs22, hs23, hs24⟩ := hs2
  by_cases hl0 : TT.length = 0
  · obtain rfl : TT = [] := List.eq_nil_of_length_eq_zero hl0
    rw [List.append_nil]
    have HW2 := Lib.hid hW2
    clear hW2 hs21 hs22 hs23 hs24 ho2 hl0 hL
    simp only [List.length_nil]
    go_wp2_with fail
    refine wp_loop_rounds 1 ?_
    rw [rounds_succ]
    go_wp2_with fail
    go_end0
    exact ⟨rfl, ⟨_, HW2.out⟩, HKP.out⟩
  · have hS : ∃ b off, a = some ⟨b, off, none⟩ ∧ b < w2.heap.size ∧ ∀ i (h : i < TT.length), w2.cell? ⟨b, off + i, none⟩ = some (.string TT[i]) := by
      rcases hs24 with h | h
      · exact absurd (by rw [h]; rfl) hl0
      · exact h
    obtain ⟨b, off, rfl, hbl, hcell⟩ := hS
    have hO : (b < w0.heap.size ∧ ∀ i (h : i < TT.length), w0.cell? ⟨b, off + i, none⟩ = some (.string TT[i])) ∨ TT.length = 1 := by
      rcases ho2 with ⟨_, _, _, h | ⟨b', off', e, h1, h2⟩⟩ | h
      · exact absurd (by rw [h]; rfl) hl0
      · simp only [Option.some.injEq, Addr.mk.injEq] at e
        obtain ⟨rfl, rfl, _⟩ := e
        exact .inl ⟨h1, h2⟩
      · exact .inr h
    have HS := Lib.hid hs23
    have HO := Lib.hid hO
    have HC := Lib.hid hcell
    clear hs23 hs24 ho2 hl0 hbl hO hcell
    go_wp2_with fail
    go_loopg [11, 6] TT.length (fun gg iv _ wr => ∃ (k : Nat) (vk : Value), k + gg = TT.length ∧ iv = .int .i64 (k : Int) ∧ GatW w0 134 tB cB aB mB wr vk (L ++ TT.take k) ∧ Hid (KeepR W wr) ∧ Hid (∀ h : k < TT.length, wr.cell? ⟨b, off + k, none⟩ = some (.string TT[k])))
    case atStart => exact ⟨0, _, by omega, rfl, by simpa using hW2, HKP, Lib.hid (fun h => HC.out 0 h)⟩
    case round =>
      obtain ⟨k, vk, hkg, rfl, hWk, HK, HCk⟩ := hrel
      cases gk with
      | zero =>
        obtain rfl : k = TT.length := by omega
        rw [List.take_length] at hWk
        have HWK := Lib.hid hWk
        clear hWk
        go_wp2_with fail
        go_end0
        exact ⟨rfl, ⟨_, HWK.out⟩, HK.out⟩
      | succ gg =>
        have hkl : k < TT.length := by omega
        obtain ⟨s, hsk⟩ : ∃ s, TT[k] = s := ⟨_, rfl⟩
        have htk : TT.take (k + 1) = TT.take k ++ [s] := by rw [← hsk, List.take_add_one, List.getElem?_eq_getElem hkl]; rfl
        have hsm := HS.out _ (List.getElem_mem hkl)
        have hck := HCk.out hkl
        rw [hsk] at hsm hck
        have hml : (L ++ TT.take k).length ≤ 100000000 := by rw [List.length_append, List.length_take]; omega
        have HTK := Lib.hid htk
        clear hsk htk
        generalize hM : L ++ TT.take k = M at *
        have HM := Lib.hid hM
        clear hM
        have hlk := hWk.cnt.look s hsm
        have hN8 := cntL_len M s
        obtain ⟨N, hN⟩ : ∃ N, cntL M s = N := ⟨_, rfl⟩
        rw [hN] at hlk hN8
        have HN := Lib.hid hN
        have hN9 : N ≤ 100000000 := by omega
        have x1 := hWk.times.cell1
        have HWK := Lib.hid hWk
        have HSM := Lib.hid hsm
        have HML := Lib.hid hml
        have hcnt := hWk.cnt
        clear hWk hN hsm hml hN8 HCk
        go_upto_region 5 with (refine wpList_putC _ rfl _ _ _ rfl mB M s rfl hcnt (by have := HML.out; omega) rfl (by rw [HN.out]; rfl) HSM.out ?_; intro w4 hc4 hg4)
        obtain ⟨m1, m2, m3, m4, m5, m6⟩ := HWK.out.mid hc4 hg4
        have hlk4 := hc4.look s HSM.out
        rw [cntL_snoc, if_pos rfl, HN.out] at hlk4
        have y1 := m3.cell1
        have y2 := m4.cell1
        have y3 := m4.frozen 0
        clear hlk x1 hck
        have hz4 := m1.size
        have hko : (onceL M).length ≤ 100000000 := Nat.le_trans (once_len M) HML.out
        have hnext : ∀ W', Below w0.heap.size w0 W' → ∀ h : k + 1 < TT.length, W'.cell? ⟨b, off + (k + 1), none⟩ = some (.string TT[k + 1]) := by
          intro W' hb' h
          rcases HO.out with ⟨h1, h2⟩ | h1
          · exact (hb'.cell (p := ⟨b, off + (k + 1), none⟩) h1).trans (h2 _ h)
          · omega
        have HNX := Lib.hid hnext
        have hMs : M ++ [s] = L ++ TT.take (k + 1) := by rw [HTK.out, ← HM.out, List.append_assoc]
        have HMS := Lib.hid hMs
        have HKR := Lib.hid (HK.out.trans m6)
        clear hnext hMs HTK
        by_cases hn0 : N = 0
        · subst hn0
          have hlk5 : (Instr.lookup 192 (.map (some mB)) (.string s) false).run Tryz.prog w4 = .ok (.int .i64 1) w4 := hlk4
          have HNEW := Lib.hid (fun (W2 : World) (v2 : Value) (ho : OwnS 9 W2 w0.heap.size v2 (onceL M ++ [s])) (hg2 : w4.grownBy W2 vk.ownBlock) => HWK.out.new HN.out hc4 hg4 ho hg2)
          obtain ⟨ka', kc', rfl, _, _⟩ := m5.form
          clear hlk4
          go_upto_region 6 with fail
          clear hlk5
          go_wp2_with (refine wpList_push w4 (by rfl) (.tmp 23) (.tmp 25) 24 (by rfl) w0.heap.size 9 i1 (.string ⟨#[]⟩) 16 Tryz.underlying24 hj hy0 hy1 hy2 rfl (.slice ka' (onceL M).length kc') (onceL M).length (strsV (onceL M)) (by rfl) m5 (.string s) (by rfl) rfl (by unfold maxLen; omega) (by omega) hz4 ?_; intro g' c' w5 ho5 hg5; have t4 := m4.push hg5 (m5.other m4 (by decide)); have z2 := t4.cell1; have z3 := t4.frozen 0)
          have hfin := HNEW.out w5 (.slice (some ⟨g', 0, none⟩) ((onceL M).length + 1) c') (by unfold OwnS; rw [List.length_append, ← strsV_push]; exact ho5) hg5
          have HFIN := Lib.hid hfin
          clear hfin ho5 hg5 t4 z2 z3 m1 m2 m3 m4 m5 m6
          go_roundg gg
          case measure => omega
          case rel => exact ⟨k + 1, _, by omega, by go_num, by rw [← HMS.out]; exact HFIN.out.1, Lib.hid (HK.out.trans HFIN.out.2), Lib.hid (HNX.out _ HFIN.out.1.below)⟩
        · have hne : ((((N : Nat) : Int) + 1) == 1) = false := by rw [beq_eq_false_iff_ne]; omega
          have hlk5 : (Instr.lookup 192 (.map (some mB)) (.string s) false).run Tryz.prog w4 = .ok (.int .i64 ((N : Int) + 1)) w4 := hlk4
          have HOLD := Lib.hid (HWK.out.old (by rw [HN.out]; exact hn0) hc4 hg4)
          clear hlk4
          go_wp2_with fail
          go_roundg gg
          case measure => omega
          case rel => exact ⟨k + 1, vk, by omega, by go_num, by rw [← HMS.out]; exact HOLD.out.1, HKR, Lib.hid (HNX.out _ HOLD.out.1.below)⟩
end Go.Proofs.YtmhekhilgllciaaGreat
/- The contract of gather's closure, whatever tells of a route. -/
namespace Go.Proofs.YtmhekhilgllciaaGreat
open Go.RowKit

set_option maxHeartbeats 6400000 in
set_option maxRecDepth 100000 in
theorem gat_step2 {w0 : World} {tB cB aB mB : Nat} (q : RtAt) (hq : q.own w0) (W : World) (v : Value) (L : List ByteArray) (hL : L.length + (muteT q.n).length ≤ 100000000) (hW : GatW w0 135 tB cB aB mB W v L) :
    Calls Tryz.prog 198 #[.agg (tCells q), .pointer (some ⟨tB, 0, none⟩), .pointer (some ⟨cB, 0, none⟩), .pointer (some ⟨aB, 0, none⟩)] W (GatP w0 135 tB cB aB mB W (L ++ muteT q.n)) := by
  obtain ⟨i1, hj, hy0, hy1, hy2⟩ := info_parts Tryz.infoS
  have hb := (Below.refl W.heap.size W).alloc (Nat.le_refl _) (.cells (tCells q) 27)
  have hB := Blk.new W 27 (tCells q)
  have hW1 := hW.call hb
  have hk1 := KeepR.of hb
  have ht := names2_any w0 q _ hq hW1.below
  have HQ := Lib.hid hq
  have HTT := Lib.hid ht
  have HK1 := Lib.hid hk1
  clear ht hk1 hb hW
  obtain ⟨n, ma, mc, ba, bc, ua, uc, ka, kc⟩ := q
  simp only [tCells] at *
  generalize muteT n = TT at *
  go_enter Tryz.func198, Tryz.ntmps198
  go_upto_region 1 with fail
  generalize W.alloc (.cells #[.string n.recv, .slice ma n.ms.length mc, .slice ba n.bys.length bc, .int .i64 n.wait, .int .i64 n.every, .int .i64 n.rep, .slice ua n.mute.length uc, .bool n.on, .slice ka n.kids.length kc] 27) = wx at *
  obtain ⟨c0, c1, c2, c3, c4, c5, c6, c7, c8⟩ := hB.cells9
  have g1 := hW1.tell.cell1
  go_upto_region 2 with (go_at_call 135; refine HTT.out.mono ?_; rintro e w2 ⟨a, c, rfl, hs2, ho2, hb2⟩)
  have hW2 := hW1.call hb2
  have HKP := Lib.hid (HK1.out.trans (KeepR.of hb2))
  clear hW1 g1 c0 c1 c2 c3 c4 c5 c6 c7 c8 hB HTT HK1 hb2 hq HQ
  obtain ⟨hs21, hs22, hs23, hs24⟩ := hs2
  by_cases hl0 : TT.length = 0
  · obtain rfl : TT = [] := List.eq_nil_of_length_eq_zero hl0
    rw [List.append_nil]
    have HW2 := Lib.hid hW2
    clear hW2 hs21 hs22 hs23 hs24 ho2 hl0 hL
    simp only [List.length_nil]
    go_wp2_with fail
    refine wp_loop_rounds 1 ?_
    rw [rounds_succ]
    go_wp2_with fail
    go_end0
    exact ⟨rfl, ⟨_, HW2.out⟩, HKP.out⟩
  · have hS : ∃ b off, a = some ⟨b, off, none⟩ ∧ b < w2.heap.size ∧ ∀ i (h : i < TT.length), w2.cell? ⟨b, off + i, none⟩ = some (.string TT[i]) := by
      rcases hs24 with h | h
      · exact absurd (by rw [h]; rfl) hl0
      · exact h
    obtain ⟨b, off, rfl, hbl, hcell⟩ := hS
    have hO : (b < w0.heap.size ∧ ∀ i (h : i < TT.length), w0.cell? ⟨b, off + i, none⟩ = some (.string TT[i])) ∨ TT.length = 1 := by
      rcases ho2 with ⟨_, _, _, h | ⟨b', off', e, h1, h2⟩⟩ | h
      · exact absurd (by rw [h]; rfl) hl0
      · simp only [Option.some.injEq, Addr.mk.injEq] at e
        obtain ⟨rfl, rfl, _⟩ := e
        exact .inl ⟨h1, h2⟩
      · exact .inr h
    have HS := Lib.hid hs23
    have HO := Lib.hid hO
    have HC := Lib.hid hcell
    clear hs23 hs24 ho2 hl0 hbl hO hcell
    go_wp2_with fail
    go_loopg [11, 6] TT.length (fun gg iv _ wr => ∃ (k : Nat) (vk : Value), k + gg = TT.length ∧ iv = .int .i64 (k : Int) ∧ GatW w0 135 tB cB aB mB wr vk (L ++ TT.take k) ∧ Hid (KeepR W wr) ∧ Hid (∀ h : k < TT.length, wr.cell? ⟨b, off + k, none⟩ = some (.string TT[k])))
    case atStart => exact ⟨0, _, by omega, rfl, by simpa using hW2, HKP, Lib.hid (fun h => HC.out 0 h)⟩
    case round =>
      obtain ⟨k, vk, hkg, rfl, hWk, HK, HCk⟩ := hrel
      cases gk with
      | zero =>
        obtain rfl : k = TT.length := by omega
        rw [List.take_length] at hWk
        have HWK := Lib.hid hWk
        clear hWk
        go_wp2_with fail
        go_end0
        exact ⟨rfl, ⟨_, HWK.out⟩, HK.out⟩
      | succ gg =>
        have hkl : k < TT.length := by omega
        obtain ⟨s, hsk⟩ : ∃ s, TT[k] = s := ⟨_, rfl⟩
        have htk : TT.take (k + 1) = TT.take k ++ [s] := by rw [← hsk, List.take_add_one, List.getElem?_eq_getElem hkl]; rfl
        have hsm := HS.out _ (List.getElem_mem hkl)
        have hck := HCk.out hkl
        rw [hsk] at hsm hck
        have hml : (L ++ TT.take k).length ≤ 100000000 := by rw [List.length_append, List.length_take]; omega
        have HTK := Lib.hid htk
        clear hsk htk
        generalize hM : L ++ TT.take k = M at *
        have HM := Lib.hid hM
        clear hM
        have hlk := hWk.cnt.look s hsm
        have hN8 := cntL_len M s
        obtain ⟨N, hN⟩ : ∃ N, cntL M s = N := ⟨_, rfl⟩
        rw [hN] at hlk hN8
        have HN := Lib.hid hN
        have hN9 : N ≤ 100000000 := by omega
        have x1 := hWk.times.cell1
        have HWK := Lib.hid hWk
        have HSM := Lib.hid hsm
        have HML := Lib.hid hml
        have hcnt := hWk.cnt
        clear hWk hN hsm hml hN8 HCk
        go_upto_region 5 with (refine wpList_putC _ rfl _ _ _ rfl mB M s rfl hcnt (by have := HML.out; omega) rfl (by rw [HN.out]; rfl) HSM.out ?_; intro w4 hc4 hg4)
        obtain ⟨m1, m2, m3, m4, m5, m6⟩ := HWK.out.mid hc4 hg4
        have hlk4 := hc4.look s HSM.out
        rw [cntL_snoc, if_pos rfl, HN.out] at hlk4
        have y1 := m3.cell1
        have y2 := m4.cell1
        have y3 := m4.frozen 0
        clear hlk x1 hck
        have hz4 := m1.size
        have hko : (onceL M).length ≤ 100000000 := Nat.le_trans (once_len M) HML.out
        have hnext : ∀ W', Below w0.heap.size w0 W' → ∀ h : k + 1 < TT.length, W'.cell? ⟨b, off + (k + 1), none⟩ = some (.string TT[k + 1]) := by
          intro W' hb' h
          rcases HO.out with ⟨h1, h2⟩ | h1
          · exact (hb'.cell (p := ⟨b, off + (k + 1), none⟩) h1).trans (h2 _ h)
          · omega
        have HNX := Lib.hid hnext
        have hMs : M ++ [s] = L ++ TT.take (k + 1) := by rw [HTK.out, ← HM.out, List.append_assoc]
        have HMS := Lib.hid hMs
        have HKR := Lib.hid (HK.out.trans m6)
        clear hnext hMs HTK
        by_cases hn0 : N = 0
        · subst hn0
          have hlk5 : (Instr.lookup 192 (.map (some mB)) (.string s) false).run Tryz.prog w4 = .ok (.int .i64 1) w4 := hlk4
          have HNEW := Lib.hid (fun (W2 : World) (v2 : Value) (ho : OwnS 9 W2 w0.heap.size v2 (onceL M ++ [s])) (hg2 : w4.grownBy W2 vk.ownBlock) => HWK.out.new HN.out hc4 hg4 ho hg2)
          obtain ⟨ka', kc', rfl, _, _⟩ := m5.form
          clear hlk4
          go_upto_region 6 with fail
          clear hlk5
          go_wp2_with (refine wpList_push w4 (by rfl) (.tmp 23) (.tmp 25) 24 (by rfl) w0.heap.size 9 i1 (.string ⟨#[]⟩) 16 Tryz.underlying24 hj hy0 hy1 hy2 rfl (.slice ka' (onceL M).length kc') (onceL M).length (strsV (onceL M)) (by rfl) m5 (.string s) (by rfl) rfl (by unfold maxLen; omega) (by omega) hz4 ?_; intro g' c' w5 ho5 hg5; have t4 := m4.push hg5 (m5.other m4 (by decide)); have z2 := t4.cell1; have z3 := t4.frozen 0)
          have hfin := HNEW.out w5 (.slice (some ⟨g', 0, none⟩) ((onceL M).length + 1) c') (by unfold OwnS; rw [List.length_append, ← strsV_push]; exact ho5) hg5
          have HFIN := Lib.hid hfin
          clear hfin ho5 hg5 t4 z2 z3 m1 m2 m3 m4 m5 m6
          go_roundg gg
          case measure => omega
          case rel => exact ⟨k + 1, _, by omega, by go_num, by rw [← HMS.out]; exact HFIN.out.1, Lib.hid (HK.out.trans HFIN.out.2), Lib.hid (HNX.out _ HFIN.out.1.below)⟩
        · have hne : ((((N : Nat) : Int) + 1) == 1) = false := by rw [beq_eq_false_iff_ne]; omega
          have hlk5 : (Instr.lookup 192 (.map (some mB)) (.string s) false).run Tryz.prog w4 = .ok (.int .i64 ((N : Int) + 1)) w4 := hlk4
          have HOLD := Lib.hid (HWK.out.old (by rw [HN.out]; exact hn0) hc4 hg4)
          clear hlk4
          go_wp2_with fail
          go_roundg gg
          case measure => omega
          case rel => exact ⟨k + 1, vk, by omega, by go_num, by rw [← HMS.out]; exact HOLD.out.1, HKR, Lib.hid (HNX.out _ HOLD.out.1.below)⟩
end Go.Proofs.YtmhekhilgllciaaGreat
/- The contract of routes.Names. -/
namespace Go.Proofs.YtmhekhilgllciaaGreat
open Go.RowKit

def NamesP (X Y : List ByteArray) (w : World) (e : Ending) (w' : World) : Prop :=
  ∃ a c b d, e = .returned (.tuple #[.slice a X.length c, .slice b Y.length d]) ∧ HasStrs w' a c X ∧ HasStrs w' b d Y ∧ Below w.heap.size w w'
theorem gatAll1 (w0 : World) (tB cB aB mB : Nat) : GatAll w0 134 tB cB aB mB recvT := fun q W v L h hL hW => gat_step1 q h W v L hL hW
theorem gatAll2 (w0 : World) (tB cB aB mB : Nat) : GatAll w0 135 tB cB aB mB muteT := fun q W v L h hL hW => gat_step2 q h W v L hL hW
set_option maxHeartbeats 6400000 in
set_option maxRecDepth 100000 in
theorem routesNames_any (w : World) (q : RtAt) (h : q.ok w) (hc : q.n.count ≤ 60) :
    Calls Tryz.prog 97 #[.agg (tCells q)] w (NamesP (onceL (tellL recvT q.n.all)) (onceL (tellL muteT q.n.all)) w) := by
  have hb := (Below.refl w.heap.size w).alloc (Nat.le_refl _) (.cells (tCells q) 27)
  have hB := Blk.new w 27 (tCells q)
  have hG1 : ∀ W, Below w.heap.size w W → Calls Tryz.prog 136 #[.agg (tCells q), .func (.func 134) #[] #[]] W (RowP (onceL (tellL recvT q.n.all)) W) := fun W hW => gather_any 134 recvT W (gatAll1 W) (recv_ok W) q (h.call hW) hc
  have hG2 : ∀ W, Below w.heap.size w W → Calls Tryz.prog 136 #[.agg (tCells q), .func (.func 135) #[] #[]] W (RowP (onceL (tellL muteT q.n.all)) W) := fun W hW => gather_any 135 muteT W (gatAll2 W) (mute_ok W) q (h.call hW) hc
  have HG1 := Lib.hid hG1
  have HG2 := Lib.hid hG2
  have HB := Lib.hid hb
  clear hG1 hG2 hb hc h
  generalize onceL (tellL recvT q.n.all) = X at *
  generalize onceL (tellL muteT q.n.all) = Y at *
  obtain ⟨n, ma, mc, ba, bc, ua, uc, ka, kc⟩ := q
  simp only [tCells] at *
  go_enter Tryz.func97, Tryz.ntmps97
  go_upto_region 3 with fail
  generalize w.alloc (.cells #[.string n.recv, .slice ma n.ms.length mc, .slice ba n.bys.length bc, .int .i64 n.wait, .int .i64 n.every, .int .i64 n.rep, .slice ua n.mute.length uc, .bool n.on, .slice ka n.kids.length kc] 27) = w1 at *
  obtain ⟨c0, c1, c2, c3, c4, c5, c6, c7, c8⟩ := hB.cells9
  have BD : Below w1.heap.size w1 w1.drew := below_drewN (Below.refl _ _) 1
  go_region_with (first
    | (go_at_call 136; (with_reducible refine (HG1.out w1.drew (bthen HB.out BD)).mono ?_); rintro e w3 ⟨a1, x1, rfl, hs1, hb1⟩; have hBx := hB.call (bthen BD hb1); obtain ⟨d0, d1, d2, d3, d4, d5, d6, d7, d8⟩ := hBx.cells9)
    | (go_at_call 136; (with_reducible refine (HG2.out w1.drew (bthen HB.out BD)).mono ?_); rintro e w4 ⟨a2, x2, rfl, hs2, hb2⟩; have hBy := hB.call (bthen BD hb2); obtain ⟨e0, e1, e2, e3, e4, e5, e6, e7, e8⟩ := hBy.cells9)
    | (go_at_call 136; (with_reducible refine (HG1.out w4 (bthen HB.out (bthen BD hb2))).mono ?_); rintro e w3 ⟨a1, x1, rfl, hs1, hb1⟩; have hBx := hB.call (bthen BD (bthen hb2 hb1)); obtain ⟨d0, d1, d2, d3, d4, d5, d6, d7, d8⟩ := hBx.cells9)
    | (go_at_call 136; (with_reducible refine (HG2.out w3 (bthen HB.out (bthen BD hb1))).mono ?_); rintro e w4 ⟨a2, x2, rfl, hs2, hb2⟩; have hBy := hB.call (bthen BD (bthen hb1 hb2)); obtain ⟨e0, e1, e2, e3, e4, e5, e6, e7, e8⟩ := hBy.cells9))
  all_goals
    go_wp2_with fail
    go_ret2
    refine ⟨_, _, _, _, rfl, ?_, ?_, ?_⟩
    · first | exact hs1 | exact hs1.call hb2
    · first | exact hs2 | exact hs2.call hb1
    · first | exact bthen HB.out (bthen BD (bthen hb1 hb2)) | exact bthen HB.out (bthen BD (bthen hb2 hb1))
end Go.Proofs.YtmhekhilgllciaaGreat
/- The contract of routes.Count. -/
namespace Go.Proofs.YtmhekhilgllciaaGreat
open Go.RowKit

/-- the closure's cell holds a count -/
structure CouW (w0 : World) (nB : Nat) (W : World) (m : Nat) : Prop where
  below : Below w0.heap.size w0 W
  cell : Blk W nB 3 #[.int .i64 (m : Int)]
  young : w0.heap.size ≤ nB
theorem CouW.call {w0 W W1 : World} {nB m : Nat} (h : CouW w0 nB W m) (hb : Below W.heap.size W W1) : CouW w0 nB W1 m := ⟨h.below.trans (hb.mono h.below.size), h.cell.call hb, h.young⟩
def KeepN (w w' : World) : Prop := w.heap.size ≤ w'.heap.size ∧ ∀ g t cs, t ≠ 3 → Blk w g t cs → Blk w' g t cs
theorem KeepN.trans {w w1 w2 : World} (h : KeepN w w1) (k : KeepN w1 w2) : KeepN w w2 := ⟨Nat.le_trans h.1 k.1, fun g t cs h1 hb => k.2 g t cs h1 (h.2 g t cs h1 hb)⟩
theorem KeepN.of {w w' : World} (h : Below w.heap.size w w') : KeepN w w' := ⟨h.size, fun _ _ _ _ hb => hb.call h⟩
theorem CouW.set {w0 W : World} {nB m : Nat} (h : CouW w0 nB W m) (k : Nat) : CouW w0 nB (W.setCell ⟨nB, 0, none⟩ (.int .i64 (k : Int))) k ∧ KeepN W (W.setCell ⟨nB, 0, none⟩ (.int .i64 (k : Int))) := by
  have gs := grown_setCell W nB 0 (.int .i64 (k : Int))
  refine ⟨⟨h.below.setCell (p := ⟨nB, 0, none⟩) h.young _, h.cell.set 0 _, h.young⟩, gs.size, fun g t cs ht hb => hb.setO _ _ (fun e => ?_)⟩
  have e : g = nB := e
  rw [e] at hb
  have := (show W.heap[nB]? = _ from hb).symm.trans (show W.heap[nB]? = _ from h.cell)
  simp at this
  exact ht this.2
def CouP (w0 : World) (nB : Nat) (W : World) (m : Nat) (e : Ending) (W' : World) : Prop := e = .returned (.tuple #[]) ∧ CouW w0 nB W' m ∧ KeepN W W'
set_option maxHeartbeats 1600000 in
set_option maxRecDepth 100000 in
theorem count1_any {w0 : World} {nB : Nat} (q : RtAt) (W : World) (m : Nat) (hm : m ≤ 1000000) (h : CouW w0 nB W m) :
    Calls Tryz.prog 133 #[.agg (tCells q), .pointer (some ⟨nB, 0, none⟩)] W (CouP w0 nB W (m + 1)) := by
  have hb := (Below.refl W.heap.size W).alloc (Nat.le_refl _) (.cells (tCells q) 27)
  have h1 := h.call hb
  have x1 := h1.cell.cell1
  have x2 := h1.cell.frozen 0
  have HF := Lib.hid (h1.set (m + 1))
  have HK := Lib.hid (KeepN.of hb)
  clear hb h h1
  obtain ⟨n, ma, mc, ba, bc, ua, uc, ka, kc⟩ := q
  simp only [tCells] at *
  go_enter Tryz.func133, Tryz.ntmps133
  go_upto_region 1 with fail
  generalize W.alloc (.cells #[.string n.recv, .slice ma n.ms.length mc, .slice ba n.bys.length bc, .int .i64 n.wait, .int .i64 n.every, .int .i64 n.rep, .slice ua n.mute.length uc, .bool n.on, .slice ka n.kids.length kc] 27) = wx at *
  go_wp2_with fail
  go_end0
  exact ⟨rfl, HF.out.1, HK.out.trans HF.out.2⟩
abbrev couF (nB : Nat) : Value := .func (.func 133) #[] #[.pointer (some ⟨nB, 0, none⟩)]
abbrev visN (dB vB : Nat) : Value := .func (.func 197) #[] #[.pointer (some ⟨dB, 0, none⟩), .pointer (some ⟨vB, 0, none⟩)]
structure EacN (w0 : World) (nB dB vB : Nat) (W : World) (m : Nat) : Prop where
  cou : CouW w0 nB W m
  doC : Blk W dB 148 #[couF nB]
  vis : Blk W vB 148 #[visN dB vB]
theorem EacN.call {w0 W W1 : World} {nB dB vB m : Nat} (h : EacN w0 nB dB vB W m) (hb : Below W.heap.size W W1) : EacN w0 nB dB vB W1 m := ⟨h.cou.call hb, h.doC.call hb, h.vis.call hb⟩
theorem EacN.keep {w0 W W1 : World} {nB dB vB m m' : Nat} (h : EacN w0 nB dB vB W m) (hg : CouW w0 nB W1 m') (hk : KeepN W W1) : EacN w0 nB dB vB W1 m' :=
  ⟨hg, hk.2 _ _ _ (by decide) h.doC, hk.2 _ _ _ (by decide) h.vis⟩
def EacAll (w0 : World) (nB dB vB : Nat) (q : RtAt) : Prop :=
  ∀ (W : World) (m : Nat), m + q.n.count ≤ 1000000 → EacN w0 nB dB vB W m →
    Calls Tryz.prog 197 #[.agg (tCells q), .pointer (some ⟨dB, 0, none⟩), .pointer (some ⟨vB, 0, none⟩)] W (CouP w0 nB W (m + q.n.count))
theorem countRs_le (xs : List Rt) (k : Nat) : countRs (xs.take k) ≤ countRs xs := by
  induction xs generalizing k with
  | nil => simp
  | cons x xs ih =>
    cases k with
    | zero => simp [countRs]
    | succ k =>
      have := ih k
      simp only [List.take_succ_cons, countRs]
      omega
set_option maxHeartbeats 6400000 in
set_option maxRecDepth 100000 in
theorem eac_step {w0 : World} {nB dB vB : Nat} (q : RtAt) (hkc : q.n.kids.length ≤ q.kc ∧ q.kc ≤ maxLen)
    (HK : q.n.kids = [] ∨ ∃ b off, q.ka = some ⟨b, off, none⟩ ∧ b < w0.heap.size ∧ ∀ i (h : i < q.n.kids.length), ∃ r : RtAt, r.n = q.n.kids[i] ∧ r.lies w0 b (off + i * 9) ∧ r.ok w0 ∧ EacAll w0 nB dB vB r) : EacAll w0 nB dB vB q := by
  intro W m hL hW
  have hb := (Below.refl W.heap.size W).alloc (Nat.le_refl _) (.cells (tCells q) 27)
  have hB := Blk.new W 27 (tCells q)
  have hW1 := hW.call hb
  have hce := q.n.count_eq
  have hg := count1_any q _ m (by omega) hW1.cou
  have HGG := Lib.hid hg
  have HCE := Lib.hid hce
  have HK1 := Lib.hid (KeepN.of hb)
  have HKK := Lib.hid HK
  have HLB := Lib.hid hL
  clear hg hb HK hW hL hce
  obtain ⟨n, ma, mc, ba, bc, ua, uc, ka, kc⟩ := q
  simp only [tCells] at *
  unfold maxLen at hkc
  go_enter Tryz.func197, Tryz.ntmps197
  go_upto_region 1 with fail
  generalize W.alloc (.cells #[.string n.recv, .slice ma n.ms.length mc, .slice ba n.bys.length bc, .int .i64 n.wait, .int .i64 n.every, .int .i64 n.rep, .slice ua n.mute.length uc, .bool n.on, .slice ka n.kids.length kc] 27) = wx at *
  obtain ⟨c0, c1, c2, c3, c4, c5, c6, c7, c8⟩ := hB.cells9
  have x1 := hW1.doC.cell1
  simp only [couF] at x1
  go_upto_region 2 with (go_at_call 133; refine HGG.out.mono ?_; rintro e w2 ⟨rfl, hg2, hk2⟩)
  have hW2 := hW1.keep hg2 hk2
  have hB2 := hk2.2 _ _ _ (by decide) hB
  have HK2 := Lib.hid (HK1.out.trans hk2)
  clear hg2 hk2 hW1 x1 c0 c1 c2 c3 c4 c5 c6 c7 c8 hB HGG HK1
  obtain ⟨-, -, -, -, -, -, -, -, c8⟩ := hB2.cells9
  clear hB2
  by_cases hl0 : n.kids.length = 0
  · have hk0 : n.kids = [] := List.eq_nil_of_length_eq_zero hl0
    have hfin : m + 1 = m + n.count := by have := HCE.out; rw [hk0] at this; simp only [countRs] at this; omega
    have HF := Lib.hid hfin
    have HW2 := Lib.hid hW2
    rw [hl0] at c8
    clear hk0 hfin hW2 hl0 hkc
    go_wp2_with fail
    refine wp_loop_rounds 1 ?_
    rw [rounds_succ]
    go_wp2_with fail
    go_end0
    exact ⟨rfl, by rw [← HF.out]; exact HW2.out.cou, HK2.out⟩
  · obtain ⟨kb, kof, rfl, _, hkk⟩ : ∃ b off, ka = some ⟨b, off, none⟩ ∧ b < w0.heap.size ∧ ∀ i (h : i < n.kids.length), ∃ r : RtAt, r.n = n.kids[i] ∧ r.lies w0 b (off + i * 9) ∧ r.ok w0 ∧ EacAll w0 nB dB vB r := by
      rcases HKK.out with h | h
      · exact absurd (by rw [h]; rfl) hl0
      · exact h
    have HKI := Lib.hid hkk
    clear hkk HKK hl0
    go_wp2_with fail
    clear c8
    go_loopg [12, 5] n.kids.length (fun gg iv _ wr => ∃ (k : Nat), k + gg = n.kids.length ∧ iv = .int .i64 (k : Int) ∧ EacN w0 nB dB vB wr (m + 1 + countRs (n.kids.take k)) ∧ Hid (KeepN W wr))
    case atStart => exact ⟨0, by omega, rfl, by simpa [countRs] using hW2, HK2⟩
    case round =>
      obtain ⟨k, hkg, rfl, hWk, HKk⟩ := hrel
      cases gk with
      | zero =>
        obtain rfl : k = n.kids.length := by omega
        have hfin : m + 1 + countRs (n.kids.take n.kids.length) = m + n.count := by rw [List.take_length]; have := HCE.out; omega
        rw [hfin] at hWk
        have HWK := Lib.hid hWk
        clear hWk hfin
        go_wp2_with fail
        go_end0
        exact ⟨rfl, HWK.out.cou, HKk.out⟩
      | succ gg =>
        have hkl : k < n.kids.length := by omega
        obtain ⟨r, hrn, hrl, hro, hra⟩ := HKI.out k hkl
        obtain ⟨e0, e1, e2, e3, e4, e5, e6, e7, e8⟩ := hrl.call hWk.cou.below
        have hbn := (Below.refl wr.heap.size wr).alloc (Nat.le_refl _) (.cells (tCells r) 27)
        have hat := countRs_take n.kids k hkl
        rw [← hrn] at hat
        have hlt := countRs_le n.kids (k + 1)
        have hWn := hWk.call hbn
        have hcall := hra _ _ (by have := HLB.out; have := HCE.out; omega) hWn
        obtain ⟨f0, f1, f2, f3, f4, f5, f6, f7, f8⟩ := (Blk.new wr 27 (tCells r)).cells9
        have x2 := hWn.vis.cell1
        simp only [visN] at x2
        have hnx : m + 1 + countRs (n.kids.take k) + r.n.count = m + 1 + countRs (n.kids.take (k + 1)) := by omega
        rw [hnx] at hcall
        have HCALL := Lib.hid hcall
        have HKN := Lib.hid (HKk.out.trans (KeepN.of hbn))
        have HWN := Lib.hid hWn
        clear hrn hrl hro hra hbn hat hlt hWn hcall hnx hWk HKk
        obtain ⟨r, ma', mc', ba', bc', ua', uc', ka', kc'⟩ := r
        simp only [tCells] at *
        go_wp2_with (go_at_call 197; refine HCALL.out.mono ?_; rintro e w3 ⟨rfl, hg3, hk3⟩)
        go_roundg gg
        case measure => omega
        case rel => exact ⟨k + 1, by omega, by go_num, HWN.out.keep hg3 hk3, Lib.hid (HKN.out.trans hk3)⟩
theorem eac_any {w0 : World} {nB dB vB : Nat} {q : RtAt} (h : q.ok w0) : EacAll w0 nB dB vB q := by
  induction h with
  | flat q h0 h1 => exact eac_step q h0.2 (.inl h1)
  | row q b off R h0 h1 h2 h3 h4 h5 ih => exact eac_step q h0.2 (.inr ⟨b, off, h1, h2, fun i hi => ⟨R i, h3 i hi, h4 i hi, h5 i hi, ih i hi⟩⟩)
set_option maxHeartbeats 6400000 in
set_option maxRecDepth 100000 in
theorem eachN_any {w0 : World} {nB : Nat} {q : RtAt} (h : q.ok w0) (W : World) (m : Nat) (hL : m + q.n.count ≤ 1000000) (hW : CouW w0 nB W m) :
    Calls Tryz.prog 132 #[.agg (tCells q), couF nB] W (CouP w0 nB W (m + q.n.count)) := by
  have hb1 := (Below.refl W.heap.size W).alloc (Nat.le_refl _) (.cells (tCells q) 27)
  have hz1 : (W.alloc (.cells (tCells q) 27)).heap.size = W.heap.size + 1 := by simp
  have hb2 := hb1.alloc (by omega) (.cells #[couF nB] 148)
  have hz2 : ((W.alloc (.cells (tCells q) 27)).alloc (.cells #[couF nB] 148)).heap.size = W.heap.size + 2 := by simp
  have hb3 := hb2.alloc (by omega) (.cells #[visN (W.heap.size + 1) (W.heap.size + 2)] 148)
  have hB := ((Blk.new W 27 (tCells q)).alloc (.cells #[couF nB] 148)).alloc (.cells #[visN (W.heap.size + 1) (W.heap.size + 2)] 148)
  have hD := (Blk.new (W.alloc (.cells (tCells q) 27)) 148 #[couF nB]).alloc (.cells #[visN (W.heap.size + 1) (W.heap.size + 2)] 148)
  rw [hz1] at hD
  have hV := Blk.new ((W.alloc (.cells (tCells q) 27)).alloc (.cells #[couF nB] 148)) 148 #[visN (W.heap.size + 1) (W.heap.size + 2)]
  rw [hz2] at hV
  have hcall := eac_any h _ m hL ⟨hW.call hb3, hD, hV⟩
  have hv1 := hV.cell1
  have HK := Lib.hid (KeepN.of hb3)
  have HC := Lib.hid hcall
  clear hb1 hz1 hb2 hz2 hb3 hD hV hcall hW h hL
  obtain ⟨n, ma, mc, ba, bc, ua, uc, ka, kc⟩ := q
  simp only [tCells, couF, visN] at *
  go_enter Tryz.func132, Tryz.ntmps132
  go_upto_region 3 with fail
  generalize ((W.alloc (.cells #[.string n.recv, .slice ma n.ms.length mc, .slice ba n.bys.length bc, .int .i64 n.wait, .int .i64 n.every, .int .i64 n.rep, .slice ua n.mute.length uc, .bool n.on, .slice ka n.kids.length kc] 27)).alloc (.cells #[.func (.func 133) #[] #[.pointer (some ⟨nB, 0, none⟩)]] 148)).alloc (.cells #[.func (.func 197) #[] #[.pointer (some ⟨W.heap.size + 1, 0, none⟩), .pointer (some ⟨W.heap.size + 2, 0, none⟩)]] 148) = wx at *
  obtain ⟨c0, c1, c2, c3, c4, c5, c6, c7, c8⟩ := hB.cells9
  go_wp2_with (go_at_call 197; refine HC.out.mono ?_; rintro e w2 ⟨rfl, hg2, hk2⟩)
  go_end0
  exact ⟨rfl, hg2, HK.out.trans hk2⟩
set_option maxHeartbeats 6400000 in
set_option maxRecDepth 100000 in
theorem count_any (w : World) (q : RtAt) (h : q.ok w) (hc : q.n.count ≤ 100000) :
    Calls Tryz.prog 96 #[.agg (tCells q)] w (fun e w' => e = .returned (.int .i64 (q.n.count : Int)) ∧ Below w.heap.size w w') := by
  have hb1 := (Below.refl w.heap.size w).alloc (Nat.le_refl _) (.cells (tCells q) 27)
  have hz1 : (w.alloc (.cells (tCells q) 27)).heap.size = w.heap.size + 1 := by simp
  have hb2 := hb1.alloc (by omega) (.cells #[.int .i64 0] 3)
  have hB := (Blk.new w 27 (tCells q)).alloc (.cells #[.int .i64 0] 3)
  have hN := Blk.new (w.alloc (.cells (tCells q) 27)) 3 #[.int .i64 0]
  rw [hz1] at hN
  have hcall := eachN_any h _ 0 (by omega) (nB := w.heap.size + 1) ⟨hb2, hN, by omega⟩
  rw [Nat.zero_add] at hcall
  have HC := Lib.hid hcall
  clear hb1 hz1 hb2 hN hcall h hc
  obtain ⟨n, ma, mc, ba, bc, ua, uc, ka, kc⟩ := q
  simp only [tCells, couF] at *
  go_enter Tryz.func96, Tryz.ntmps96
  go_upto_region 2 with fail
  generalize (w.alloc (.cells #[.string n.recv, .slice ma n.ms.length mc, .slice ba n.bys.length bc, .int .i64 n.wait, .int .i64 n.every, .int .i64 n.rep, .slice ua n.mute.length uc, .bool n.on, .slice ka n.kids.length kc] 27)).alloc (.cells #[.int .i64 0] 3) = w2 at *
  obtain ⟨c0, c1, c2, c3, c4, c5, c6, c7, c8⟩ := hB.cells9
  go_wp2_with (go_at_call 132; refine HC.out.mono ?_; rintro e w3 ⟨rfl, hg3, hk3⟩; have y1 := hg3.cell.cell1)
  go_ret
  exact ⟨rfl, hg3.below⟩
end Go.Proofs.YtmhekhilgllciaaGreat
/- The contracts of config.rightRoute and of config.Right. -/
namespace Go.Proofs.YtmhekhilgllciaaGreat
open Go.RowKit

/-- a configuration, with the places of its lists -/
structure CfA where
  ru : List RuA
  ua : Option Addr
  uc : Nat
  rt : RtAt
  re : List ByteArray
  ra : Option Addr
  rc : Nat
  ih : List InA
  ia : Option Addr
  ic : Nat
  hr : List HrA
  ha : Option Addr
  hc : Nat
abbrev kCells (k : CfA) : Array Value := #[.slice k.ua k.ru.length k.uc, .string k.rt.n.recv, .slice k.rt.ma k.rt.n.ms.length k.rt.mc, .slice k.rt.ba k.rt.n.bys.length k.rt.bc, .int .i64 k.rt.n.wait, .int .i64 k.rt.n.every, .int .i64 k.rt.n.rep, .slice k.rt.ua k.rt.n.mute.length k.rt.uc, .bool k.rt.n.on, .slice k.rt.ka k.rt.n.kids.length k.rt.kc,
  .slice k.ra k.re.length k.rc, .slice k.ia k.ih.length k.ic, .slice k.ha k.hr.length k.hc]
def CfA.ok (w : World) (k : CfA) : Prop := HasRules w k.ua k.uc k.ru ∧ k.rt.ok w ∧ HasStrs w k.ra k.rc k.re ∧ HasInhs w k.ia k.ic k.ih ∧ HasHours w k.ha k.hc k.hr
theorem CfA.ok.call {w w1 : World} {k : CfA} (h : CfA.ok w k) (hb : Below w.heap.size w w1) : CfA.ok w1 k := ⟨h.1.keep hb, h.2.1.call hb, h.2.2.1.call hb, h.2.2.2.1.keep hb, h.2.2.2.2.keep hb⟩
theorem Blk.cells13 {w : World} {g : Nat} {t : TypeId} {x0 x1 x2 x3 x4 x5 x6 x7 x8 x9 y0 y1 y2 : Value} (h : Blk w g t #[x0, x1, x2, x3, x4, x5, x6, x7, x8, x9, y0, y1, y2]) :
    w.cell? ⟨g, 0, none⟩ = some x0 ∧ w.cell? ⟨g, 1, none⟩ = some x1 ∧ w.cell? ⟨g, 2, none⟩ = some x2 ∧ w.cell? ⟨g, 3, none⟩ = some x3 ∧ w.cell? ⟨g, 4, none⟩ = some x4 ∧ w.cell? ⟨g, 5, none⟩ = some x5 ∧ w.cell? ⟨g, 6, none⟩ = some x6 ∧ w.cell? ⟨g, 7, none⟩ = some x7 ∧ w.cell? ⟨g, 8, none⟩ = some x8 ∧ w.cell? ⟨g, 9, none⟩ = some x9 ∧ w.cell? ⟨g, 10, none⟩ = some y0 ∧ w.cell? ⟨g, 11, none⟩ = some y1 ∧ w.cell? ⟨g, 12, none⟩ = some y2 :=
  ⟨h.cell 0, h.cell 1, h.cell 2, h.cell 3, h.cell 4, h.cell 5, h.cell 6, h.cell 7, h.cell 8, h.cell 9, h.cell 10, h.cell 11, h.cell 12⟩
mutual
theorem count_le : ∀ (n : Rt) (d : Nat), rightRt d n = true → n.count ≤ 17 ^ d
  | .mk r m b a e p u o xs, 0, h => by cases h
  | .mk r m b a e p u o xs, d + 1, h => by
    simp only [rightRt, Bool.and_eq_true] at h
    have h16 := (alone_kids h.1).1
    have hk := countRs_bound xs d (by simpa [List.all_eq_true, Rt.kids] using h.2)
    simp only [Rt.kids] at h16
    simp only [Rt.count]
    have : xs.length * 17 ^ d ≤ 16 * 17 ^ d := Nat.mul_le_mul_right _ h16
    have h1 : 1 ≤ 17 ^ d := Nat.one_le_pow _ _ (by omega)
    rw [Nat.pow_succ]
    omega
theorem countRs_bound : ∀ (xs : List Rt) (d : Nat), (∀ x ∈ xs, rightRt d x = true) → countRs xs ≤ xs.length * 17 ^ d
  | [], d, _ => by simp [countRs]
  | x :: xs, d, h => by
    have h1 := count_le x d (h x (by simp))
    have h2 := countRs_bound xs d (fun y hy => h y (by simp [hy]))
    simp only [countRs, List.length_cons, Nat.succ_mul]
    omega
end
theorem rteC_count {n : Rt} (h : rteC n = true) : n.count ≤ 100000 := Nat.le_trans (count_le n 4 h) (by decide)
/-- may the route of a configuration be, and is all that it names there? -/
def routeC (k : CfA) : Bool := rteC k.rt.n && (!decide (0 < k.rt.n.ms.length) && (!k.rt.n.on && (!decide (32 < k.rt.n.count) && (amongB (onceL (tellL recvT k.rt.n.all)) k.re && amongB (onceL (tellL muteT k.rt.n.all)) (k.hr.map HrA.n)))))
set_option maxHeartbeats 12800000 in
set_option maxRecDepth 100000 in
theorem cfgRoute_any (k : CfA) (w : World) (h : k.ok w) (h8 : k.hr.length ≤ 1000000) : Calls Tryz.prog 43 #[.agg (kCells k)] w (BoolB (routeC k) w) := by
  have hb := (Below.refl w.heap.size w).alloc (Nat.le_refl _) (.cells (kCells k) 31)
  have hb2 := balR (o := .cells (tCells k.rt) 27) hb
  have hA := (Blk.new w 31 (kCells k)).alloc (.cells (tCells k.rt) 27)
  have hA0 := Blk.new w 31 (kCells k)
  have hB := nbR w (.cells (kCells k) 31) (tCells k.rt) 27
  have HR := Lib.hid (fun W (hW : Below w.heap.size w W) => rteRight_any k.rt W (h.2.1.call hW))
  have HCO := Lib.hid (fun W (hW : Below w.heap.size w W) (hc : k.rt.n.count ≤ 100000) => count_any W k.rt (h.2.1.call hW) hc)
  have HNA := Lib.hid (fun W (hW : Below w.heap.size w W) (hc : k.rt.n.count ≤ 60) => routesNames_any W k.rt (h.2.1.call hW) hc)
  have HEA := Lib.hid (fun W (hW : Below w.heap.size w W) => eachH_any k.ha k.hc k.hr W (h.2.2.2.2.keep hW) h8)
  obtain ⟨N, hN⟩ : ∃ N, k.hr.map HrA.n = N := ⟨_, rfl⟩
  have hsz : ∀ s ∈ N, s.size ≤ maxLen := fun s hs => by
    rw [← hN] at hs
    obtain ⟨x, hx, rfl⟩ := List.mem_map.1 hs
    exact (h.2.2.2.2.2.2.1 x hx).1
  have HSZ := Lib.hid hsz
  have hRR : routeC k = (rteC k.rt.n && (!decide (0 < k.rt.n.ms.length) && (!k.rt.n.on && (!decide (32 < k.rt.n.count) && (amongB (onceL (tellL recvT k.rt.n.all)) k.re && amongB (onceL (tellL muteT k.rt.n.all)) (k.hr.map HrA.n)))))) := rfl
  have HC1 := Lib.hid (fun e => rteC_count (n := k.rt.n) e)
  obtain ⟨R, hR⟩ : ∃ R, routeC k = R := ⟨_, rfl⟩
  obtain ⟨B1, hB1⟩ : ∃ R, rteC k.rt.n = R := ⟨_, rfl⟩
  obtain ⟨X, hX⟩ : ∃ X, onceL (tellL recvT k.rt.n.all) = X := ⟨_, rfl⟩
  obtain ⟨Y, hY⟩ : ∃ X, onceL (tellL muteT k.rt.n.all) = X := ⟨_, rfl⟩
  obtain ⟨B5, hB5⟩ : ∃ R, amongB X k.re = R := ⟨_, rfl⟩
  obtain ⟨B6, hB6⟩ : ∃ R, amongB Y N = R := ⟨_, rfl⟩
  have HAX := Lib.hid (fun W (hW : Below w.heap.size w W) a c (hx : HasStrs W a c X) => (show Calls Tryz.prog 98 #[.slice a X.length c, .slice k.ra k.re.length k.rc] W (BoolB B5 W) from hB5 ▸ among_any a c X k.ra k.rc k.re W hx (h.2.2.1.call hW)))
  have HAY := Lib.hid (fun W a c na nc (hx : HasStrs W a c Y) (hn : HasStrs W na nc N) => (show Calls Tryz.prog 98 #[.slice a Y.length c, .slice na N.length nc] W (BoolB B6 W) from hB6 ▸ among_any a c Y na nc N W hx hn))
  rw [hR, hB1, hX, hY, hN, hB5, hB6] at hRR
  rw [hR]
  simp only [hB1] at HR HC1
  simp only [hX, hY] at HNA
  simp only [hN] at HEA
  have HRR := Lib.hid hRR
  have HB := Lib.hid hb2
  clear hb hb2 h hR hB1 hX hY hB5 hB6 hRR hsz hN h8
  obtain ⟨ru, ua, uc, ⟨n, ma, mc, ba, bc, ma', mc', ka, kc⟩, re, ra, rc, ih, ia, ic, hr, ha, hc⟩ := k
  simp only [tCells, kCells] at *
  obtain ⟨x0, x1, x2, x3, x4, x5, x6, x7, x8, x9, x10, x11, x12⟩ := hA0.cells13
  go_enter Tryz.func43, Tryz.ntmps43
  go_upto_region 2 with fail
  obtain ⟨g, hg⟩ : ∃ g, w.heap.size = g := ⟨_, rfl⟩
  clear x0 x1 x2 x3 x4 x5 x6 x7 x8 x9 x10 x11 x12 hA0
  generalize (w.alloc (.cells #[.slice ua ru.length uc, .string n.recv, .slice ma n.ms.length mc, .slice ba n.bys.length bc, .int .i64 n.wait, .int .i64 n.every, .int .i64 n.rep, .slice ma' n.mute.length mc', .bool n.on, .slice ka n.kids.length kc, .slice ra re.length rc, .slice ia ih.length ic, .slice ha hr.length hc] 31)).alloc (.cells #[.string n.recv, .slice ma n.ms.length mc, .slice ba n.bys.length bc, .int .i64 n.wait, .int .i64 n.every, .int .i64 n.rep, .slice ma' n.mute.length mc', .bool n.on, .slice ka n.kids.length kc] 27) = wx at *
  rw [hg] at hA hB ⊢
  clear hg
  have HAC := Lib.hid (fun W (hW : Below wx.heap.size wx W) => (hA.call hW).cells13)
  have HBC := Lib.hid (fun W (hW : Below wx.heap.size wx W) => (hB.call hW).cells9)
  obtain ⟨c0, c1, c2, c3, c4, c5, c6, c7, c8⟩ := hB.cells9
  clear hA hB
  cases B1
  case false =>
    go_wp2_with (go_at_call 95; refine (HR.out _ HB.out).mono ?_; rintro e w2 ⟨rfl, hb2⟩)
    go_ret
    exact ⟨by rw [HRR.out]; rfl, bthen HB.out hb2⟩
  have hcn := HC1.out rfl
  by_cases h2 : 0 < n.ms.length
  · have d2 : decide ((0 : Int) < (n.ms.length : Int)) = true := decide_eq_true (by omega)
    have d2' : decide (0 < n.ms.length) = true := decide_eq_true h2
    obtain rfl : R = false := by rw [HRR.out, d2']; rfl
    clear h2 HRR HC1
    go_wp2_with (go_at_call 95; refine (HR.out _ HB.out).mono ?_; rintro e w2 ⟨rfl, hb2⟩; obtain ⟨e0, e1, e2, e3, e4, e5, e6, e7, e8⟩ := HBC.out _ hb2)
    go_ret
    exact ⟨rfl, bthen HB.out hb2⟩
  have d2 : decide ((0 : Int) < (n.ms.length : Int)) = false := decide_eq_false (by omega)
  have d2' : decide (0 < n.ms.length) = false := decide_eq_false h2
  have HRR2 := Lib.hid (show R = (!n.on && (!decide (32 < n.count) && (B5 && B6))) from by rw [HRR.out, d2']; rfl)
  obtain ⟨O, hO⟩ : ∃ O, n.on = O := ⟨_, rfl⟩
  rw [hO] at c7 HRR2 HBC HNA HCO HR HAC
  clear HRR HC1 h2 hO
  cases O
  case true =>
    obtain rfl : R = false := by rw [HRR2.out]; rfl
    clear HRR2
    go_wp2_with (go_at_call 95; refine (HR.out _ HB.out).mono ?_; rintro e w2 ⟨rfl, hb2⟩; obtain ⟨e0, e1, e2, e3, e4, e5, e6, e7, e8⟩ := HBC.out _ hb2)
    go_ret
    exact ⟨rfl, bthen HB.out hb2⟩
  by_cases h3 : 32 < n.count
  · have d3 : decide ((32 : Int) < (n.count : Int)) = true := decide_eq_true (by omega)
    have d3' : decide (32 < n.count) = true := decide_eq_true h3
    obtain rfl : R = false := by rw [HRR2.out, d3']; rfl
    clear h3 HRR2
    go_wp2_with (first
      | (go_at_call 95; refine (HR.out _ HB.out).mono ?_; rintro e w2 ⟨rfl, hb2⟩; obtain ⟨e0, e1, e2, e3, e4, e5, e6, e7, e8⟩ := HBC.out _ hb2)
      | (go_at_call 96; refine (HCO.out _ (bthen HB.out hb2) hcn).mono ?_; rintro e w3 ⟨rfl, hb3⟩))
    go_ret
    exact ⟨rfl, bthen HB.out (bthen hb2 hb3)⟩
  have d3 : decide ((32 : Int) < (n.count : Int)) = false := decide_eq_false (by omega)
  have d3' : decide (32 < n.count) = false := decide_eq_false h3
  have HRR3 := Lib.hid (show R = (B5 && B6) from by rw [HRR2.out, d3']; rfl)
  have h60 : n.count ≤ 60 := by omega
  clear HRR2 h3
  go_upto_region 4 with (first
    | (go_at_call 95; refine (HR.out _ HB.out).mono ?_; rintro e w2 ⟨rfl, hb2⟩; obtain ⟨e0, e1, e2, e3, e4, e5, e6, e7, e8⟩ := HBC.out _ hb2)
    | (go_at_call 96; refine (HCO.out _ (bthen HB.out hb2) hcn).mono ?_; rintro e w3 ⟨rfl, hb3⟩))
  clear c0 c1 c2 c3 c4 c5 c6 c7 c8 e0 e1 e2 e3 e4 e5 e6 e7 e8 d2 d2' d3 d3'
  have hb03 := bthen hb2 hb3
  obtain ⟨e0, e1, e2, e3, e4, e5, e6, e7, e8⟩ := HBC.out _ hb03
  have HB03 := Lib.hid hb03
  clear hb03 hb2 hb3
  go_upto_region 5 with (go_at_call 97; refine (HNA.out _ (bthen HB.out HB03.out) h60).mono ?_; rintro e w4 ⟨xa, xc, ya, yc, rfl, hx4, hy4, hb4⟩)
  clear e0 e1 e2 e3 e4 e5 e6 e7 e8 hcn h60
  have HB04 := Lib.hid (bthen HB03.out hb4)
  obtain ⟨f0, f1, f2, f3, f4, f5, f6, f7, f8, f9, f10, f11, f12⟩ := HAC.out _ HB04.out
  have HX := Lib.hid hx4
  have HY := Lib.hid hy4
  clear hx4 hy4 hb4
  cases B5 with
  | false =>
    go_wp2_with (go_at_call 98; (with_reducible refine (HAX.out _ (bthen HB.out HB04.out) xa xc HX.out).mono ?_); rintro e w5 ⟨rfl, hb5⟩)
    go_ret
    exact ⟨by rw [HRR3.out]; rfl, bthen HB.out (bthen HB04.out hb5)⟩
  | true =>
    go_wp2_with (first
      | (go_at_call 98; (with_reducible refine (HAX.out _ (bthen HB.out HB04.out) xa xc HX.out).mono ?_); rintro e w5 ⟨rfl, hb5⟩; obtain ⟨p0, p1, p2, p3, p4, p5, p6, p7, p8, p9, p10, p11, p12⟩ := HAC.out _ (bthen HB04.out hb5))
      | (go_at_call 42; refine (HEA.out _ (bthen HB.out (bthen HB04.out hb5))).mono ?_; rintro e w6 ⟨v6, rfl, ho6, hb6⟩; obtain ⟨na, nc, rfl, hn6⟩ := ho6.strs HSZ.out)
      | (go_at_call 98; (with_reducible refine (HAY.out _ ya yc na nc (HY.out.call (bthen hb5 hb6)) hn6).mono ?_); rintro e w7 ⟨rfl, hb7⟩))
    go_ret
    exact ⟨by rw [HRR3.out]; rfl, bthen HB.out (bthen HB04.out (bthen hb5 (bthen hb6 hb7)))⟩
end Go.Proofs.YtmhekhilgllciaaGreat
/- The contract of matcher.Text. -/
namespace Go.Proofs.YtmhekhilgllciaaGreat
open Go.RowKit Go.Maps

theorem joinW_lib (ws : List ByteArray) : Lib.join (ws.map (·.data.toList)) [124] = joinW ws := by
  cases ws with
  | nil => rfl
  | cons s r =>
    rw [List.map_cons, Lib.join_cons]
    simp [joinW, Lib.joinTail, List.flatMap, List.map_map, Function.comp_def]
theorem flat_len : ∀ (r : List ByteArray) (k : Nat), (∀ s ∈ r, s.size ≤ 64) → r.length ≤ k → (r.flatMap fun x => 124 :: x.data.toList).length ≤ 65 * k
  | [], _, _, _ => by simp
  | s :: r, 0, _, h => by simp at h
  | s :: r, k + 1, h, hk => by
    have ih := flat_len r k (fun x hx => h x (List.mem_cons_of_mem _ hx)) (by simpa using hk)
    have hs := h s (by simp)
    have e : s.data.toList.length = s.size := by simp
    rw [List.flatMap_cons, List.length_append, List.length_cons]
    omega
theorem joinW_len (ws : List ByteArray) (h : ∀ s ∈ ws, s.size ≤ 64) (hk : ws.length ≤ 8) : (joinW ws).length ≤ 600 := by
  cases ws with
  | nil => simp [joinW]
  | cons s r =>
    have := flat_len r 8 (fun x hx => h x (List.mem_cons_of_mem _ hx)) (by simp at hk; omega)
    have hs := h s (by simp)
    have e : s.data.toList.length = s.size := by simp
    simp only [joinW, List.length_append]
    omega

theorem join_any (a : Option Addr) (c : Nat) (ws : List ByteArray) (W : World) (h : HasStrs W a c ws) (h1 : 1 ≤ ws.length) (h8 : ws.length ≤ 8) (hs : ∀ s ∈ ws, s.size ≤ 64) :
    Calls Tryz.prog 170 #[.slice a ws.length c, .string ⟨#[124]⟩] W fun e w' => e = .returned (.string ⟨(joinW ws).toArray⟩) ∧ Below W.heap.size W w' := by
  obtain ⟨hc, hm, _, h4⟩ := h
  rcases h4 with rfl | ⟨b, off, rfl, hlt, hcell⟩
  · simp at h1
  · have hl := joinW_len ws hs h8
    have e := joinW_lib ws
    have := Tryz.strings_Join b off c ws ⟨#[124]⟩ W (fun j x hx => by
      obtain ⟨hj, rfl⟩ := List.getElem?_eq_some_iff.1 hx
      exact hcell j hj) hlt (by omega) hc (by
        show (Lib.join (ws.map (·.data.toList)) [124]).length ≤ _
        rw [e]; omega)
    rw [show (⟨#[124]⟩ : ByteArray).data.toList = [124] from rfl, e] at this
    exact this

def textV (m : Mat) : ByteArray := if rightM m then ⟨(textM m).toArray⟩ else ⟨#[]⟩
def textE (m : Mat) : Int := if rightM m then 0 else 1
def TextPost (m : Mat) (w : World) (e : Ending) (w' : World) : Prop := e = .returned (.tuple #[.string (textV m), .int .i64 (textE m)]) ∧ Below w.heap.size w w'
theorem right_words {m : Mat} (h : rightM m = true) : (∀ s ∈ m.words, s.size ≤ 64) ∧ 1 ≤ m.words.length ∧ m.words.length ≤ 8 ∧ m.name.size ≤ 64 := by
  obtain ⟨hn, h1, h4, hw, hl1, hl8, _⟩ := (rightM_iff m).1 h
  refine ⟨fun s hs => ?_, hl1, hl8, ?_⟩
  · have := wordsC_all hw s hs
    simp only [wordC, Bool.and_eq_true, decide_eq_true_eq] at this
    have e : s.data.toList.length = s.size := by simp
    omega
  · have e : m.name.data.toList.length = m.name.size := by simp
    simp only [nameC, Bool.and_eq_true, decide_eq_true_eq] at hn
    omega
theorem textM_bytes (m : Mat) : ((((m.name ++ ⟨(signT m.how).toArray⟩) ++ ⟨#[34]⟩) ++ ⟨(joinW m.words).toArray⟩) ++ ⟨#[34]⟩ : ByteArray) = ⟨(textM m).toArray⟩ := by
  apply bytes_ext
  simp [textM, ByteArray.data_append]

theorem map_call {w w1 : World} {b n : Nat} {D : DataW Unit} (h : w.ownsMap Tryz.prog 3 signElem b n D) (hb : Below w.heap.size w w1) : w1.ownsMap Tryz.prog 3 signElem b n D :=
  h.kept (row := none) ⟨hb.os, hb.tape, hb.output, hb.size, fun k hk _ => hb.block k hk⟩ (by simp)

set_option maxHeartbeats 6400000 in
set_option maxRecDepth 100000 in
theorem mText_any (v : Value) (m : Mat) (w : World) (h : HasMat w v m) : Calls Tryz.prog 113 #[v] w (TextPost m w) := by
  have hrt := fun v W (h : HasMat W v m) => mRight_any v m W h
  have HR := Lib.hid hrt
  clear hrt
  obtain ⟨a, c, rfl, hW, hs, hwf⟩ := h
  cases hr : rightM m with
  | false =>
    have e1 : textV m = ⟨#[]⟩ := by simp [textV, hr]
    have e2 : textE m = 1 := by simp [textE, hr]
    unfold TextPost
    rw [e1, e2]
    rw [hr] at HR
    have hbx := Blk.new w 97 #[.string m.name, .int .i64 m.how, .slice a m.words.length c]
    have hb0 : Below w.heap.size w (w.alloc (.cells #[.string m.name, .int .i64 m.how, .slice a m.words.length c] 97)) := (Below.refl _ _).alloc (Nat.le_refl _) _
    have HM := Lib.hid (show HasMat (w.alloc (.cells #[.string m.name, .int .i64 m.how, .slice a m.words.length c] 97)) (.agg #[.string m.name, .int .i64 m.how, .slice a m.words.length c]) m from ⟨a, c, rfl, hW.call hb0, hs, hwf⟩)
    clear hr e1 e2 hW hs hwf
    go_enter Tryz.func113, Tryz.ntmps113
    go_upto_region 1 with fail
    generalize w.alloc (.cells #[.string m.name, .int .i64 m.how, .slice a m.words.length c] 97) = wx at *
    obtain ⟨c0, c1, c2⟩ := hbx.cells3
    go_wp2_with (go_at_call 127; refine (HR.out _ _ HM.out).mono ?_; rintro e w2 ⟨rfl, hb2⟩)
    go_ret2
    exact ⟨rfl, bthen hb0 hb2⟩
  | true =>
    have e1 : textV m = ⟨(textM m).toArray⟩ := by simp [textV, hr]
    have e2 : textE m = 0 := by simp [textE, hr]
    obtain ⟨q1, q2, q3, q4⟩ := right_words hr
    unfold TextPost
    rw [e1, e2, ← textM_bytes]
    rw [hr] at HR
    have hbx := Blk.new w 97 #[.string m.name, .int .i64 m.how, .slice a m.words.length c]
    have hb0 : Below w.heap.size w (w.alloc (.cells #[.string m.name, .int .i64 m.how, .slice a m.words.length c] 97)) := (Below.refl _ _).alloc (Nat.le_refl _) _
    have HM := Lib.hid (show HasMat (w.alloc (.cells #[.string m.name, .int .i64 m.how, .slice a m.words.length c] 97)) (.agg #[.string m.name, .int .i64 m.how, .slice a m.words.length c]) m from ⟨a, c, rfl, hW.call hb0, hs, hwf⟩)
    have hW0 := hW.call hb0
    have HJ := Lib.hid (fun W h => join_any a c m.words W h q2 q3 q1)
    have hsv := signVal_is m.how
    have HL0 := fun (W : World) (b : Nat) (hm : W.ownsMap Tryz.prog 3 signElem b 4 D4) => look_sign1 hm m.how hwf
    rw [hsv] at HL0
    have HL := Lib.hid HL0
    have hsg : (signT m.how).length ≤ 2 := by
      unfold signT
      rcases signC_cases m.how with ⟨_, e⟩ | ⟨_, e⟩ | ⟨_, e⟩ | ⟨_, e⟩ | ⟨_, e⟩ <;> rw [e] <;> simp
    have hjl := joinW_len m.words q1 q3
    clear hr e1 e2 hW hs hwf q1 HL0 hsv
    generalize joinW m.words = J at *
    generalize (signT m.how) = T at *
    generalize onesC m.how = X at *
    generalize mostC m.how = M at *
    go_enter Tryz.func113, Tryz.ntmps113
    go_upto_region 1 with fail
    generalize w.alloc (.cells #[.string m.name, .int .i64 m.how, .slice a m.words.length c] 97) = wx at *
    obtain ⟨c0, c1, c2⟩ := hbx.cells3
    go_upto_region 3 with (go_at_call 127; refine (HR.out _ _ HM.out).mono ?_; rintro e w2 ⟨rfl, hb2⟩)
    have hbx2 := hbx.call hb2
    have hW2 := hW0.call hb2
    have hb3 := bthen hb0 hb2
    clear c0 c1 c2 hbx hW0 hb0 HM HR hb2
    have HB := Lib.hid hbx2
    have HW2 := Lib.hid hW2
    have HB3 := Lib.hid hb3
    have HKP := Lib.hid (fun W (h : Below w2.heap.size w2 W) => (HB.out.call h).cells3)
    have hs0 := run_sign0 ⟨T.toArray⟩ M X
    clear hbx2 hW2 hb3
    have p1 : ¬ 9223372036854775807 < m.name.size + T.length := by omega
    have p2 : ¬ 9223372036854775807 < m.name.size + T.length + 1 := by omega
    have p3 : ¬ 9223372036854775807 < m.name.size + T.length + 1 + J.length := by omega
    have p4 : ¬ 9223372036854775807 < m.name.size + T.length + 1 + J.length + 1 := by omega
    clear hsg hjl q2 q3 q4
    go_region_held3 (fun w' => w'.cell? ⟨w.heap.size, 0, none⟩ = some (.string m.name) ∧ w'.cell? ⟨w.heap.size, 1, none⟩ = some (.int .i64 m.how) ∧ w'.cell? ⟨w.heap.size, 2, none⟩ = some (.slice a m.words.length c))
      (first | exact HKP.out _ (bthen (bthen (Below.refl _ _).drew hbs) hbj) | exact HKP.out _ (bthen (bthen (Below.refl _ _).drew hbj) hbs) | exact HKP.out _ (bthen (Below.refl _ _).drew hbs) | exact HKP.out _ (bthen (Below.refl _ _).drew hbj) | exact HKP.out _ (Below.refl _ _).drew)
      (first
      | (go_at_call 169; (with_reducible refine (signs_any _).mono ?_); rintro e ws ⟨rfl, hm, hbs⟩; (first | (have hlk := HL.out ws wj.heap.size hm) | (have hlk := HL.out ws w2.heap.size hm)))
      | (go_at_call 170; (with_reducible refine (HJ.out _ ?_).mono ?_); (first | exact (HW2.out.drew.call hbs) | exact HW2.out.drew); rintro e wj ⟨rfl, hbj⟩; (try have hlj := HL.out wj w2.heap.size (map_call hm hbj))))
    all_goals
      go_wp2_with fail
      go_ret2
      first
      | exact ⟨rfl, bthen (bthen HB3.out.drew hbs) hbj⟩
      | exact ⟨rfl, bthen (bthen HB3.out.drew hbj) hbs⟩
end Go.Proofs.YtmhekhilgllciaaGreat
