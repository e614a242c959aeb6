/- The contract of routes' each, as gather calls it. -/
import Derived.Test.YtolbhhokpelchabDoorMg2
namespace Go.Proofs.YtolbhhokpelchabDoor
open Go.RowKit

theorem tellL_app (T : Rt → List ByteArray) (xs ys : List Rt) : tellL T (xs ++ ys) = tellL T xs ++ tellL T ys := by simp [tellL]
theorem allRs_app (a b : List Rt) : allRs (a ++ b) = allRs a ++ allRs b := by
  induction a with
  | nil => rfl
  | cons x a ih => simp only [List.cons_append, allRs, ih, List.append_assoc]
theorem tell_take (T : Rt → List ByteArray) (xs : List Rt) (k : Nat) : (tellL T (allRs (xs.take k))).length ≤ (tellL T (allRs xs)).length := by
  conv => rhs; rw [← List.take_append_drop k xs]
  rw [allRs_app, tellL_app, List.length_append]
  omega
abbrev gatF (tB cB aB : Nat) : Value := .func (.func 56) #[] #[.pointer (some ⟨tB, 0, none⟩), .pointer (some ⟨cB, 0, none⟩), .pointer (some ⟨aB, 0, none⟩)]
abbrev visF (dB vB : Nat) : Value := .func (.func 54) #[] #[.pointer (some ⟨dB, 0, none⟩), .pointer (some ⟨vB, 0, none⟩)]
structure EachW (w0 : World) (F tB cB aB mB dB vB : Nat) (W : World) (v : Value) (L : List ByteArray) : Prop where
  gat : GatW w0 F tB cB aB mB W v L
  doC : Blk W dB 60 #[gatF tB cB aB]
  vis : Blk W vB 60 #[visF dB vB]
theorem EachW.call {w0 W W1 : World} {F tB cB aB mB dB vB : Nat} {v : Value} {L : List ByteArray} (h : EachW w0 F tB cB aB mB dB vB W v L) (hb : Below W.heap.size W W1) : EachW w0 F tB cB aB mB dB vB W1 v L := ⟨h.gat.call hb, h.doC.call hb, h.vis.call hb⟩
theorem EachW.keep {w0 W W1 : World} {F tB cB aB mB dB vB : Nat} {v v1 : Value} {L M : List ByteArray} (h : EachW w0 F tB cB aB mB dB vB W v L) (hg : GatW w0 F tB cB aB mB W1 v1 M) (hk : KeepR W W1) : EachW w0 F tB cB aB mB dB vB W1 v1 M :=
  ⟨hg, hk.2 _ _ _ (by decide) (by decide) h.doC, hk.2 _ _ _ (by decide) (by decide) h.vis⟩
def EachAll (w0 : World) (F tB cB aB mB dB vB : Nat) (T : Rt → List ByteArray) (q : RtAt) : Prop :=
  ∀ (W : World) (v : Value) (L : List ByteArray), L.length + (tellL T q.n.all).length ≤ 100000000 → EachW w0 F tB cB aB mB dB vB W v L →
    Calls Tryd.prog 54 #[.agg (tCells q), .pointer (some ⟨dB, 0, none⟩), .pointer (some ⟨vB, 0, none⟩)] W (GatP w0 F tB cB aB mB W (L ++ tellL T q.n.all))
def GatAll (w0 : World) (F tB cB aB mB : Nat) (T : Rt → List ByteArray) : Prop := ∀ (q : RtAt) (W : World) (v : Value) (L : List ByteArray), q.own w0 → L.length + (T q.n).length ≤ 100000000 → GatW w0 F tB cB aB mB W v L →
  Calls Tryd.prog 56 #[.agg (tCells q), .pointer (some ⟨tB, 0, none⟩), .pointer (some ⟨cB, 0, none⟩), .pointer (some ⟨aB, 0, none⟩)] W (GatP w0 F tB cB aB mB W (L ++ T q.n))
set_option maxHeartbeats 6400000 in
set_option maxRecDepth 100000 in
theorem each_step {w0 : World} {F tB cB aB mB dB vB : Nat} {T : Rt → List ByteArray} (HG : GatAll w0 F tB cB aB mB T) (q : RtAt) (hq : q.own w0) (hkc : q.n.kids.length ≤ q.kc ∧ q.kc ≤ maxLen)
    (HK : q.n.kids = [] ∨ ∃ b off, q.ka = some ⟨b, off, none⟩ ∧ b < w0.heap.size ∧ ∀ i (h : i < q.n.kids.length), ∃ r : RtAt, r.n = q.n.kids[i] ∧ r.lies w0 b (off + i * 9) ∧ r.ok w0 ∧ EachAll w0 F tB cB aB mB dB vB T r) : EachAll w0 F tB cB aB mB dB vB T q := by
  intro W v L hL hW
  have hb := (Below.refl W.heap.size W).alloc (Nat.le_refl _) (.cells (tCells q) 26)
  have hB := Blk.new W 26 (tCells q)
  have hW1 := hW.call hb
  have hall : tellL T q.n.all = T q.n ++ tellL T (allRs q.n.kids) := by rw [Rt.all_eq]; rfl
  have hll := congrArg List.length hall
  rw [List.length_append] at hll
  have hg := HG q _ v L hq (by omega) hW1.gat
  have HGG := Lib.hid hg
  have HALL := Lib.hid hall
  have HK1 := Lib.hid (KeepR.of hb)
  have HKK := Lib.hid HK
  have HLB := Lib.hid (show L.length + (T q.n).length + (tellL T (allRs q.n.kids)).length ≤ 100000000 by omega)
  clear hg hall hb hq HK hW hL hll HG
  obtain ⟨n, ma, mc, ba, bc, ua, uc, ka, kc⟩ := q
  simp only [tCells] at *
  unfold maxLen at hkc
  go_enter Tryd.func54, Tryd.ntmps54
  go_upto_region 1 with fail
  generalize W.alloc (.cells #[.string n.recv, .slice ma n.ms.length mc, .slice ba n.bys.length bc, .int .i64 n.wait, .int .i64 n.every, .int .i64 n.rep, .slice ua n.mute.length uc, .bool n.on, .slice ka n.kids.length kc] 26) = wx at *
  obtain ⟨c0, c1, c2, c3, c4, c5, c6, c7, c8⟩ := hB.cells9
  have x1 := hW1.doC.cell1
  simp only [gatF] at x1
  go_upto_region 2 with (go_at_call 56; refine HGG.out.mono ?_; rintro e w2 ⟨rfl, ⟨v2, hg2⟩, hk2⟩)
  have hW2 := hW1.keep hg2 hk2
  have hB2 := hk2.2 _ _ _ (by decide) (by decide) hB
  have HK2 := Lib.hid (HK1.out.trans hk2)
  clear hg2 hk2 hW1 x1 c0 c1 c2 c3 c4 c5 c6 c7 c8 hB HGG HK1
  obtain ⟨-, -, -, -, -, -, -, -, c8⟩ := hB2.cells9
  clear hB2
  by_cases hl0 : n.kids.length = 0
  · have hk0 : n.kids = [] := List.eq_nil_of_length_eq_zero hl0
    have hfin : L ++ T n = L ++ tellL T n.all := by rw [HALL.out, hk0]; simp [allRs, tellL]
    have HF := Lib.hid hfin
    have HW2 := Lib.hid hW2
    rw [hl0] at c8
    clear hk0 hfin hW2 hl0 hkc
    go_wp2_with fail
    refine wp_loop_rounds 1 ?_
    rw [rounds_succ]
    go_wp2_with fail
    go_end0
    exact ⟨rfl, ⟨_, by rw [← HF.out]; exact HW2.out.gat⟩, HK2.out⟩
  · obtain ⟨kb, kof, rfl, _, hkk⟩ : ∃ b off, ka = some ⟨b, off, none⟩ ∧ b < w0.heap.size ∧ ∀ i (h : i < n.kids.length), ∃ r : RtAt, r.n = n.kids[i] ∧ r.lies w0 b (off + i * 9) ∧ r.ok w0 ∧ EachAll w0 F tB cB aB mB dB vB T r := by
      rcases HKK.out with h | h
      · exact absurd (by rw [h]; rfl) hl0
      · exact h
    have HKI := Lib.hid hkk
    clear hkk HKK hl0
    go_wp2_with fail
    clear c8
    go_loopg [12, 5] n.kids.length (fun gg iv _ wr => ∃ (k : Nat) (vk : Value), k + gg = n.kids.length ∧ iv = .int .i64 (k : Int) ∧ EachW w0 F tB cB aB mB dB vB wr vk (L ++ T n ++ tellL T (allRs (n.kids.take k))) ∧ Hid (KeepR W wr))
    case atStart => exact ⟨0, v2, by omega, rfl, by simpa [allRs, tellL] using hW2, HK2⟩
    case round =>
      obtain ⟨k, vk, hkg, rfl, hWk, HKk⟩ := hrel
      cases gk with
      | zero =>
        obtain rfl : k = n.kids.length := by omega
        have hfin : L ++ T n ++ tellL T (allRs (n.kids.take n.kids.length)) = L ++ tellL T n.all := by rw [List.take_length, HALL.out, List.append_assoc]
        rw [hfin] at hWk
        have HWK := Lib.hid hWk
        clear hWk hfin
        go_wp2_with fail
        go_end0
        exact ⟨rfl, ⟨_, HWK.out.gat⟩, HKk.out⟩
      | succ gg =>
        have hkl : k < n.kids.length := by omega
        obtain ⟨r, hrn, hrl, hro, hra⟩ := HKI.out k hkl
        obtain ⟨e0, e1, e2, e3, e4, e5, e6, e7, e8⟩ := hrl.call hWk.gat.below
        have hbn := (Below.refl wr.heap.size wr).alloc (Nat.le_refl _) (.cells (tCells r) 26)
        have hat := allRs_take n.kids k hkl
        rw [← hrn] at hat
        have hlt := tell_take T n.kids (k + 1)
        rw [hat, tellL_app, List.length_append] at hlt
        have hWn := hWk.call hbn
        have hcall := hra _ vk _ (by have := HLB.out; rw [List.length_append, List.length_append]; omega) hWn
        obtain ⟨f0, f1, f2, f3, f4, f5, f6, f7, f8⟩ := (Blk.new wr 26 (tCells r)).cells9
        have x2 := hWn.vis.cell1
        simp only [visF] at x2
        have hnx : L ++ T n ++ tellL T (allRs (n.kids.take k)) ++ tellL T r.n.all = L ++ T n ++ tellL T (allRs (n.kids.take (k + 1))) := by rw [hat, tellL_app, List.append_assoc (L ++ T n)]
        rw [hnx] at hcall
        have HCALL := Lib.hid hcall
        have HKN := Lib.hid (HKk.out.trans (KeepR.of hbn))
        have HWN := Lib.hid hWn
        clear hrn hrl hro hra hbn hat hlt hWn hcall hnx hWk HKk
        obtain ⟨r, ma', mc', ba', bc', ua', uc', ka', kc'⟩ := r
        simp only [tCells] at *
        go_wp2_with (go_at_call 54; refine HCALL.out.mono ?_; rintro e w3 ⟨rfl, ⟨v3, hg3⟩, hk3⟩)
        go_roundg gg
        case measure => omega
        case rel => exact ⟨k + 1, v3, by omega, by go_num, HWN.out.keep hg3 hk3, Lib.hid (HKN.out.trans hk3)⟩
theorem eachIn_any {w0 : World} {F tB cB aB mB dB vB : Nat} {T : Rt → List ByteArray} (HG : GatAll w0 F tB cB aB mB T) {q : RtAt} (h : q.ok w0) : EachAll w0 F tB cB aB mB dB vB T q := by
  induction h with
  | flat q h0 h1 => exact each_step HG q h0.1 h0.2 (.inl h1)
  | row q b off R h0 h1 h2 h3 h4 h5 ih => exact each_step HG q h0.1 h0.2 (.inr ⟨b, off, h1, h2, fun i hi => ⟨R i, h3 i hi, h4 i hi, h5 i hi, ih i hi⟩⟩)
end Go.Proofs.YtolbhhokpelchabDoor
/- The contracts of routes' each and of gather of texts. -/
namespace Go.Proofs.YtolbhhokpelchabDoor
open Go.RowKit

set_option maxHeartbeats 6400000 in
set_option maxRecDepth 100000 in
theorem each_any {w0 : World} {F tB cB aB mB : Nat} {T : Rt → List ByteArray} (HG : GatAll w0 F tB cB aB mB T) {q : RtAt} (h : q.ok w0) (W : World) (v : Value) (L : List ByteArray)
    (hL : L.length + (tellL T q.n.all).length ≤ 100000000) (hW : GatW w0 F tB cB aB mB W v L) :
    Calls Tryd.prog 31 #[.agg (tCells q), gatF tB cB aB] W (GatP w0 F tB cB aB mB W (L ++ tellL T q.n.all)) := by
  have hb1 := (Below.refl W.heap.size W).alloc (Nat.le_refl _) (.cells (tCells q) 26)
  have hz1 : (W.alloc (.cells (tCells q) 26)).heap.size = W.heap.size + 1 := by simp
  have hb2 := hb1.alloc (by omega) (.cells #[gatF tB cB aB] 60)
  have hz2 : ((W.alloc (.cells (tCells q) 26)).alloc (.cells #[gatF tB cB aB] 60)).heap.size = W.heap.size + 2 := by simp
  have hb3 := hb2.alloc (by omega) (.cells #[visF (W.heap.size + 1) (W.heap.size + 2)] 60)
  have hB := ((Blk.new W 26 (tCells q)).alloc (.cells #[gatF tB cB aB] 60)).alloc (.cells #[visF (W.heap.size + 1) (W.heap.size + 2)] 60)
  have hD := (Blk.new (W.alloc (.cells (tCells q) 26)) 60 #[gatF tB cB aB]).alloc (.cells #[visF (W.heap.size + 1) (W.heap.size + 2)] 60)
  rw [hz1] at hD
  have hV := Blk.new ((W.alloc (.cells (tCells q) 26)).alloc (.cells #[gatF tB cB aB] 60)) 60 #[visF (W.heap.size + 1) (W.heap.size + 2)]
  rw [hz2] at hV
  have hcall := eachIn_any HG h _ v L hL ⟨hW.call hb3, hD, hV⟩
  have hv1 := hV.cell1
  have HK := Lib.hid (KeepR.of hb3)
  have HC := Lib.hid hcall
  clear hb1 hz1 hb2 hz2 hb3 hD hV hcall hW h HG hL
  obtain ⟨n, ma, mc, ba, bc, ua, uc, ka, kc⟩ := q
  simp only [tCells, gatF, visF] at *
  go_enter Tryd.func31, Tryd.ntmps31
  go_upto_region 3 with fail
  generalize ((W.alloc (.cells #[.string n.recv, .slice ma n.ms.length mc, .slice ba n.bys.length bc, .int .i64 n.wait, .int .i64 n.every, .int .i64 n.rep, .slice ua n.mute.length uc, .bool n.on, .slice ka n.kids.length kc] 26)).alloc (.cells #[.func (.func 56) #[] #[.pointer (some ⟨tB, 0, none⟩), .pointer (some ⟨cB, 0, none⟩), .pointer (some ⟨aB, 0, none⟩)]] 60)).alloc (.cells #[.func (.func 54) #[] #[.pointer (some ⟨W.heap.size + 1, 0, none⟩), .pointer (some ⟨W.heap.size + 2, 0, none⟩)]] 60) = wx at *
  obtain ⟨c0, c1, c2, c3, c4, c5, c6, c7, c8⟩ := hB.cells9
  go_wp2_with (go_at_call 54; refine HC.out.mono ?_; rintro e w2 ⟨rfl, hg2, hk2⟩)
  go_end0
  exact ⟨rfl, hg2, HK.out.trans hk2⟩
/-- all of them come of routes that lie there -/
theorem all_own {w : World} {q : RtAt} (h : q.ok w) : ∀ x ∈ q.n.all, ∃ r : RtAt, r.n = x ∧ r.own w := by
  induction h with
  | flat q h0 h1 =>
    intro x hx
    rw [Rt.all_eq, h1] at hx
    simp only [allRs, List.mem_singleton] at hx
    exact ⟨q, hx.symm, h0.1⟩
  | row q b off R h0 h1 h2 h3 h4 h5 ih =>
    intro x hx
    rw [Rt.all_eq, List.mem_cons] at hx
    rcases hx with rfl | hx
    · exact ⟨q, rfl, h0.1⟩
    · have hm : ∀ (xs : List Rt), x ∈ allRs xs → ∃ y ∈ xs, x ∈ y.all := by
        intro xs
        induction xs with
        | nil => intro h; simp [allRs] at h
        | cons y ys ihy =>
          intro h
          simp only [allRs, List.mem_append] at h
          rcases h with h | h
          · exact ⟨y, List.mem_cons_self, h⟩
          · obtain ⟨z, hz, hx⟩ := ihy h
            exact ⟨z, List.mem_cons_of_mem _ hz, hx⟩
      obtain ⟨y, hy, hxy⟩ := hm _ hx
      obtain ⟨i, hi, rfl⟩ := List.mem_iff_getElem.1 hy
      rw [← h3 i hi] at hxy
      exact ih i hi x hxy
theorem tell_len {T : Rt → List ByteArray} {m : Nat} : ∀ (xs : List Rt), (∀ x ∈ xs, (T x).length ≤ m) → (tellL T xs).length ≤ xs.length * m
  | [], _ => by simp [tellL]
  | x :: xs, h => by
    have e : tellL T (x :: xs) = T x ++ tellL T xs := rfl
    have h1 := h x List.mem_cons_self
    have h2 := tell_len xs (fun y hy => h y (List.mem_cons_of_mem _ hy))
    rw [e, List.length_append, List.length_cons, Nat.succ_mul]
    omega
/-- what tells: few texts, none too long -/
def TellOk (w : World) (T : Rt → List ByteArray) : Prop := ∀ r : RtAt, r.own w → (T r.n).length ≤ 1048576 ∧ ∀ s ∈ T r.n, s.size ≤ maxLen
theorem recv_ok (w : World) : TellOk w recvT := fun r h => ⟨by simp [recvT], fun s hs => by
  simp only [recvT, List.mem_singleton] at hs
  have := h.2.2.2.1
  rw [hs]; unfold maxLen; omega⟩
theorem mute_ok (w : World) : TellOk w muteT := fun _r h => ⟨h.2.2.2.2.2.2.2, h.2.2.1.2.2.1⟩
theorem tells {w : World} {T : Rt → List ByteArray} (hT : TellOk w T) {q : RtAt} (h : q.ok w) (hc : q.n.count ≤ 60) : (tellL T q.n.all).length ≤ 62914560 ∧ ∀ s ∈ tellL T q.n.all, s.size ≤ maxLen := by
  have ha := all_own h
  constructor
  · have := tell_len (T := T) (m := 1048576) q.n.all (fun x hx => by obtain ⟨r, rfl, hr⟩ := ha x hx; exact (hT r hr).1)
    rw [Rt.all_len] at this
    omega
  · intro s hs
    obtain ⟨x, hx, hs⟩ := List.mem_flatMap.1 hs
    obtain ⟨r, rfl, hr⟩ := ha x hx
    exact (hT r hr).2 s hs
/-- what gather answers -/
def RowP (M : List ByteArray) (w : World) (e : Ending) (w' : World) : Prop := ∃ a c, e = .returned (.slice a M.length c) ∧ HasStrs w' a c M ∧ Below w.heap.size w w'
set_option maxHeartbeats 6400000 in
set_option maxRecDepth 100000 in
theorem gather_any (F : Nat) (T : Rt → List ByteArray) (w : World) (HG : ∀ tB cB aB mB, GatAll w F tB cB aB mB T) (hT : TellOk w T) (q : RtAt) (h : q.ok w) (hc : q.n.count ≤ 60) :
    Calls Tryd.prog 39 #[.agg (tCells q), .func (.func F) #[] #[]] w (RowP (onceL (tellL T q.n.all)) w) := by
  obtain ⟨hl, hs⟩ := tells hT h hc
  have hb1 := (Below.refl w.heap.size w).alloc (Nat.le_refl _) (.cells (tCells q) 26)
  have hz1 : (w.alloc (.cells (tCells q) 26)).heap.size = w.heap.size + 1 := by simp
  have hb2 := hb1.alloc (by omega) (.cells #[.func (.func F) #[] #[]] 64)
  have hz2 : ((w.alloc (.cells (tCells q) 26)).alloc (.cells #[.func (.func F) #[] #[]] 64)).heap.size = w.heap.size + 2 := by simp
  have hB2 := (Blk.new w 26 (tCells q)).alloc (.cells #[.func (.func F) #[] #[]] 64)
  have hF2 := Blk.new (w.alloc (.cells (tCells q) 26)) 64 #[.func (.func F) #[] #[]]
  rw [hz1] at hF2
  have HS := Lib.hid hs
  have HC := Lib.hid hc
  have HQ := Lib.hid h
  have hgall := fun tB cB aB mB => @each_any w F tB cB aB mB T (HG tB cB aB mB) q h
  have HEACH := Lib.hid hgall
  clear hb1 hz1 hs hc h hgall HG hT
  obtain ⟨n, ma, mc, ba, bc, ua, uc, ka, kc⟩ := q
  simp only [tCells] at *
  go_enter Tryd.func39, Tryd.ntmps39
  go_upto_region 1 with fail
  generalize (w.alloc (.cells #[.string n.recv, .slice ma n.ms.length mc, .slice ba n.bys.length bc, .int .i64 n.wait, .int .i64 n.every, .int .i64 n.rep, .slice ua n.mute.length uc, .bool n.on, .slice ka n.kids.length kc] 26)).alloc (.cells #[.func (.func F) #[] #[]] 64) = w2 at *
  have hA3 := Blk.new w2 23 #[.slice none 0 0]
  rw [hz2] at hA3
  have hb3 := hb2.alloc hb2.size (.cells #[.slice none 0 0] 23)
  have hB3 := hB2.alloc (.cells #[.slice none 0 0] 23)
  have hF3 := hF2.alloc (.cells #[.slice none 0 0] 23)
  have hz3 : (w2.alloc (.cells #[.slice none 0 0] 23)).heap.size = w.heap.size + 3 := by simp; omega
  clear hb2 hB2 hF2
  go_upto_region 2 with fail
  generalize w2.alloc (.cells #[.slice none 0 0] 23) = w3 at *
  have hmm := @run_makeMap Tryd.prog
  have hz4 : (w3.alloc (.map #[] 0)).heap.size = w3.heap.size + 1 := by simp
  have hM4 := CntIs.made w3
  rw [hz3] at hM4
  have hM5 := hM4.call ((Below.refl _ _).alloc (Nat.le_refl _) (.cells #[.map (some (w.heap.size + 3))] 77))
  have hC5 := Blk.new (w3.alloc (.map #[] 0)) 77 #[.map (some (w.heap.size + 3))]
  rw [hz4, hz3] at hC5
  have hA5 := (hA3.alloc (.map #[] 0)).alloc (.cells #[.map (some (w.heap.size + 3))] 77)
  have hB5 := (hB3.alloc (.map #[] 0)).alloc (.cells #[.map (some (w.heap.size + 3))] 77)
  have hF5 := (hF3.alloc (.map #[] 0)).alloc (.cells #[.map (some (w.heap.size + 3))] 77)
  have hb5 := (hb3.alloc hb3.size (.map #[] 0)).alloc (by rw [hz4]; have := hb3.size; omega) (.cells #[.map (some (w.heap.size + 3))] 77)
  have hGW : GatW w F (w.heap.size + 1) (w.heap.size + 4) (w.heap.size + 2) (w.heap.size + 3) _ (.slice none 0 0) [] := ⟨hb5, hF5, hC5, hA5, OwnS.nil _ _ _, hM5, by omega, by omega⟩
  have hcall := HEACH.out _ _ _ _ _ _ _ (by simp only [List.length_nil]; omega) hGW
  rw [List.nil_append] at hcall
  have HCALL := Lib.hid hcall
  simp only [gatF] at HCALL
  clear hA3 hb3 hB3 hF3 hM4 hM5 hC5 hA5 hF5 hb5 hGW hcall HEACH hz4
  go_upto_region 3 with fail
  generalize (w3.alloc (.map #[] 0)).alloc (.cells #[.map (some (w.heap.size + 3))] 77) = w5 at *
  obtain ⟨c0, c1, c2, c3, c4, c5, c6, c7, c8⟩ := hB5.cells9
  clear hB5
  go_wp2_with (go_at_call 31; refine HCALL.out.mono ?_; rintro e w6 ⟨rfl, ⟨v6, hg6⟩, hk6⟩; obtain ⟨a6, c6', rfl, _, _⟩ := hg6.own.form; have y1 := hg6.all.cell1)
  go_ret
  obtain ⟨a7, c7', e7, h7⟩ := hg6.own.strs (fun s hs => HS.out s ((mem_once _ s).1 hs))
  simp only [Value.slice.injEq] at e7
  obtain ⟨rfl, _, rfl⟩ := e7
  exact ⟨_, _, rfl, h7, hg6.below⟩
end Go.Proofs.YtolbhhokpelchabDoor
