/- The contracts of the document's own Holds and Find of layer 9. -/
import Derived.Test.YtmhehojjlacfoaaDoorMg6
import Derived.Test.YtmhehojjlacfoaaDoorMg7
import Derived.Test.YtmhehojjlacfoaaDoorAppend
import Derived.Deep.RegionHeld3
namespace Go.Proofs.YtmhehojjlacfoaaDoor
open Go.RowKit

def holds9 (ls : List Lab) (ms : List Mat) : Bool := ms.all (fun m => rHoldsM (getL ls m.name) m)
theorem holds9_is {ls : List Lab} {ms : List Mat} (h1 : rightC ls = true) (h2 : ms.all rightM = true) : holds9 ls ms = (holdsL ls ms).1 := by
  unfold holds9 holdsL
  rw [if_pos h1, if_pos h2]
  rw [Bool.eq_iff_iff, List.all_eq_true, List.all_eq_true]
  rw [List.all_eq_true] at h2
  constructor
  · intro h m hm
    rw [← rHoldsM_is (h2 m hm)]
    exact h m hm
  · intro h m hm
    rw [rHoldsM_is (h2 m hm)]
    exact h m hm
set_option maxHeartbeats 12800000 in
set_option maxRecDepth 100000 in
theorem holds9_any (a ma : Option Addr) (c mc : Nat) (ls : List Lab) (ms : List Mat) (w : World) (hL : HasLabs w a c ls) (hM : HasMats w ma mc ms) :
    Calls Tryd.prog 33 #[.slice a ls.length c, .slice ma ms.length mc] w (BoolB (holds9 ls ms) w) := by
  obtain ⟨R, hR⟩ : ∃ R, holds9 ls ms = R := ⟨_, rfl⟩
  obtain ⟨I, hI, hgood, hend⟩ := all_endB (fun m : Mat => rHoldsM (getL ls m.name) m) ms
  rw [hR]
  rw [show ms.all (fun m => rHoldsM (getL ls m.name) m) = R from hR] at hend
  have HGI := Lib.hid hgood
  have HEI := Lib.hid hend
  have HL := Lib.hid hL
  have HM := Lib.hid hM
  have hmc := hM.2.1
  have hml := hM.1
  unfold maxLen at hmc
  clear hgood hend hL hM hR
  go_enter Tryd.func33, Tryd.ntmps33
  go_wp2_with fail
  go_loopg [9, 6] ms.length (fun gg iv _ wr => ∃ k : Nat, k + gg = ms.length ∧ k ≤ I ∧ iv = .int .i64 (k : Int) ∧ Below w.heap.size w wr)
  case atStart => exact ⟨0, by omega, Nat.zero_le _, rfl, Below.refl _ _⟩
  case round =>
    obtain ⟨k, hkg, hkI, rfl, hbr⟩ := hrel
    cases gk with
    | zero =>
      obtain rfl : k = ms.length := by omega
      obtain rfl : R = true := by
        rcases HEI.out with ⟨_, e⟩ | ⟨h1, _⟩
        · exact e
        · omega
      go_wp2_with fail
      go_ret
      exact ⟨rfl, hbr⟩
    | succ gg =>
      have hkl : k < ms.length := by omega
      obtain ⟨b1, o1, rfl, x1, z1, ⟨p0, p1, p2⟩, p3, p4, p5⟩ : ∃ b off, ma = some ⟨b, off, none⟩ ∧ ∃ x y,
          (w.cell? ⟨b, off + k * 3, none⟩ = some (.string ms[k].name) ∧ w.cell? ⟨b, off + k * 3 + 1, none⟩ = some (.int .i64 ms[k].how) ∧ w.cell? ⟨b, off + k * 3 + 2, none⟩ = some (.slice x ms[k].words.length y)) ∧
          HasStrs w x y ms[k].words ∧ ms[k].name.size ≤ maxLen ∧ (Lit.int .i64 ms[k].how).wf = true := by
        rcases HM.out.2.2 with h | ⟨b, off, h1, _, h3⟩
        · rw [h] at hkl; simp at hkl
        · exact ⟨b, off, h1, h3 k hkl⟩
      have hrr : k = I → rHoldsM (getL ls ms[k].name) ms[k] = false ∧ R = false := fun e => by
        rcases HEI.out with ⟨h1, _⟩ | ⟨_, h3, h4⟩
        · omega
        · subst e
          exact ⟨h3, h4⟩
      have hgg : k ≠ I → rHoldsM (getL ls ms[k].name) ms[k] = true := fun e => HGI.out k (by omega) hkl
      generalize ms[k] = x at *
      have e0 := cellL hbr p0
      have e1 := cellL hbr p1
      have e2 := cellL hbr p2
      have hb1 := balR (o := .cells #[.string x.name, .int .i64 x.how, .slice x1 x.words.length z1] 54) (Below.refl wr.heap.size wr)
      have hA := Blk.new wr 54 #[.string x.name, .int .i64 x.how, .slice x1 x.words.length z1]
      have hM := rHolds_any a c ls (.agg #[.string x.name, .int .i64 x.how, .slice x1 x.words.length z1]) x (wr.alloc (.cells #[.string x.name, .int .i64 x.how, .slice x1 x.words.length z1] 54)) (HL.out.call (bthen hbr hb1)) ⟨x1, z1, rfl, p3.call (bthen hbr hb1), p4, p5⟩
      obtain ⟨X, hX⟩ : ∃ X, rHoldsM (getL ls x.name) x = X := ⟨_, rfl⟩
      rw [hX] at hM hrr hgg
      have HMM := Lib.hid hM
      have HB1 := Lib.hid (bthen hbr hb1)
      obtain ⟨d0, d1, d2⟩ := hA.cells3
      clear hX hM hA hb1 hbr p0 p1 p2 p3 p4 p5
      by_cases hkI2 : k = I
      · obtain ⟨rfl, rfl⟩ := hrr hkI2
        clear hrr hgg hkI2 hkI
        go_wp2_with (go_at_call 49; refine HMM.out.mono ?_; rintro e w3 ⟨rfl, hb3⟩)
        go_ret
        exact ⟨rfl, bthen HB1.out hb3⟩
      · obtain rfl := hgg hkI2
        clear hrr hgg
        go_wp2_with (go_at_call 49; refine HMM.out.mono ?_; rintro e w3 ⟨rfl, hb3⟩)
        go_roundg gg
        case measure => omega
        case rel => exact ⟨k + 1, by omega, by omega, by go_num, bthen HB1.out hb3⟩

/-- the slice of block g reads as the targets ts -/
def RowT (w : World) (g : Nat) (ts : List TgtAt) : Prop := ∀ j u, (tgsV ts)[j]? = some u → w.cell? ⟨g, j, none⟩ = some u
theorem RowT.call {w w1 : World} {g : Nat} {ts : List TgtAt} (h : RowT w g ts) (hb : Below w.heap.size w w1) : RowT w1 g ts := fun j u hu => cellL hb (h j u hu)
theorem RowT.lies {w : World} {g : Nat} {ts : List TgtAt} (h : RowT w g ts) (i : Nat) (hi : i < ts.length) : TgtLies w g (0 + i * 10) ts[i] := by
  have k := fun j (hj : j < 10) (u : Value) (hu : (tgV ts[i])[j]? = some u) => h (i * 10 + j) u ((tgsV_get ts i hi j hj).trans hu)
  rw [Nat.zero_add]
  exact ⟨k 0 (by omega) _ rfl, k 1 (by omega) _ rfl, k 2 (by omega) _ rfl, k 3 (by omega) _ rfl, k 4 (by omega) _ rfl, k 5 (by omega) _ rfl, k 6 (by omega) _ rfl, k 7 (by omega) _ rfl, k 8 (by omega) _ rfl, k 9 (by omega) _ rfl⟩
theorem OwnT.out {w : World} {base : Nat} {v : Value} {ts : List TgtAt} (h : OwnT w base v ts) (hne : ts ≠ []) : ∃ g c, v = .slice (some ⟨g, 0, none⟩) ts.length c ∧ base ≤ g ∧ g < w.heap.size ∧ ts.length ≤ c ∧ c ≤ maxLen ∧ RowT w g ts := by
  rcases h.2 with ⟨_, h0⟩ | ⟨g, cap, cur, e, hb, hg, hn, hm, hcs, ht⟩
  · exact absurd (List.eq_nil_of_length_eq_zero h0) hne
  · refine ⟨g, cap, e, hb, lt_of_block hg, hn, hm, fun j u hu => ?_⟩
    have := World.ownsRow.cells h (g := g) (by rw [e]; rfl) j u hu
    have e0 : (⟨g, 0, none⟩ : Addr).add j = ⟨g, j, none⟩ := by unfold Addr.add; split <;> simp_all
    rwa [e0] at this
theorem src_tgts {P : Program} {t : Nat} {w : World} {g c : Nat} {ts : List TgtAt} (hk : P.underlying t = some (.slice 42)) (h : RowT w g ts) : Src P 10 t (.slice (some ⟨g, 0, none⟩) ts.length c) ts.length (tgsV ts) w := by
  refine Src.ofSlice w hk ⟨g, 0, none⟩ ts.length c (tgsV ts) (by rw [tgsV_len]) (fun j u hu => ?_) (fun u hu => ?_)
  · have e0 : (⟨g, 0, none⟩ : Addr).add j = ⟨g, j, none⟩ := by unfold Addr.add; split <;> simp_all
    rw [e0]
    exact h j u hu
  · obtain ⟨t, _, h⟩ := List.mem_flatMap.1 hu
    exact tgV_one t u h
theorem step_appT {P : Program} (W : World) {ops : Array Oper} {o : Oper} {a : Act} {K : Act → World → Prop} {Q : Exit → Act → World → Prop} {E : Prop} (hgd : o.guard = none) (s x : Operand) (t : TypeId)
    (ho : o.op = .call { callee := .builtin .append, args := #[s, x], argTypes := #[t, t] })
    (base : Nat) (i : TypeInfo) (z : Value) (ht : P.underlying t = some (.slice 42)) (hi : P.info? 42 = some i) (hz : i.zero = some z) (hsize : i.size = 10) (hby : i.bytes = 160) (hzs : z.cells.size = 10)
    (v : Value) (rs : List TgtAt) (hs : a.eval s = v) (hown : OwnT W base v rs) (xv : Value) (ms : List TgtAt) (hx : a.eval x = xv) (hsrc : Src P 10 t xv ms.length (tgsV ms) W)
    (h63 : rs.length + ms.length ≤ 1000000) (hbase : base ≤ W.heap.size)
    (h : ∀ (v' : Value) (w' : World), OwnT w' base v' (rs ++ ms) → W.grownBy w' v.ownBlock → K (a.put o.dst v') w') :
    if Region.wanted o (yielded ops a.tmps) = true then Oper.wp P o a W K Q else E := by
  have hw : Region.wanted o (yielded ops a.tmps) = true := by simp [Region.wanted, hgd]
  rw [if_pos hw]
  obtain ⟨v', w', hr, h2, h3⟩ := run_append_src (P := P) W base t t o.type 42 i z 160 ht hi hz hby (by rw [hsize]; exact hzs) v rs.length (tgsV rs) (by rw [hsize]; exact hown) xv ms.length (tgsV ms) (by rw [hsize]; exact hsrc) (by unfold maxLen; omega) (by omega) hbase
  rw [hsize] at h2
  unfold Oper.wp execOp
  simp only [ho, resolve, invoke, builtin, Sem.run_bind, Sem.run_pure, Result.andThen_ok, List.map_toArray, List.map_cons, List.map_nil, hs, hx, hr]
  refine h v' w' ?_ h3
  unfold OwnT
  rw [tgsV_app, List.length_append]
  exact h2
theorem Rt.find_ne (L : List Lab) (p : Bs) (n : Rt) : n.find L p ≠ [] := by
  rw [Rt.find_eq]
  split <;> simp
theorem proj_ne {ts : List TgtAt} {L : List Lab} {p : Bs} {n : Rt} (h : proj ts = n.find L p) : ts ≠ [] := fun e => by
  rw [e] at h
  exact Rt.find_ne L p n h.symm
theorem Blk.lower {w w1 : World} {g B : Nat} {t : TypeId} {cs : Array Value} (h : Blk w g t cs) (hb : Below B w w1) (hg : g < B) : Blk w1 g t cs := (hb.block g hg).trans h
def Fn9P (w0 : World) (ls : List Lab) (p : Bs) (n : Rt) (W : World) (e : Ending) (W' : World) : Prop :=
  ∃ g c ts, e = .returned (.slice (some ⟨g, 0, none⟩) (List.length ts) c) ∧ W.heap.size ≤ g ∧ g < W'.heap.size ∧ proj ts = n.find ls p ∧ (∀ t ∈ ts, t.2.ok w0) ∧ RowT W' g ts ∧ ts.length ≤ c ∧ c ≤ maxLen ∧ Below W.heap.size W W'
def Fn9All (w0 : World) (a : Option Addr) (c : Nat) (ls : List Lab) (q : RtAt) : Prop := ∀ (d : Nat) (W : World) (p : ByteArray), rightRt d q.n = true → p.size + 8 * d ≤ 1000 → q.n.count ≤ 100000 → Below w0.heap.size w0 W →
  Calls Tryd.prog 15 #[.agg (tCells q), .string p, .slice a ls.length c] W (Fn9P w0 ls p.data.toList q.n W)
set_option maxHeartbeats 12800000 in
set_option maxRecDepth 100000 in
theorem fn9_step {w0 : World} {a : Option Addr} {c : Nat} {ls : List Lab} (hls : HasLabs w0 a c ls) (hrl : rightC ls = true) (q : RtAt) (hq : q.own w0) (hkc : q.n.kids.length ≤ q.kc ∧ q.kc ≤ maxLen)
    (HK : q.n.kids = [] ∨ ∃ b off, q.ka = some ⟨b, off, none⟩ ∧ b < w0.heap.size ∧ ∀ i (h : i < q.n.kids.length), ∃ r : RtAt, r.n = q.n.kids[i] ∧ r.lies w0 b (off + i * 9) ∧ r.ok w0 ∧ Fn9All w0 a c ls r) : Fn9All w0 a c ls q := by
  intro d W p hr hpd hcnt hW
  obtain ⟨i0, hi, hz0, hz1, hz2⟩ := info_partsT Tryd.infoT
  obtain ⟨hal, hkr⟩ := rightRt_kid hr
  have h16 := (alone_kids hal).1
  have hb := (Below.refl W.heap.size W).alloc (Nat.le_refl _) (.cells (tCells q) 26)
  have hB := Blk.new W 26 (tCells q)
  have hz : (W.alloc (.cells (tCells q) 26)).heap.size = W.heap.size + 1 := by simp
  have hb1 := (Below.refl (W.heap.size + 1) (W.alloc (.cells (tCells q) 26))).alloc (by omega) (.cells #[] 42)
  have hB1 := hB.alloc (.cells #[] 42)
  have hown : OwnT ((W.alloc (.cells (tCells q) 26)).alloc (.cells #[] 42)) (W.heap.size + 1) (.slice (some ⟨W.heap.size + 1, 0, none⟩) 0 0) [] := by
    have := World.ownsRow_made (base := W.heap.size + 1) (e := 42) (size := 10) (W.alloc (.cells (tCells q) 26)) #[] 0 (by omega) (by unfold maxLen; omega) (by simp)
    rwa [hz] at this
  have hfe := Rt.find_eq ls p.data.toList q.n
  have hce := q.n.count_eq
  have hbo := RtAt.bare_ok hq
  have HIT := Lib.hid (fun (i : Nat) (hi : i < 100) W => Tryd.strconv_Itoa_small i hi W)
  have HLS := Lib.hid hls
  have HFE := Lib.hid hfe
  have HCE := Lib.hid hce
  have HBO := Lib.hid hbo
  have HK2 := Lib.hid HK
  have HKR := Lib.hid hkr
  have HPD := Lib.hid hpd
  have HCNT := Lib.hid hcnt
  have HWW := Lib.hid (hW.trans ((hb.mono hW.size).trans (hb1.mono (by have := hW.size; omega))))
  have HBB := Lib.hid (hb.trans (hb1.mono (by omega)))
  have hzz : W.heap.size + 1 ≤ ((W.alloc (.cells (tCells q) 26)).alloc (.cells #[] 42)).heap.size := by simp
  have hws : w0.heap.size ≤ W.heap.size + 1 := by have := hW.size; omega
  clear hr hal hb hb1 hfe hce hls hq HK hkr hbo hpd hcnt hW
  obtain ⟨n, ma, mc, ba, bc, ua, uc, ka, kc⟩ := q
  simp only [tCells] at *
  unfold maxLen at hkc
  obtain ⟨c0, c1, c2, c3, c4, c5, c6, c7, c8⟩ := hB.cells9
  go_enter Tryd.func15, Tryd.ntmps15
  go_upto_region 2 with fail
  clear c0 c1 c2 c3 c4 c5 c6 c7 c8
  generalize (W.alloc (.cells #[.string n.recv, .slice ma n.ms.length mc, .slice ba n.bys.length bc, .int .i64 n.wait, .int .i64 n.every, .int .i64 n.rep, .slice ua n.mute.length uc, .bool n.on, .slice ka n.kids.length kc] 26)).alloc (.cells #[] 42) = wx at *
  obtain ⟨g, hg⟩ : ∃ g, W.heap.size = g := ⟨_, rfl⟩
  have HWG := Lib.hid hg
  rw [hg] at hB1 hown hzz hws HBB ⊢
  clear hg hB hz
  obtain ⟨c0, c1, c2, c3, c4, c5, c6, c7, c8⟩ := hB1.cells9
  go_wp2_with fail
  clear c0 c1 c2 c3 c4 c5 c6 c7 c8
  go_loopg [14, 7, 8, 9] n.kids.length (fun gg iv v _ _ wr => ∃ (V : Value) (k : Nat) (tk : List TgtAt), V = v ∧ k + gg = n.kids.length ∧ iv = .int .i64 (k : Int) ∧ OwnT wr (g + 1) V tk ∧
    Hid (proj tk ++ findRs ls p.data.toList k (n.kids.drop k) = findRs ls p.data.toList 0 n.kids) ∧ Hid (∀ t ∈ tk, t.2.ok w0) ∧ Hid (tk.length + countRs (n.kids.drop k) ≤ countRs n.kids) ∧ Below (g + 1) wx wr ∧ g + 1 ≤ wr.heap.size)
  case atStart => exact ⟨_, 0, [], rfl, by omega, rfl, hown, Lib.hid (by rw [List.drop_zero]; rfl), Lib.hid (fun t ht => by cases ht), Lib.hid (by rw [List.drop_zero]; simp), Below.refl _ _, hzz⟩
  case round =>
    obtain ⟨V, k, tk, rfl, hkg, rfl, hownk, HP, HO, HC, hbr, hzr⟩ := hrel
    clear hown
    cases gk with
    | zero =>
      obtain rfl : k = n.kids.length := by omega
      have HP2 : Hid (proj tk = findRs ls p.data.toList 0 n.kids) := Lib.hid (by
        have h := HP.out
        rw [List.drop_length] at h
        simpa [findRs] using h)
      have hB2 := hB1.lower hbr (by omega)
      have hbw := HBB.out.trans (hbr.mono (show g ≤ g + 1 by omega))
      cases hnil : findRs ls p.data.toList 0 n.kids with
      | cons t0 tr =>
        rw [hnil] at HP2 HFE
        have hne : tk ≠ [] := fun e => by
          have := HP2.out
          rw [e] at this
          cases this
        obtain ⟨g9, c9, rfl, hg9, hg9l, hc1, hc2, hrow⟩ := hownk.out hne
        have hd : (((tk.length : Nat) : Int) == 0) = false := by
          rw [beq_eq_false_iff_ne]
          have : tk.length ≠ 0 := fun e => hne (List.eq_nil_of_length_eq_zero e)
          omega
        have HR := Lib.hid hrow
        have HBW := Lib.hid hbw
        have HG := Lib.hid hg9
        have HG2 := Lib.hid hg9l
        have HC1 := Lib.hid hc1
        have HC2 := Lib.hid hc2
        clear hnil hne hrow hownk hbr hB1 hB2 hbw hg9 hg9l hc1 hc2
        go_wp2_with fail
        go_ret
        exact ⟨g9, c9, tk, rfl, by have := HWG.out; have := HG.out; omega, HG2.out, by rw [HFE.out]; exact HP2.out, HO.out, HR.out, HC1.out, HC2.out, by rw [HWG.out]; exact HBW.out⟩
      | nil =>
        rw [hnil] at HP2 HFE
        obtain rfl : tk = [] := by
          have := congrArg List.length HP2.out
          rw [proj_len] at this
          exact List.eq_nil_of_length_eq_zero this
        have hB8 := hB2.set9 (.slice none 0 0)
        have hown8 := hownk.setF hB2 (by decide) 8 (.slice none 0 0)
        have hbs := hbw.setCell (p := ⟨g, 8, none⟩) (Nat.le_refl _) (.slice none 0 0)
        have hsz : g + 1 ≤ (wr.setCell ⟨g, 8, none⟩ (.slice none 0 0)).heap.size := by simpa [World.setCell] using hzr
        obtain ⟨a2, c2, rfl, _, hc2⟩ := hownk.slice
        have b8 := hB2.cells9.2.2.2.2.2.2.2.2
        have f8 := hB2.frozen 8
        have HBS := Lib.hid hbs
        unfold maxLen at hc2
        rw [List.length_nil] at *
        clear hnil hownk hbr hB1 hbw hbs HP HO HC
        go_upto_region 12 with fail
        clear hB2
        generalize wr.setCell ⟨g, 8, none⟩ (.slice none 0 0) = wz at *
        obtain ⟨z0, z1, z2, z3, z4, z5, z6, z7, z8⟩ := hB8.cells9
        clear b8 f8 hB8
        go_wp2_with (refine wpList_pushT wz (by rfl) (.tmp 42) (.tmp 46) 31 (by rfl) (g + 1) i0 tgZ Tryd.underlying31 hi hz0 hz1 hz2 rfl (.slice a2 0 c2) [] (p, RtAt.bare ⟨n, ma, mc, ba, bc, ua, uc, ka, kc⟩) (by rfl) hown8 [.string p, .string n.recv, .slice ma n.ms.length mc, .slice ba n.bys.length bc, .int .i64 n.wait, .int .i64 n.every, .int .i64 n.rep, .slice ua n.mute.length uc, .bool n.on, .slice none 0 0] (tgV_bare p n ma ba ua ka mc bc uc kc).symm (by rfl) (Nat.zero_le _) hsz ?_; intro v3 w3 hown3 hg3; obtain ⟨g9, c9, rfl, hg9, hg9l, hc1, hc3, hrow⟩ := hown3.out (by simp))
        have hb3 := HBS.out.grown hg3 (by omega) (fun k hk => by have := (World.ownsRow.lt hown8 k hk).1; omega)
        go_ret
        refine ⟨g9, c9, [(p, RtAt.bare ⟨n, ma, mc, ba, bc, ua, uc, ka, kc⟩)], rfl, by have := HWG.out; omega, hg9l, by rw [HFE.out]; rfl, fun t ht => ?_, hrow, hc1, hc3, by rw [HWG.out]; exact hb3⟩
        rw [List.mem_singleton] at ht
        subst ht
        exact HBO.out
    | succ gg =>
      have hkl : k < n.kids.length := by omega
      obtain ⟨kb, ko, rfl, r, hrn, hrx, hro, hra⟩ : ∃ b off, ka = some ⟨b, off, none⟩ ∧ ∃ r : RtAt, r.n = n.kids[k] ∧ r.lies w0 b (off + k * 9) ∧ r.ok w0 ∧ Fn9All w0 a c ls r := by
        rcases HK2.out with h | ⟨b, off, h1, _, h3⟩
        · rw [h] at hkl; simp at hkl
        · exact ⟨b, off, h1, h3 k hkl⟩
      have hbw := HWW.out.trans (hbr.mono hws)
      obtain ⟨e0, e1, e2, e3, e4, e5, e6, e7, e8⟩ := hrx.call hbw
      obtain ⟨hrr, hd1⟩ := HKR.out k hkl
      have hdrop := findRs_drop ls p.data.toList n.kids k hkl
      have hcd := countRs_drop n.kids k hkl
      rw [← hrn] at hrr hdrop hcd
      have hal := (rightRt_kid hrr).1
      have hms := alone_ms hal
      have hbn := (Below.refl wr.heap.size wr).alloc (Nat.le_refl _) (.cells (tCells r) 26)
      have hN := Blk.new wr 26 (tCells r)
      have hownn := hownk.call hbn
      have hbn0 := hbw.trans (hbn.mono hbw.size)
      have hM := holds9_any a r.ma c r.mc ls r.n.ms _ (HLS.out.call hbn0) ((hro.own.call hbn0).1)
      rw [holds9_is hrl hms] at hM
      have hxd := hdrop
      rw [show leadsTo ls r.n = (holdsL ls r.n.ms).1 from rfl] at hxd
      obtain ⟨S, hS⟩ : ∃ S : ByteArray, S = ⟨(Lib.decDigits k).toArray⟩ := ⟨_, rfl⟩
      have hIT := fun W => HIT.out k (by omega) W
      rw [← hS] at hIT
      have hSz : S.size ≤ 2 := by
        rw [hS]
        show (Lib.decDigits k).toArray.size ≤ 2
        rw [List.size_toArray]
        exact decDigits_len k (by omega)
      have hpath : (p ++ ⟨#[46]⟩ ++ S).data.toList = p.data.toList ++ 46 :: Lib.decDigits k := by
        rw [hS]; simp
      have hpsz : (p ++ ⟨#[46]⟩ ++ S).size + 8 * (d - 1) ≤ 1000 := by
        have h1 : (p ++ ⟨#[46]⟩ ++ S).size = p.size + 1 + S.size := by
          rw [ByteArray.size_append, ByteArray.size_append]; rfl
        have := HPD.out
        omega
      have hp1 : ¬ 9223372036854775807 < p.size + 1 := by have := HPD.out; omega
      have hp2 : ¬ 9223372036854775807 < p.size + 1 + S.size := by have := HPD.out; omega
      have hcnt2 : r.n.count ≤ 100000 ∧ tk.length + r.n.count ≤ 100000 := by have := HC.out; have := HCE.out; have := HCNT.out; omega
      have hfl := Rt.find_len ls (p.data.toList ++ 46 :: Lib.decDigits k) r.n
      have hRA := fun W (hW : Below w0.heap.size w0 W) => hra (d - 1) W (p ++ ⟨#[46]⟩ ++ S) hrr hpsz hcnt2.1 hW
      rw [hpath] at hRA
      obtain ⟨Bq, hBq⟩ : ∃ B, (holdsL ls r.n.ms).1 = B := ⟨_, rfl⟩
      rw [hBq] at hM hxd
      have HM := Lib.hid hM
      have HRA := Lib.hid hRA
      have HXD := Lib.hid hxd
      have HCD := Lib.hid hcd
      have HFL := Lib.hid hfl
      have HITK := Lib.hid hIT
      have HC2 := Lib.hid hcnt2.2
      have HBN := Lib.hid (hbr.trans (hbn.mono hzr))
      have HBW0 := Lib.hid hbn0
      have hzn : g + 1 ≤ (wr.alloc (.cells (tCells r) 26)).heap.size := Nat.le_trans hzr hbn.size
      have hgn : g + 1 ≤ wr.heap.size := hzr
      clear hM hRA hxd hdrop hcd hfl hal hms hro hrx hrr hra hrn hIT hpath hpsz hcnt2 hS hSz hBq hbn hd1 hbn0 hbw hownk hbr
      obtain ⟨m, ma', mc', ba', bc', ua', uc', ka', kc'⟩ := r
      simp only [tCells] at *
      generalize m.on = O at *
      generalize Lib.decDigits k = DK at *
      go_upto_region 5 with fail
      generalize wr.alloc (.cells #[.string m.recv, .slice ma' m.ms.length mc', .slice ba' m.bys.length bc', .int .i64 m.wait, .int .i64 m.every, .int .i64 m.rep, .slice ua' m.mute.length uc', .bool O, .slice ka' m.kids.length kc'] 26) = wn at *
      generalize wr.heap.size = gn at *
      clear e0 e1 e2 e3 e4 e5 e6 e7 e8
      obtain ⟨n0, n1, n2, n3, n4, n5, n6, n7, n8⟩ := hN.cells9
      cases Bq with
      | false =>
        rw [if_neg (by decide)] at HXD
        go_wp2_with (go_at_call 33; refine HM.out.mono ?_; rintro e w3 ⟨rfl, hb3⟩)
        go_roundg gg
        case measure => omega
        case rel => exact ⟨_, k + 1, tk, rfl, by omega, by go_num, hownn.call hb3, Lib.hid (by rw [← HXD.out]; exact HP.out), HO, Lib.hid (by have := HC.out; have := HCD.out; omega), HBN.out.trans (hb3.mono hzn), Nat.le_trans hzn hb3.size⟩
      | true =>
        rw [if_pos rfl] at HXD
        go_upto_region 6 with (go_at_call 33; refine HM.out.mono ?_; rintro e w3 ⟨rfl, hb3⟩)
        have hN3 := hN.call hb3
        have hown3 := hownn.call hb3
        have hz3 := Nat.le_trans hzn hb3.size
        have HB3 := Lib.hid (HBN.out.trans (hb3.mono hzn))
        have HW3 := Lib.hid (HBW0.out.trans (hb3.mono HBW0.out.size))
        have HKP := Lib.hid (fun W (hW : Below w3.heap.size w3 W) => (hN3.call hW).cells9)
        have HOW := Lib.hid hown3
        have HN3 := Lib.hid hN3
        have HZ3 := Lib.hid hz3
        clear n0 n1 n2 n3 n4 n5 n6 n7 n8 hN hownn hb3 hN3 hown3 hz3 hB1
        go_region_held3 (fun w' => w'.cell? ⟨gn, 0, none⟩ = some (.string m.recv) ∧ w'.cell? ⟨gn, 1, none⟩ = some (.slice ma' m.ms.length mc') ∧ w'.cell? ⟨gn, 2, none⟩ = some (.slice ba' m.bys.length bc') ∧ w'.cell? ⟨gn, 3, none⟩ = some (.int .i64 m.wait) ∧ w'.cell? ⟨gn, 4, none⟩ = some (.int .i64 m.every) ∧ w'.cell? ⟨gn, 5, none⟩ = some (.int .i64 m.rep) ∧ w'.cell? ⟨gn, 6, none⟩ = some (.slice ua' m.mute.length uc') ∧ w'.cell? ⟨gn, 7, none⟩ = some (.bool O) ∧ w'.cell? ⟨gn, 8, none⟩ = some (.slice ka' m.kids.length kc'))
          (first | exact HKP.out _ (Below.refl _ _).drew | exact HKP.out _ (bthen (Below.refl _ _).drew hb5) | exact ((HN3.out.call (bthen (Below.refl _ _).drew hb5)).grown hg6 ((HOW.out.call (bthen (Below.refl _ _).drew hb5)).ne (HN3.out.call (bthen (Below.refl _ _).drew hb5)) (by decide))).cells9)
          (first
          | (go_at_call 19; refine (HITK.out _).mono ?_; rintro e w4 ⟨rfl, rfl⟩)
          | (go_at_call 15; refine (HRA.out w3.drew (HW3.out.trans (Below.refl _ _).drew)).mono ?_; rintro e w5 ⟨g5, c5, t5, rfl, hg5, hg5l, hp5, ho5, hr5, hc51, hc52, hb5⟩; have HP5 := Lib.hid hp5; have HO5 := Lib.hid ho5; have HR5 := Lib.hid hr5; clear hp5 ho5 hr5)
          | (refine step_appT w5 (by rfl) (.tmp 23) (.tmp 31) 31 (by rfl) (g + 1) i0 tgZ Tryd.underlying31 hi hz0 hz1 hz2 rfl V tk (by rfl) (HOW.out.call (bthen (Below.refl _ _).drew hb5)) (.slice (some ⟨g5, 0, none⟩) t5.length c5) t5 (by rfl) (src_tgts Tryd.underlying31 HR5.out) (by have h := congrArg List.length HP5.out; rw [proj_len] at h; have := HFL.out; have := HC2.out; omega) (Nat.le_trans HZ3.out (bthen (Below.refl _ _).drew hb5).size) ?_; intro v6 w6 hown6 hg6))
        all_goals
          have hb5' := bthen (Below.refl _ _).drew hb5
          have hown5 := HOW.out.call hb5'
          have hz5 := Nat.le_trans HZ3.out hb5'.size
          have hB6 := (HB3.out.trans (hb5'.mono HZ3.out)).grown hg6 hz5 (fun k hk => (World.ownsRow.lt hown5 k hk).1)
          have hN5 := HN3.out.call hb5'
          have hN6 := hN5.grown hg6 (hown5.ne hN5 (by decide))
          have hz6 := Nat.le_trans hz5 hg6.size
          have n7 := hN6.cells9.2.2.2.2.2.2.2.1
          have hp6 : proj (tk ++ t5) = proj tk ++ m.find ls (p.data.toList ++ 46 :: DK) := by rw [proj_app, HP5.out]
          have hl6 : (tk ++ t5).length ≤ tk.length + m.count := by
            have h := congrArg List.length HP5.out
            rw [proj_len] at h
            rw [List.length_append]
            have := HFL.out
            omega
          have hne : tk ++ t5 ≠ [] := fun e => proj_ne HP5.out (List.append_eq_nil_iff.1 e).2
          have hok6 : ∀ t ∈ tk ++ t5, t.2.ok w0 := fun t ht => (List.mem_append.1 ht).elim (HO.out t) (HO5.out t)
          have HB6 := Lib.hid hB6
          have HP6 := Lib.hid hp6
          have HL6 := Lib.hid hl6
          have HOK6 := Lib.hid hok6
          have HNE := Lib.hid hne
          clear hb5' hown5 hz5 hB6 hN5 hN6 hp6 hl6 hne hok6 hb5 hg6
          cases O with
          | true =>
            rw [if_pos rfl] at HXD
            go_wp2_with fail
            go_roundg gg
            case measure => omega
            case rel => exact ⟨_, k + 1, tk ++ t5, rfl, by omega, by go_num, hown6, Lib.hid (by rw [HP6.out, List.append_assoc, ← HXD.out]; exact HP.out), HOK6, Lib.hid (by have := HC.out; have := HCD.out; have := HL6.out; omega), HB6.out, hz6⟩
          | false =>
            rw [if_neg (by decide), List.append_nil] at HXD
            obtain ⟨g9, c9, rfl, hg9, hg9l, hc1, hc3, hrow⟩ := hown6.out HNE.out
            have HR9 := Lib.hid hrow
            have HG9 := Lib.hid hg9
            have HGL := Lib.hid hg9l
            have HC1 := Lib.hid hc1
            have HC3 := Lib.hid hc3
            clear hrow hg9 hg9l hc1 hc3 hown6
            have hfin : proj (tk ++ t5) = n.find ls p.data.toList := by
              have h1 := HP.out
              rw [HXD.out, ← HP6.out] at h1
              rw [HFE.out, ← h1]
              cases hh : proj (tk ++ t5) with
              | nil =>
                have := congrArg List.length hh
                rw [proj_len] at this
                exact absurd (List.eq_nil_of_length_eq_zero this) HNE.out
              | cons t ts => rfl
            have HF := Lib.hid hfin
            clear hfin
            generalize tk ++ t5 = TT at *
            go_wp2_with fail
            go_ret
            exact ⟨g9, c9, TT, rfl, by have := HWG.out; have := HG9.out; omega, HGL.out, HF.out, HOK6.out, HR9.out, HC1.out, HC3.out, by rw [HWG.out]; exact HBB.out.trans (HB6.out.mono (by omega))⟩
theorem fn9_any {w0 : World} {a : Option Addr} {c : Nat} {ls : List Lab} (hls : HasLabs w0 a c ls) (hrl : rightC ls = true) {q : RtAt} (h : q.ok w0) : Fn9All w0 a c ls q := by
  induction h with
  | flat q h0 h1 => exact fn9_step hls hrl q h0.1 h0.2 (.inl h1)
  | row q b off R h0 h1 h2 h3 h4 h5 ih => exact fn9_step hls hrl q h0.1 h0.2 (.inr ⟨b, off, h1, h2, fun i hi => ⟨R i, h3 i hi, h4 i hi, h5 i hi, ih i hi⟩⟩)
end Go.Proofs.YtmhehojjlacfoaaDoor
