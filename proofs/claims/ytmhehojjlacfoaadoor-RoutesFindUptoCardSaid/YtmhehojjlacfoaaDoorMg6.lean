/- The contracts of the document's own May and Right of layer 9. -/
import Derived.Test.YtmhehojjlacfoaaDoorMg5
import Derived.Test.YtmhehojjlacfoaaDoorRteM
import Derived.Test.YtmhehojjlacfoaaDoorLib
import Derived.Test.YtmhehojjlacfoaaDoorMatD
namespace Go.Proofs.YtmhehojjlacfoaaDoor
open Go.RowKit

def May9 (w0 : World) (q : RtAt) : Prop := ∀ (d : Nat) (w : World), d ≤ 1000 → Below w0.heap.size w0 w → Calls Tryd.prog 22 #[.agg (tCells q), .int .i64 (d : Int)] w (BoolB (rightRt d q.n) w)
set_option maxHeartbeats 12800000 in
set_option maxRecDepth 100000 in
theorem may9_step {w0 : World} (q : RtAt) (hqo : q.own w0) (hkc : q.n.kids.length ≤ q.kc ∧ q.kc ≤ maxLen) (hpl : q.n.kids = [] ∨ ∃ b off, q.ka = some ⟨b, off, none⟩ ∧ b < w0.heap.size ∧ ∀ i (h : i < q.n.kids.length), ∃ r : RtAt, r.n = q.n.kids[i] ∧ r.lies w0 b (off + i * 9) ∧ r.ok w0 ∧ May9 w0 r) : May9 w0 q := by
  intro d w hd hw
  have hb := balR (o := .cells (tCells q) 26) (Below.refl w.heap.size w)
  have hB := Blk.new w 26 (tCells q)
  obtain ⟨R, hR⟩ : ∃ R, rightRt d q.n = R := ⟨_, rfl⟩
  rw [hR]
  have hone := fun W (hW : Below w.heap.size w W) => one9_any q W ((hqo.call hw).call hW)
  have HB := Lib.hid hb
  cases d with
  | zero =>
    obtain rfl : R = false := by rw [← hR]; rfl
    clear hone hR hpl hkc hqo hb hd
    obtain ⟨n, ma, mc, ba, bc, ua, uc, ka, kc⟩ := q
    simp only [tCells] at *
    obtain ⟨c0, c1, c2, c3, c4, c5, c6, c7, c8⟩ := hB.cells9
    have f1 : (((0 : Nat) : Int) == 0) = true := rfl
    go_enter Tryd.func22, Tryd.ntmps22
    go_wp2_with fail
    go_ret
    exact ⟨rfl, HB.out⟩
  | succ d =>
  have hRR : R = (aloneC q.n && q.n.kids.all (rightRt d)) := by rw [← hR]; rfl
  obtain ⟨I, hI, hgood, hend⟩ := all_endB (rightRt d) q.n.kids
  obtain ⟨A, hA⟩ : ∃ A, aloneC q.n = A := ⟨_, rfl⟩
  obtain ⟨K, hK⟩ : ∃ K, q.n.kids.all (rightRt d) = K := ⟨_, rfl⟩
  rw [hA, hK] at hRR
  rw [hK] at hend
  simp only [hA] at hone
  have HRR := Lib.hid hRR
  have HONE := Lib.hid hone
  have HGI := Lib.hid hgood
  have HEI := Lib.hid hend
  have HPL := Lib.hid hpl
  have HWW := Lib.hid hw
  have HD := Lib.hid hd
  obtain ⟨hk1, hk2⟩ := hkc
  unfold maxLen at hk2
  have f1 : (((d + 1 : Nat) : Int) == 0) = false := by rw [beq_eq_false_iff_ne]; omega
  clear hone hR hRR hgood hend hpl hw hb hd hA hK hqo
  obtain ⟨n, ma, mc, ba, bc, ua, uc, ka, kc⟩ := q
  simp only [tCells] at *
  go_enter Tryd.func22, Tryd.ntmps22
  go_upto_region 1 with fail
  obtain ⟨g, hg⟩ : ∃ g, w.heap.size = g := ⟨_, rfl⟩
  generalize w.alloc (.cells #[.string n.recv, .slice ma n.ms.length mc, .slice ba n.bys.length bc, .int .i64 n.wait, .int .i64 n.every, .int .i64 n.rep, .slice ua n.mute.length uc, .bool n.on, .slice ka n.kids.length kc] 26) = wx at *
  rw [hg] at hB ⊢
  clear hg
  have HAC := Lib.hid (fun W (hW : Below wx.heap.size wx W) => (hB.call hW).cells9)
  obtain ⟨c0, c1, c2, c3, c4, c5, c6, c7, c8⟩ := hB.cells9
  clear hB
  cases A with
  | false =>
    go_wp2_with (go_at_call 44; refine (HONE.out _ HB.out).mono ?_; rintro e w2 ⟨rfl, hb2⟩)
    go_ret
    exact ⟨by rw [HRR.out]; rfl, bthen HB.out hb2⟩
  | true =>
    go_upto_region 3 with (go_at_call 44; refine (HONE.out _ HB.out).mono ?_; rintro e w2 ⟨rfl, hb2⟩)
    clear c0 c1 c2 c3 c4 c5 c6 c7 c8 f1
    have c8 := (HAC.out _ hb2).2.2.2.2.2.2.2.2
    have hcd : ((d + 1 : Nat) : Int) - 1 = (d : Int) := by omega
    have hwr : IntKind.i64.wrap (((d + 1 : Nat) : Int) - 1) = (d : Int) := by rw [IntWalk.i64_in _ (by have := HD.out; omega)]; omega
    have hwd : IntKind.i64.wrap (d : Int) = (d : Int) := IntWalk.i64_in _ (by have := HD.out; omega)
    generalize ((d + 1 : Nat) : Int) = D1 at *
    go_wp2_with fail
    clear c8
    have HB2 := Lib.hid hb2
    clear hb2
    go_loopg [17, 6] n.kids.length (fun gg iv _ wr => ∃ k : Nat, k + gg = n.kids.length ∧ k ≤ I ∧ iv = .int .i64 (k : Int) ∧ Below wx.heap.size wx wr)
    case atStart => exact ⟨0, by omega, Nat.zero_le _, rfl, HB2.out⟩
    case round =>
      obtain ⟨k, hkg, hkI, rfl, hbr⟩ := hrel
      cases gk with
      | zero =>
        obtain rfl : k = n.kids.length := by omega
        obtain rfl : K = true := by
          rcases HEI.out with ⟨_, e⟩ | ⟨h1, _⟩
          · exact e
          · omega
        have HBR := Lib.hid hbr
        clear hbr
        go_wp2_with fail
        go_ret
        exact ⟨by rw [HRR.out]; rfl, bthen HB.out HBR.out⟩
      | succ gg =>
        have hkl : k < n.kids.length := by omega
        obtain ⟨b1, o1, rfl, r, hrn, hrl, _, hrM⟩ : ∃ b off, ka = some ⟨b, off, none⟩ ∧ ∃ r : RtAt, r.n = n.kids[k] ∧ r.lies w0 b (off + k * 9) ∧ r.ok w0 ∧ May9 w0 r := by
          rcases HPL.out with h | ⟨b, off, h1, _, h3⟩
          · rw [h] at hkl; simp at hkl
          · exact ⟨b, off, h1, h3 k hkl⟩
        have hbw := bthen HWW.out (bthen HB.out hbr)
        obtain ⟨e0, e1, e2, e3, e4, e5, e6, e7, e8⟩ := hrl.call hbw
        have hbn := balR (o := .cells (tCells r) 26) (Below.refl wr.heap.size wr)
        obtain ⟨f0, f1, f2, f3, f4, f5, f6, f7, f8⟩ := (Blk.new wr 26 (tCells r)).cells9
        have hM := hrM d (wr.alloc (.cells (tCells r) 26)) (by have := HD.out; omega) (bthen hbw hbn)
        have hrr : k = I → rightRt d r.n = false ∧ R = false := fun e => by
          rcases HEI.out with ⟨h1, _⟩ | ⟨_, h3, h4⟩
          · omega
          · subst e
            rw [hrn]
            exact ⟨h3, by rw [HRR.out, h4]; rfl⟩
        have hgg : k ≠ I → rightRt d r.n = true := fun e => by rw [hrn]; exact HGI.out k (by omega) hkl
        obtain ⟨X, hX⟩ : ∃ X, rightRt d r.n = X := ⟨_, rfl⟩
        rw [hX] at hM hrr hgg
        have HMM := Lib.hid hM
        have HB1 := Lib.hid (bthen hbr hbn)
        clear hX hM hbn hbw hbr hrn hrl hrM
        obtain ⟨r, ra, rc, rba, rbc, rua, ruc, qa, qc⟩ := r
        simp only [tCells] at *
        by_cases hkI2 : k = I
        · obtain ⟨rfl, rfl⟩ := hrr hkI2
          clear hrr hgg hkI2 hkI
          go_wp2_with (go_at_call 22; refine HMM.out.mono ?_; rintro e w3 ⟨rfl, hb3⟩)
          go_ret
          exact ⟨rfl, bthen HB.out (bthen HB1.out hb3)⟩
        · obtain rfl := hgg hkI2
          clear hrr hgg
          go_wp2_with (go_at_call 22; refine HMM.out.mono ?_; rintro e w3 ⟨rfl, hb3⟩)
          go_roundg gg
          case measure => omega
          case rel => exact ⟨k + 1, by omega, by omega, by go_num, bthen HB1.out hb3⟩
theorem may9_any {w0 : World} {q : RtAt} (h : q.ok w0) : May9 w0 q := by
  induction h with
  | flat q h0 h1 => exact may9_step q h0.1 h0.2 (.inl h1)
  | row q b off R h0 h1 h2 h3 h4 h5 ih => exact may9_step q h0.1 h0.2 (.inr ⟨b, off, h1, h2, fun i hi => ⟨R i, h3 i hi, h4 i hi, h5 i hi, ih i hi⟩⟩)
set_option maxHeartbeats 1600000 in
set_option maxRecDepth 100000 in
theorem right9_any (q : RtAt) (w : World) (h : q.ok w) : Calls Tryd.prog 9 #[.agg (tCells q)] w (BoolB (rteC q.n) w) := by
  have hb := balR (o := .cells (tCells q) 26) (Below.refl w.heap.size w)
  have hB := Blk.new w 26 (tCells q)
  have hM := may9_any h 4 (w.alloc (.cells (tCells q) 26)) (by omega) hb
  rw [show rightRt 4 q.n = rteC q.n from rfl, show ((4 : Nat) : Int) = 4 from rfl] at hM
  generalize rteC q.n = R at *
  have HM := Lib.hid hM
  have HB := Lib.hid hb
  clear hM hb h
  obtain ⟨n, ma, mc, ba, bc, ua, uc, ka, kc⟩ := q
  simp only [tCells] at *
  obtain ⟨c0, c1, c2, c3, c4, c5, c6, c7, c8⟩ := hB.cells9
  go_enter Tryd.func9, Tryd.ntmps9
  go_wp2_with (go_at_call 22; refine HM.out.mono ?_; rintro e w3 ⟨rfl, hb3⟩)
  go_ret
  exact ⟨rfl, bthen HB.out hb3⟩
end Go.Proofs.YtmhehojjlacfoaaDoor
/- Where labels lead: lemmas of the mathematics. -/
namespace Go.Proofs.YtmhehojjlacfoaaDoor

theorem Rt.find_eq (L : List Lab) (p : Bs) (n : Rt) : n.find L p = match findRs L p 0 n.kids with | [] => [(p, n.bare)] | t :: ts => t :: ts := by
  cases n; simp only [Rt.find, Rt.kids, Rt.bare]; rfl
mutual
theorem Rt.find_len (L : List Lab) (p : Bs) : ∀ (n : Rt), (n.find L p).length ≤ n.count
  | .mk r m b a e pp u o xs => by
    have h := findRs_len L p 0 xs
    simp only [Rt.find, Rt.count]
    split
    · simp
    · rename_i t ts e; rw [e] at h; omega
theorem findRs_len (L : List Lab) (p : Bs) (i : Nat) : ∀ (xs : List Rt), (findRs L p i xs).length ≤ countRs xs
  | [] => by simp [findRs, countRs]
  | x :: xs => by
    have h1 := Rt.find_len L (p ++ 46 :: Lib.decDigits i) x
    have h2 := findRs_len L p (i + 1) xs
    simp only [findRs, countRs]
    split
    · rw [List.length_append]
      split <;> simp <;> omega
    · omega
end
theorem findRs_drop (L : List Lab) (p : Bs) (xs : List Rt) (k : Nat) (h : k < xs.length) : findRs L p k (xs.drop k) =
    if leadsTo L xs[k] then xs[k].find L (p ++ 46 :: Lib.decDigits k) ++ (if xs[k].on then findRs L p (k + 1) (xs.drop (k + 1)) else []) else findRs L p (k + 1) (xs.drop (k + 1)) := by
  rw [List.drop_eq_getElem_cons h]; simp only [findRs]
theorem countRs_drop (xs : List Rt) (k : Nat) (h : k < xs.length) : countRs (xs.drop k) = xs[k].count + countRs (xs.drop (k + 1)) := by
  rw [List.drop_eq_getElem_cons h]; simp only [countRs]
theorem rightRt_kid {d : Nat} {n : Rt} (h : rightRt d n = true) : aloneC n = true ∧ ∀ k (hk : k < n.kids.length), rightRt (d - 1) n.kids[k] = true ∧ 1 ≤ d - 1 := by
  cases d with
  | zero => cases h
  | succ d =>
    simp only [rightRt, Bool.and_eq_true, List.all_eq_true] at h
    refine ⟨h.1, fun k hk => ?_⟩
    have h1 := h.2 _ (List.getElem_mem hk)
    refine ⟨h1, ?_⟩
    cases d with
    | zero => cases h1
    | succ d => show 1 ≤ d + 1; omega
theorem alone_ms {n : Rt} (h : aloneC n = true) : n.ms.all rightM = true := by
  simp only [aloneC, matchC, Bool.and_eq_true] at h
  exact h.2.1.2
theorem holdsL_right {L : List Lab} {ms : List Mat} (h1 : rightC L = true) (h2 : ms.all rightM = true) : (holdsL L ms).2 = 0 := by
  unfold holdsL
  rw [if_pos h1, if_pos h2]
theorem decDigits_len (i : Nat) (h : i < 100) : (Lib.decDigits i).length ≤ 2 := by
  rw [Lib.decDigits]
  split
  · simp
  · rw [List.length_append, Lib.decDigits, dif_pos (by omega)]
    simp
end Go.Proofs.YtmhehojjlacfoaaDoor
/- Targets: rows of them that a call makes, and what such a call leaves as it was. -/
namespace Go.Proofs.YtmhehojjlacfoaaDoor
open Go.RowKit

/-- a target: its path, and its route with the places of its lists -/
abbrev TgtAt := ByteArray × RtAt
def tgV (t : TgtAt) : List Value :=
  [.string t.1, .string t.2.n.recv, .slice t.2.ma t.2.n.ms.length t.2.mc, .slice t.2.ba t.2.n.bys.length t.2.bc, .int .i64 t.2.n.wait, .int .i64 t.2.n.every, .int .i64 t.2.n.rep, .slice t.2.ua t.2.n.mute.length t.2.uc, .bool t.2.n.on, .slice t.2.ka t.2.n.kids.length t.2.kc]
def tgsV (ts : List TgtAt) : List Value := ts.flatMap tgV
theorem tgsV_len : ∀ (ts : List TgtAt), (tgsV ts).length = ts.length * 10
  | [] => rfl
  | t :: ts => by
    have ih := tgsV_len ts
    have e : tgsV (t :: ts) = tgV t ++ tgsV ts := rfl
    rw [e, List.length_append, ih, List.length_cons]
    show 10 + _ = _
    omega
theorem tgsV_app (a b : List TgtAt) : tgsV (a ++ b) = tgsV a ++ tgsV b := by simp [tgsV]
theorem tgV_one (t : TgtAt) : ∀ u ∈ tgV t, u.oneCell' = true := by
  intro u hu
  simp only [tgV, List.mem_cons, List.not_mem_nil, or_false] at hu
  rcases hu with rfl | rfl | rfl | rfl | rfl | rfl | rfl | rfl | rfl | rfl <;> rfl
theorem tgsV_get : ∀ (ts : List TgtAt) (i : Nat) (h : i < ts.length) (j : Nat), j < 10 → (tgsV ts)[i * 10 + j]? = (tgV ts[i])[j]?
  | t :: ts, 0, _, j, hj => by
    have e : tgsV (t :: ts) = tgV t ++ tgsV ts := rfl
    rw [e, Nat.zero_mul, Nat.zero_add, List.getElem?_append_left (show j < (tgV t).length from hj)]
    rfl
  | t :: ts, i + 1, h, j, hj => by
    have e : tgsV (t :: ts) = tgV t ++ tgsV ts := rfl
    have ih := tgsV_get ts i (by simpa using h) j hj
    rw [e, List.getElem?_append_right (show (tgV t).length ≤ _ by show 10 ≤ _; omega), show (i + 1) * 10 + j - (tgV t).length = i * 10 + j by show _ - 10 = _; omega, ih]
    rfl

/-- v is the call's own slice of the targets ts -/
def OwnT (w : World) (base : Nat) (v : Value) (ts : List TgtAt) : Prop := w.ownsRow base 42 10 v ts.length (tgsV ts)
theorem OwnT.call {w w1 : World} {base : Nat} {v : Value} {l : List TgtAt} (h : OwnT w base v l) (hb : Below w.heap.size w w1) : OwnT w1 base v l :=
  World.ownsRow.kept h (row := none) ⟨hb.os, hb.tape, hb.output, hb.size, fun k hk _ => hb.block k hk⟩ (by cases v.ownBlock <;> simp)
theorem OwnT.alloc {w : World} {base : Nat} {v : Value} {l : List TgtAt} (h : OwnT w base v l) (o : Obj) : OwnT (w.alloc o) base v l := World.ownsRow.alloc h o
theorem OwnT.nil (w : World) (base : Nat) : OwnT w base (.slice none 0 0) [] := World.ownsRow_nil _ _ _ _
theorem OwnT.slice {w : World} {base : Nat} {v : Value} {l : List TgtAt} (h : OwnT w base v l) : ∃ a c, v = .slice a l.length c ∧ l.length ≤ c ∧ c ≤ maxLen := by
  rcases h.2 with ⟨rfl, h0⟩ | ⟨g, cap, cur, rfl, hb, hg, hn, hm, hcs, ht⟩
  · exact ⟨none, 0, by rw [h0], by omega, by unfold maxLen; omega⟩
  · exact ⟨_, cap, rfl, hn, hm⟩
/-- the row's own block is of that type -/
theorem OwnT.type {w : World} {base : Nat} {v : Value} {l : List TgtAt} (h : OwnT w base v l) {k : Nat} (hk : v.ownBlock = some k) : ∃ cs fr, w.heap[k]? = some (.cells cs 42 fr) := by
  rcases h.2 with ⟨rfl, h0⟩ | ⟨g, cap, cur, rfl, hb, hg, hn, hm, hcs, ht⟩
  · cases hk
  · obtain rfl : g = k := by simpa [Value.ownBlock] using hk
    exact ⟨_, _, hg⟩

/-- what calls that push targets leave as it was: all but the captured row's cell (block f), and, of what is younger than base, rows of targets -/
structure FrT (f base : Nat) (w w' : World) : Prop where
  os : w'.os = w.os
  tape : w'.tape = w.tape
  output : w'.output = w.output
  size : w.heap.size ≤ w'.heap.size
  old : ∀ k, k < base → k ≠ f → w'.heap[k]? = w.heap[k]?
  oth : ∀ k, k < w.heap.size → k ≠ f → (∀ cs fr, w.heap[k]? ≠ some (.cells cs 42 fr)) → w'.heap[k]? = w.heap[k]?
theorem FrT.refl (f base : Nat) (w : World) : FrT f base w w := ⟨rfl, rfl, rfl, Nat.le_refl _, fun _ _ _ => rfl, fun _ _ _ _ => rfl⟩
theorem FrT.trans {f base : Nat} {w w1 w2 : World} (h : FrT f base w w1) (k : FrT f base w1 w2) : FrT f base w w2 :=
  ⟨k.os.trans h.os, k.tape.trans h.tape, k.output.trans h.output, Nat.le_trans h.size k.size, fun i hi hn => (k.old i hi hn).trans (h.old i hi hn), fun i hi hn ht => by
    have e := h.oth i hi hn ht
    exact (k.oth i (Nat.lt_of_lt_of_le hi h.size) hn (fun cs fr => by rw [e]; exact ht cs fr)).trans e⟩
theorem FrT.of {f base : Nat} {w w' : World} (hb : Below w.heap.size w w') (hB : base ≤ w.heap.size) : FrT f base w w' :=
  ⟨hb.os, hb.tape, hb.output, hb.size, fun k hk _ => hb.block k (by omega), fun k hk _ _ => hb.block k hk⟩
theorem FrT.grown {f base : Nat} {w w' : World} {v : Value} {l : List TgtAt} (h : OwnT w base v l) (hg : w.grownBy w' v.ownBlock) (hB : base ≤ w.heap.size) : FrT f base w w' :=
  ⟨hg.os, hg.tape, hg.output, hg.size, fun k hk _ => hg.block k (by omega) (fun e => by have := (World.ownsRow.lt h k e.symm).1; omega), fun k hk _ ht => hg.block k hk (fun e => by
    obtain ⟨cs, fr, e2⟩ := h.type e.symm
    exact ht cs fr e2)⟩
theorem FrT.set {f base : Nat} {w w' : World} (h : FrT f base w w') (i : Nat) (u : Value) : FrT f base w (w'.setCell ⟨f, i, none⟩ u) :=
  ⟨h.os, h.tape, h.output, by simpa [World.setCell] using h.size, fun k hk hne => (Below.heap_setCell w' ⟨f, i, none⟩ u k hne).trans (h.old k hk hne), fun k hk hne ht => (Below.heap_setCell w' ⟨f, i, none⟩ u k hne).trans (h.oth k hk hne ht)⟩
theorem FrT.below {f base : Nat} {w w' : World} (h : FrT f base w w') (hf : base ≤ f) : Below base w w' := ⟨h.os, h.tape, h.output, h.size, fun k hk => h.old k hk (by omega)⟩
theorem FrT.blk {f base : Nat} {w w' : World} (h : FrT f base w w') {k : Nat} {t : TypeId} {cs : Array Value} (hk : Blk w k t cs) (hne : k ≠ f) (ht : t ≠ 42) : Blk w' k t cs :=
  (h.oth k hk.lt hne (fun cs' fr e => by rw [show w.heap[k]? = some (.cells cs t (0, 0)) from hk] at e; simp at e; exact ht e.2.1)).trans hk
/-- a store into the captured cell leaves the row -/
theorem OwnT.setF {w : World} {base f : Nat} {v : Value} {l : List TgtAt} {t : TypeId} {cs : Array Value} (h : OwnT w base v l) (hF : Blk w f t cs) (ht : t ≠ 42) (i : Nat) (u : Value) : OwnT (w.setCell ⟨f, i, none⟩ u) base v l := by
  refine World.ownsRow.kept h (row := some f) ⟨rfl, rfl, rfl, by simp [World.setCell], fun k _ hne => Below.heap_setCell w ⟨f, i, none⟩ u k (fun e => hne (by rw [e]))⟩ ?_
  refine .inr fun e => ?_
  obtain ⟨cs', fr, e2⟩ := h.type e
  rw [show w.heap[f]? = some (.cells cs t (0, 0)) from hF] at e2
  simp at e2
  exact ht e2.2.1
/-- a row's block is not one of another type -/
theorem OwnT.ne {w : World} {base f : Nat} {v : Value} {l : List TgtAt} {t : TypeId} {cs : Array Value} (h : OwnT w base v l) (hF : Blk w f t cs) (ht : t ≠ 42) : some f ≠ v.ownBlock := fun e => by
  obtain ⟨cs', fr, e2⟩ := h.type e.symm
  rw [show w.heap[f]? = some (.cells cs t (0, 0)) from hF] at e2
  simp at e2
  exact ht e2.2.1

abbrev tgZ : Value := .agg #[.string ⟨#[]⟩, .string ⟨#[]⟩, .slice none 0 0, .slice none 0 0, .int .i64 0, .int .i64 0, .int .i64 0, .slice none 0 0, .bool false, .slice none 0 0]
theorem Tryd.infoT : (Tryd.prog.info? 42).map (fun i => (i.zero, i.size, i.bytes)) = some (some tgZ, 10, 160) := by kernel_rfl
theorem info_partsT {x : Option TypeInfo} (h : x.map (fun i => (i.zero, i.size, i.bytes)) = some (some tgZ, 10, 160)) : ∃ i, x = some i ∧ i.zero = some tgZ ∧ i.size = 10 ∧ i.bytes = 160 := by
  cases x with
  | none => cases h
  | some i => simp at h; exact ⟨i, rfl, h.1, h.2.1, h.2.2⟩
theorem wpList_pushT {P : Program} (W : World) {ops : Array Oper} {rest : List Oper} {o : Oper} {a : Act} {Q : Exit → Act → World → Prop} (hgd : o.guard = none) (s x : Operand) (t : TypeId)
    (ho : o.op = .call { callee := .builtin .append, args := #[s, x], argTypes := #[t, t] })
    (base : Nat) (i : TypeInfo) (z : Value) (ht : P.underlying t = some (.slice 42)) (hi : P.info? 42 = some i) (hz : i.zero = some z) (hsize : i.size = 10) (hby : i.bytes = 160) (hzs : z.cells.size = 10)
    (v : Value) (ls : List TgtAt) (l : TgtAt) (hs : a.eval s = v) (hown : OwnT W base v ls) (us : List Value) (hus : us = tgV l)
    (hx : a.eval x = .slice (some ⟨W.heap.size, 0, none⟩) 1 1) (h63 : ls.length ≤ 1000000) (hbase : base ≤ W.heap.size)
    (h : ∀ (v' : Value) (w' : World), OwnT w' base v' (ls ++ [l]) → W.grownBy w' v.ownBlock → wpList P ops Q rest (a.put o.dst v') w') :
    wpList P ops Q (o :: rest) a (W.alloc (.cells us.toArray 42)) := by
  subst hus
  refine wpList_append_own (W.alloc (.cells (tgV l).toArray 42)) hgd s x t ho base 42 i z 10 160 ht hi hz hsize hby hzs (by omega) v ls.length (tgsV ls) hs (World.ownsRow.alloc hown _) ⟨W.heap.size, 0, none⟩ 1 1 (tgV l) hx (by rfl) ?_ ?_ (by unfold maxLen; omega) (by omega) (by simp; omega) ?_
  · intro j y hy
    have e0 : (⟨W.heap.size, 0, none⟩ : Addr).add j = ⟨W.heap.size, j, none⟩ := by unfold Addr.add; split <;> simp_all
    rw [e0]
    rw [show (W.alloc (.cells (tgV l).toArray 42)).cell? ⟨W.heap.size, j, none⟩ = _ from World.cell?_alloc_mark W (tgV l).toArray 42 (0, 0) j]
    simpa using hy
  · exact tgV_one l
  · intro v' w' hown' hg _
    refine h v' w' ?_ ⟨hg.os, hg.tape, hg.output, ?_, ?_⟩
    · unfold OwnT
      rw [tgsV_app, List.length_append, show tgsV [l] = tgV l by simp [tgsV]]
      exact hown'
    · have := hg.size; simp at this; omega
    · intro k hk hne
      rw [hg.block k (by simp; omega) hne]
      exact Below.heap_alloc W _ k hk
end Go.Proofs.YtmhehojjlacfoaaDoor
/- The contract of matcher.Holds: the walk. -/
namespace Go.Proofs.YtmhehojjlacfoaaDoor
open Go.RowKit Go.Maps

set_option maxHeartbeats 3200000 in
set_option maxRecDepth 100000 in
theorem holds_some (a : Option Addr) (c : Nat) (ls : List Lab) (b off c' : Nat) (ms : List Mat) (w : World) (hL : HasLabs w a c ls) (_hlc : ms.length ≤ c') (_hcm : c' ≤ maxLen) (hn : ms.length ≤ 1000) (hR : rightC ls = true)
    (hcell : ∀ i (h : i < ms.length), ∃ x y,
      (w.cell? ⟨b, off + i * 3, none⟩ = some (.string ms[i].name) ∧ w.cell? ⟨b, off + i * 3 + 1, none⟩ = some (.int .i64 ms[i].how) ∧ w.cell? ⟨b, off + i * 3 + 2, none⟩ = some (.slice x ms[i].words.length y)) ∧
        HasStrs w x y ms[i].words ∧ ms[i].name.size ≤ maxLen ∧ (Lit.int .i64 ms[i].how).wf = true) :
    Calls Tryd.prog 18 #[.slice a ls.length c, .slice (some ⟨b, off, none⟩) ms.length c'] w (HoldsPost ls ms w) := by
  obtain ⟨i0, hi, hz0, hz1, hz2⟩ := info_partsF Tryd.infoF
  have hlab := right_any a c ls w hL
  rw [hR] at hlab
  have HLab := Lib.hid hlab
  have HL := Lib.hid hL
  have HC := Lib.hid hcell
  have HRR := Lib.hid hR
  obtain ⟨J, hJ, hok, hend⟩ := all_end rightM ms
  have HOK := Lib.hid hok
  have HE := Lib.hid hend
  unfold maxLen at _hcm
  clear hlab hL hcell hok hend hR
  go_enter Tryd.func18, Tryd.ntmps18
  go_wp2_with (go_at_call 16; refine HLab.out.mono ?_; rintro e w0 ⟨rfl, hb0⟩)
  go_loopw [6, 16] (fun v i wr => ∃ (k : Nat) (vs : List Value), k ≤ J ∧ i = .int .i64 k ∧ OwnF wr w.heap.size v vs ∧ TestsAt w wr vs ms k ∧ Below w.heap.size w wr ∧ w.heap.size ≤ wr.heap.size) (fun _ i _ => ms.length - (intOf i).toNat)
  case atStart => exact ⟨0, [], Nat.zero_le _, rfl, World.ownsRow_nil _ _ _ _, ⟨rfl, fun j hj => absurd hj (by omega)⟩, hb0, hb0.size⟩
  case round =>
    obtain ⟨k, vs, hk, rfl, hown, hts, hb, hz⟩ := hrel
    by_cases hkl : k < ms.length
    · obtain ⟨x, y, ⟨g0, g1, g2⟩, g3, g4, g5⟩ := HC.out k hkl
      have c0 := cellLater hb g0
      have c1 := cellLater hb g1
      have c2 := cellLater hb g2
      have G3 := Lib.hid g3
      have HT := Lib.hid hts
      have HO := Lib.hid hown
      have hvl : vs.length = k := hts.1
      have HVL := Lib.hid hvl
      have hmat : ∀ W, Below w.heap.size w W → HasMat W (.agg #[.string ms[k].name, .int .i64 ms[k].how, .slice x ms[k].words.length y]) ms[k] := fun W hW => ⟨x, y, rfl, g3.call hW, g4, g5⟩
      have HRM := Lib.hid (fun W hW => mRight_any _ _ W (hmat W hW))
      have HTE := Lib.hid (fun W => test_any x y ms[k] W g5)
      have HRB : Hid (∀ (h : rightM ms[k] = false), ms.all rightM = false) := Lib.hid (fun h => by
        rw [← Bool.not_eq_true, List.all_eq_true]
        intro hall
        have := hall _ (List.getElem_mem hkl)
        rw [h] at this; cases this)
      have HJ : Hid (∀ (h : rightM ms[k] = true), k + 1 ≤ J) := Lib.hid (fun h => by
        rcases HE.out with ⟨he, _⟩ | ⟨hj, hq, _⟩
        · omega
        · by_cases e : k = J
          · subst e; rw [h] at hq; cases hq
          · omega)
      have HK : Hid (∃ M, ms[k] = M) := Lib.hid ⟨_, rfl⟩
      obtain ⟨M, hM⟩ := HK.out
      have HM := Lib.hid hM
      rw [hM] at c0 c1 c2 HRM HTE HRB HJ G3
      clear g0 g1 g2 g3 g4 g5 hts hown hvl hmat HK hM
      have hblk := Blk.new wr 54 (matCells x y M)
      have hbx : Below w.heap.size w (wr.alloc (.cells (matCells x y M) 54)) := hb.alloc hz _
      have hownx := HO.out.alloc (.cells (matCells x y M) 54)
      have htx := HT.out.call ((Below.refl _ _).alloc (Nat.le_refl _) (.cells (matCells x y M) 54))
      unfold matCells at hblk hbx hownx htx
      go_upto_region 7 with fail
      have HB := Lib.hid hblk
      have HBX := Lib.hid hbx
      have HOX := Lib.hid hownx
      have HTX := Lib.hid htx
      have hzx : wr.heap.size < (wr.alloc (.cells #[.string M.name, .int .i64 M.how, .slice x M.words.length y] 54)).heap.size := hblk.lt
      have HZX := Lib.hid hzx
      clear hblk hbx hownx htx HO HT c0 c1 c2 hzx
      generalize wr.alloc (.cells #[.string M.name, .int .i64 M.how, .slice x M.words.length y] 54) = wx at *
      obtain ⟨q0, q1, q2⟩ := HB.out.cells3
      cases hrm : rightM M with
      | false =>
        rw [hrm] at HRM
        have HA := Lib.hid (HRB.out hrm)
        clear hrm
        go_wp2_with (go_at_call 36; refine (HRM.out _ HBX.out).mono ?_; rintro e w2 ⟨rfl, hb2⟩)
        go_ret2
        exact ⟨by unfold holdsL; rw [if_pos HRR.out, if_neg (by rw [HA.out]; simp)]; rfl, bthen HBX.out hb2⟩
      | true =>
        rw [hrm] at HRM
        have HK1 := Lib.hid (HJ.out hrm)
        clear hrm
        go_wp2_with (first
          | (go_at_call 36; refine (HRM.out _ HBX.out).mono ?_; rintro e w2 ⟨rfl, hb2⟩; obtain ⟨p0, p1, p2⟩ := (HB.out.call hb2).cells3)
          | (go_at_call 37; refine (HTE.out _).mono ?_; rintro e w3 ⟨v3, rfl, ⟨f1, f2, rfl, ht1, ht2⟩, hb3⟩; have ht3 : TestAt w3 (.func (.func 56) #[] #[.pointer (some ⟨f1, 0, none⟩), .pointer (some ⟨f2, 0, none⟩)]) x y M := ⟨f1, f2, rfl, ht1, ht2⟩; have hown3 := (HOX.out.call hb2).call hb3; have hlast := bthen (bthen HBX.out hb2) hb3)
          | (at_builtin; refine wpList_push w3 rfl _ _ 64 rfl w.heap.size 39 i0 .nilFunc 8 Tryd.underlying64 hi hz0 hz1 hz2 rfl u6 vs.length vs rfl hown3 (.func (.func 56) #[] #[.pointer (some ⟨f1, 0, none⟩), .pointer (some ⟨f2, 0, none⟩)]) rfl rfl ?c1 ?c2 ?c3 ?_))
        case c1 => have := HVL.out; unfold maxLen; omega
        case c2 => have := HVL.out; omega
        case c3 => exact hlast.size
        intro g cc w4 hown4 hg4
        have hts4 := ((HTX.out.call hb2).call hb3).push hown3 hg4 x y hkl (by rw [HM.out]; exact ht3) (by rw [HM.out]; exact G3.out)
        have hb4 := hown3.grown hlast hlast.size hg4
        go_wp2_with fail
        go_roundw
        case rel => exact ⟨k + 1, _, HK1.out, by go_num, by unfold OwnF; rw [List.length_append]; exact hown4, hts4, hb4, hb4.size⟩
        case measure => simp [intOf]; omega
    · have hR : ms.all rightM = true := by
        rcases HE.out with ⟨_, hr⟩ | ⟨hj, _, _⟩
        · exact hr
        · omega
      have HRT := Lib.hid hR
      obtain rfl : k = ms.length := by omega
      have hvl : vs.length = ms.length := hts.1
      obtain ⟨J2, hJ2, hok2, hend2⟩ := all_end (fun m => holdsM (getL ls m.name) m) ms
      have HOK2 := Lib.hid hok2
      have HE2 := Lib.hid hend2
      have HT := Lib.hid hts
      have hrow : ∃ p q, u6 = .slice p ms.length q ∧ (ms = [] ∨ ∃ g, p = some ⟨g, 0, none⟩ ∧ ∀ j (h : j < vs.length), wr.cell? ⟨g, j, none⟩ = some vs[j]) := by
        rcases hown.2 with ⟨rfl, h0⟩ | ⟨g, cap, cur, rfl, r⟩
        · exact ⟨none, 0, by rw [← hvl, h0], .inl (List.eq_nil_of_length_eq_zero (by omega))⟩
        · refine ⟨_, cap, by rw [← hvl], .inr ⟨g, rfl, fun j hj => ?_⟩⟩
          have := hown.cellAt j (by omega)
          rw [this]
          simp [hj]
      obtain ⟨p, q, rfl, hpq⟩ := hrow
      have HP := Lib.hid hpq
      have HVL := Lib.hid hvl
      have HHL : Hid (holdsL ls ms = (ms.all (fun m => holdsM (getL ls m.name) m), 0)) := Lib.hid (by unfold holdsL; rw [if_pos HRR.out, if_pos HRT.out])
      clear hok2 hend2 hts hpq hown hvl hR
      go_wp2
      go_loopw [31] (fun i w5 => ∃ k : Nat, k ≤ J2 ∧ i = .int .i64 k ∧ Below wr.heap.size wr w5) (fun i _ => ms.length - (intOf i).toNat)
      case atStart => exact ⟨0, Nat.zero_le _, rfl, Below.refl _ _⟩
      case round =>
        obtain ⟨k, hk, rfl, hb5⟩ := hrel
        by_cases hkl : k < ms.length
        · rcases HP.out with rfl | ⟨g, rfl, hcells⟩
          · exact absurd hkl (by simp)
          have hkv : k < vs.length := by rw [HVL.out]; exact hkl
          have hc := cellLater hb5 (hcells k hkv)
          obtain ⟨x, y, ht, hs⟩ := (HT.out.call hb5).2 k hkl hkv hkl
          obtain ⟨f1, f2, hv, t1, t2⟩ := ht
          rw [hv] at hc
          have hB5 : Below w.heap.size w _ := bthen hb hb5
          have HT1 := Lib.hid (test1_any f1 f2 x a y c ms[k] _ ls _ t1 t2 (hs.call hB5) (HL.out.call hB5))
          have hm : (inB (getL ls ms[k].name) ms[k].words == onesC ms[k].how) = holdsM (getL ls ms[k].name) ms[k] := rfl
          rw [hm] at HT1
          by_cases hkJ : k = J2
          · have hbad : holdsM (getL ls ms[k].name) ms[k] = false ∧ ms.all (fun m => holdsM (getL ls m.name) m) = false := by
              rcases HE2.out with ⟨he, _⟩ | ⟨hj, hq, hr⟩
              · omega
              · subst hkJ; exact ⟨hq, hr⟩
            subst hkJ
            rw [hbad.1] at HT1
            have HA := Lib.hid hbad.2
            clear hbad hm t1 t2 hs hv hcells
            go_wp2_with (go_at_call 56; refine HT1.out.mono ?_; rintro e w6 ⟨rfl, hb6⟩)
            go_ret2
            exact ⟨by rw [HHL.out, HA.out]; rfl, bthen hB5 hb6⟩
          · have hgood := HOK2.out k (by omega) hkl
            rw [hgood] at HT1
            clear hgood hm t1 t2 hs hv hcells
            go_wp2_with (go_at_call 56; refine HT1.out.mono ?_; rintro e w6 ⟨rfl, hb6⟩)
            go_roundw
            case rel => exact ⟨k + 1, by omega, by go_num, bthen hb5 hb6⟩
            case measure => simp [intOf]; omega
        · have hA : ms.all (fun m => holdsM (getL ls m.name) m) = true := by
            rcases HE2.out with ⟨_, hr⟩ | ⟨hj, _, _⟩
            · exact hr
            · omega
          have HA := Lib.hid hA
          clear hA
          go_wp2
          go_ret2
          exact ⟨by rw [HHL.out, HA.out]; rfl, bthen hb hb5⟩

set_option maxHeartbeats 800000 in
theorem holds_any (a a' : Option Addr) (c c' : Nat) (ls : List Lab) (ms : List Mat) (w : World) (hL : HasLabs w a c ls) (hM : HasMats w a' c' ms) (hn : ms.length ≤ 1000) :
    Calls Tryd.prog 18 #[.slice a ls.length c, .slice a' ms.length c'] w (HoldsPost ls ms w) := by
  obtain ⟨h1, h2, h4⟩ := hM
  cases hR : rightC ls with
  | false =>
    have hlab := right_any a c ls w hL
    have HH : Hid (holdsL ls ms = (false, 1)) := Lib.hid (by unfold holdsL; rw [hR]; rfl)
    rw [hR] at hlab
    have HLab := Lib.hid hlab
    clear hlab hR hL h4
    go_enter Tryd.func18, Tryd.ntmps18
    go_wp2_with (go_at_call 16; refine HLab.out.mono ?_; rintro e w0 ⟨rfl, hb0⟩)
    go_ret2
    exact ⟨by rw [HH.out]; rfl, hb0⟩
  | true =>
    rcases h4 with rfl | ⟨b, off, rfl, hb, hc⟩
    · have hlab := right_any a c ls w hL
      have HH : Hid (holdsL ls [] = (true, 0)) := Lib.hid (by unfold holdsL; rw [hR]; rfl)
      rw [hR] at hlab
      have HLab := Lib.hid hlab
      clear hlab hR hL
      go_enter Tryd.func18, Tryd.ntmps18
      go_wp2_with (go_at_call 16; refine HLab.out.mono ?_; rintro e w0 ⟨rfl, hb0⟩)
      refine wp_loop_rounds 1 ?_
      rw [rounds_succ]
      go_wp2
      refine wp_loop_rounds 1 ?_
      rw [rounds_succ]
      go_wp2
      go_ret2
      exact ⟨by rw [HH.out]; rfl, hb0⟩
    · exact holds_some a c ls b off c' ms w hL h1 h2 hn hR hc
end Go.Proofs.YtmhehojjlacfoaaDoor
