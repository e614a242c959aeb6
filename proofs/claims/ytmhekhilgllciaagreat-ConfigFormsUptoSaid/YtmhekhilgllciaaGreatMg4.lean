/- Rows of structs of the call's own: what a sort makes of them. It speaks of no one program. -/
import Derived.Test.YtmhekhilgllciaaGreatMg2
import Derived.Shelf.SlSortCmp.NoneTotal
import Derived.Test.YtmhekhilgllciaaGreatInfo
import Derived.Test.YtmhekhilgllciaaGreatLib2
import Derived.BigQuiet
import Derived.Deep.QuietTactic
import Derived.ProofKit
import Derived.Test.YtmhekhilgllciaaGreatMg1
import Derived.Test.YtmhekhilgllciaaGreatMg3
import Derived.Test.YtmhekhilgllciaaGreatCfgD
import Derived.Shelf.SlSortCmp.QuietGrown
import Derived.Shelf.SlicesE.Clone
namespace Go.Proofs.YtmhekhilgllciaaGreat
open Go.RowKit Go.Sort Go.Lib Go.Shelf

section
variable {A : Type} [Inhabited A] {enc : A → List Value} {k : Nat}
def rowV (enc : A → List Value) (xs : List A) : List Value := xs.flatMap enc
omit [Inhabited A] in
theorem rowV_len (hk : ∀ x, (enc x).length = k) (xs : List A) : (rowV enc xs).length = xs.length * k := by
  induction xs with
  | nil => simp [rowV]
  | cons x xs ih =>
    have e : rowV enc (x :: xs) = enc x ++ rowV enc xs := rfl
    rw [e, List.length_append, ih, hk, List.length_cons, Nat.succ_mul]
    omega
omit [Inhabited A] in
theorem rowV_get (hk : ∀ x, (enc x).length = k) (xs : List A) (i : Nat) (h : i < xs.length) (j : Nat) (hj : j < k) : (rowV enc xs)[i * k + j]? = (enc xs[i])[j]? := by
  induction xs generalizing i with
  | nil => simp at h
  | cons x xs ih =>
    have e : rowV enc (x :: xs) = enc x ++ rowV enc xs := rfl
    cases i with
    | zero =>
      rw [e, Nat.zero_mul, Nat.zero_add, List.getElem?_append_left (by rw [hk]; exact hj)]
      rfl
    | succ i =>
      rw [e, List.getElem?_append_right (by rw [hk, Nat.succ_mul]; omega), hk, show (i + 1) * k + j - k = i * k + j by rw [Nat.succ_mul]; omega, ih i (by simpa using h)]
      rfl
omit [Inhabited A] in
theorem rowV_app (a b : List A) : rowV enc (a ++ b) = rowV enc a ++ rowV enc b := by simp [rowV]
theorem flat_row (hk : ∀ x, (enc x).length = k) (xs : List A) : flatK enc k xs.toArray = (rowV enc xs).toArray := by
  refine ext_get! (by simp [rowV_len hk]) fun t ht => ?_
  have ht' : t < xs.length * k := by simpa using ht
  rw [get_flatK _ _ _ t (by simpa using ht')]
  have k0 : 0 < k := by rcases Nat.eq_zero_or_pos k with h | h; · subst h; simp at ht'
                        · exact h
  have hi : t / k < xs.length := (Nat.div_lt_iff_lt_mul k0).2 ht'
  have hj := Nat.mod_lt t k0
  have g := rowV_get hk xs (t / k) hi (t % k) hj
  rw [Nat.div_add_mod' t k] at g
  have e0 : (xs.toArray[t / k]!) = xs[t / k] := by simp [hi]
  rw [e0]
  simp [Array.getElem!_eq_getD, Array.getD_eq_getD_getElem?, g]
/-- v is the call's own slice of the things xs -/
def OwnX (T : TypeId) (k : Nat) (enc : A → List Value) (w : World) (base : Nat) (v : Value) (xs : List A) : Prop := w.ownsRow base T k v xs.length (rowV enc xs)
omit [Inhabited A] in
theorem OwnX.call {T : TypeId} {w w1 : World} {base : Nat} {v : Value} {xs : List A} (h : OwnX T k enc w base v xs) (hb : Below w.heap.size w w1) : OwnX T k enc w1 base v xs :=
  World.ownsRow.kept h (row := none) ⟨hb.os, hb.tape, hb.output, hb.size, fun k hk _ => hb.block k hk⟩ (by cases v.ownBlock <;> simp)
omit [Inhabited A] in
theorem OwnX.nil (T : TypeId) (w : World) (base : Nat) : OwnX T k enc w base (.slice none 0 0) [] := World.ownsRow_nil _ _ _ _
omit [Inhabited A] in
theorem OwnX.base {T : TypeId} {w : World} {b0 base : Nat} {v : Value} {xs : List A} (h : OwnX T k enc w base v xs) (hb : b0 ≤ base) : OwnX T k enc w b0 v xs := by
  obtain ⟨ha, hr⟩ := h
  refine ⟨ha, hr.imp id ?_⟩
  rintro ⟨g, cap', cur, e1, e2, e3⟩
  exact ⟨g, cap', cur, e1, by omega, e3⟩
theorem OwnX.holds {T : TypeId} {w : World} {base g cap : Nat} {xs : List A} (hk : ∀ x, (enc x).length = k) (h : OwnX T k enc w base (.slice (some ⟨g, 0, none⟩) xs.length cap) xs) : HoldsK enc k w g 0 xs.toArray := by
  intro j hj
  rw [flat_row hk] at hj ⊢
  have hj' : j < (rowV enc xs).length := by simpa using hj
  rcases h.2 with ⟨hv, _⟩ | ⟨g1, c1, cur, hv, hb, hg, hn, hm, hcs, ht⟩
  · cases hv
  · simp only [Value.slice.injEq, Option.some.injEq, Addr.mk.injEq] at hv
    obtain ⟨⟨rfl, _, _⟩, _, rfl⟩ := hv
    refine ⟨?_, ?_⟩
    · rw [Nat.zero_add, World.ownsRow.cellAt h j (by rw [← rowV_len hk]; exact hj')]
      simp [hj']
    · simp [World.frozen?, hg]
theorem size_sortK (w : World) (b m : Nat) (d : Array A) (os : Array Obj) : w.heap.size ≤ (sortWorldK enc k w b 0 m d os).heap.size := by
  simp [sortWorldK, grow, putRowK, putRow, mapBlock, Sort.ahead]
theorem heap_sortK (w : World) (b m g : Nat) (d : Array A) (os : Array Obj) (hg : g < w.heap.size) (hne : g ≠ b) : (sortWorldK enc k w b 0 m d os).heap[g]? = w.heap[g]? := by
  unfold sortWorldK
  rw [heap_grow_old _ _ (by simpa [putRowK] using hg)]
  simp [putRowK, putRow, mapBlock, Sort.ahead, Array.getElem?_modify, Ne.symm hne]
theorem heap_sortK_own (w : World) (b m : Nat) (d : Array A) (os : Array Obj) {cur : Array Value} {t : TypeId} {fr : Nat × Nat} (hb : w.heap[b]? = some (.cells cur t fr)) : (sortWorldK enc k w b 0 m d os).heap[b]? = some (.cells (putCells id 0 (flatK enc k d) cur) t fr) := by
  have hlt := lt_of_block hb
  unfold sortWorldK
  rw [heap_grow_old _ _ (by simpa [putRowK] using hlt)]
  simp [putRowK, putRow, mapBlock, Sort.ahead, Array.getElem?_modify, hb, onCells]
theorem OwnX.sorted {T : TypeId} {w : World} {base g cap m : Nat} {xs ys : List A} {os : Array Obj} (hk : ∀ x, (enc x).length = k) (h : OwnX T k enc w base (.slice (some ⟨g, 0, none⟩) xs.length cap) xs) (hl : ys.length = xs.length) :
    OwnX T k enc (sortWorldK enc k w g 0 m ys.toArray os) base (.slice (some ⟨g, 0, none⟩) xs.length cap) ys := by
  rcases h.2 with ⟨hv, _⟩ | ⟨g1, c1, cur, hv, hb, hg, hn, hm, hcs, ht⟩
  · cases hv
  · simp only [Value.slice.injEq, Option.some.injEq, Addr.mk.injEq] at hv
    obtain ⟨⟨rfl, _, _⟩, _, rfl⟩ := hv
    unfold OwnX
    rw [hl]
    have hfl := rowV_len hk ys
    rw [hl] at hfl
    refine ⟨hfl, .inr ⟨g, cap, putCells id 0 (flatK enc k ys.toArray) cur, rfl, hb, heap_sortK_own w g m _ os hg, hn, hm, by simp [putCells, hcs], ?_⟩⟩
    have hcap : xs.length * k ≤ cap * k := Nat.mul_le_mul_right k hn
    apply List.ext_getElem?
    intro j
    rcases Nat.lt_or_ge j (xs.length * k) with hj | hj
    · have h2 : j < cur.size := by rw [hcs]; omega
      have h3 : j < (rowV enc ys).length := by rw [hfl]; exact hj
      rw [List.getElem?_take_of_lt hj]
      simp only [putCells, Array.getElem?_toList, Array.getElem?_mapIdx, Array.getElem?_eq_getElem h2, Option.map_some]
      rw [if_pos ⟨Nat.zero_le _, by rw [flat_row hk]; simpa using h3⟩, flat_row hk]
      simp [h3]
    · rw [List.getElem?_eq_none (by simp; omega), List.getElem?_eq_none (by rw [hfl]; omega)]
omit [Inhabited A] in
theorem OwnX.row {T : TypeId} {ok : World → A → Prop} {w : World} {base : Nat} {v : Value} {xs : List A} (hk : ∀ x, (enc x).length = k) (h : OwnX T k enc w base v xs) (hok : ∀ x ∈ xs, ok w x) : ∃ a c, v = .slice a xs.length c ∧ HasRow k enc ok w a c xs := by
  rcases h.2 with ⟨rfl, h0⟩ | ⟨g, cap, cur, rfl, hb, hg, hn, hm, hcs, ht⟩
  · obtain rfl : xs = [] := List.eq_nil_of_length_eq_zero h0
    exact ⟨none, 0, rfl, Nat.le_refl _, by unfold maxLen; omega, hok, .inl rfl⟩
  · refine ⟨_, cap, rfl, hn, hm, hok, .inr ⟨g, 0, rfl, lt_of_block hg, fun i hi j u hu => ?_⟩⟩
    have hj : j < k := by rw [← hk xs[i]]; exact (List.getElem?_eq_some_iff.1 hu).1
    have hlt : i * k + j < xs.length * k := by
      have := Nat.mul_le_mul_right k (show i + 1 ≤ xs.length from hi)
      rw [Nat.add_mul, Nat.one_mul] at this
      omega
    rw [Nat.zero_add, World.ownsRow.cellAt h (i * k + j) hlt, rowV_get hk xs i hi j hj, hu]
omit [Inhabited A] in
theorem HasRow.flat {_ok : World → A → Prop} {w : World} {_c : Nat} {xs : List A} {b off : Nat} (hk : ∀ x, (enc x).length = k) (k0 : 0 < k) (h : ∀ i (h : i < xs.length) j u, (enc xs[i])[j]? = some u → w.cell? ⟨b, off + i * k + j, none⟩ = some u) :
    ∀ j u, (rowV enc xs)[j]? = some u → w.cell? ⟨b, off + j, none⟩ = some u := by
  intro j u hu
  have hj : j < xs.length * k := by rw [← rowV_len hk]; exact (List.getElem?_eq_some_iff.1 hu).1
  have hi : j / k < xs.length := (Nat.div_lt_iff_lt_mul k0).2 hj
  have e := Nat.div_add_mod' j k
  have g := rowV_get hk xs (j / k) hi (j % k) (Nat.mod_lt _ k0)
  rw [e, hu] at g
  have := h (j / k) hi (j % k) u g.symm
  rwa [Nat.add_assoc, e] at this
end
end Go.Proofs.YtmhekhilgllciaaGreat
/- What is told of two rows of texts that are compared. -/
namespace Go.Proofs.YtmhekhilgllciaaGreat
open Go.RowKit

def SamePost (B : Bool) (w : World) (e : Ending) (w' : World) : Prop := e = .returned (.bool B) ∧ Below w.heap.size w w'
end Go.Proofs.YtmhekhilgllciaaGreat
/- The contract of the document's own Same of layer 1. -/
namespace Go.Proofs.YtmhekhilgllciaaGreat
open Go.RowKit
open Go.WideShapes (bytes_inj)

set_option maxHeartbeats 800000 in
set_option maxRecDepth 100000 in
theorem same_some (b off c b' off' c' : Nat) (ss ts : List ByteArray) (w : World) (hlc : ss.length ≤ c) (hcm : c ≤ maxLen) (hlc' : ts.length ≤ c') (_hcm' : c' ≤ maxLen) (hb : b < w.heap.size) (hb' : b' < w.heap.size)
    (hcell : ∀ i (h : i < ss.length), w.cell? ⟨b, off + i, none⟩ = some (.string ss[i])) (hcell' : ∀ i (h : i < ts.length), w.cell? ⟨b', off' + i, none⟩ = some (.string ts[i])) (hl : ss.length = ts.length) :
    Calls Tryz.prog 44 #[.slice (some ⟨b, off, none⟩) ss.length c, .slice (some ⟨b', off', none⟩) ts.length c'] w (SamePost (decide (ss = ts)) w) := by
  unfold maxLen at hcm
  have HC := Lib.hid hcell
  have HC' := Lib.hid hcell'
  have hlen : ((ss.length : Int) != (ts.length : Int)) = false := by rw [hl]; simp
  have hlb : ts.length ≤ ss.length := by omega
  have hlb' : ss.length ≤ ts.length := by omega
  have HL := Lib.hid hl
  clear hcell hcell' hl
  go_enter Tryz.func44, Tryz.ntmps44
  go_wp2
  go_loopw [13] (fun i wr => ∃ k : Nat, k ≤ ss.length ∧ i = .int .i64 k ∧ ss.take k = ts.take k ∧ Below w.heap.size w wr) (fun i _ => ss.length - (intOf i).toNat)
  case atStart => exact ⟨0, Nat.zero_le _, rfl, rfl, Below.refl _ _⟩
  case round =>
    obtain ⟨k, hk, rfl, he, hbl⟩ := hrel
    have HE := Lib.hid he
    clear he
    by_cases hkl : k < ss.length
    · have hc := (hbl.cell (p := ⟨b, off + k, none⟩) hb).trans (HC.out k hkl)
      have hc' := (hbl.cell (p := ⟨b', off' + k, none⟩) hb').trans (HC'.out k (by omega))
      by_cases hq : ss[k] = ts[k]'(by omega)
      · have hq2 : (ss[k].toList == (ts[k]'(by omega)).toList) = true := by rw [hq]; simp
        have htk : ss.take (k + 1) = ts.take (k + 1) := by
          rw [List.take_succ_eq_append_getElem hkl, List.take_succ_eq_append_getElem (by omega), HE.out, hq]
        have HT := Lib.hid htk
        clear htk hq
        go_wp2_with fail
        go_quiet (fail)
        go_wp2
        go_roundw
        case rel => exact ⟨k + 1, by omega, by go_num, HT.out, below_drewN hbl _⟩
        case measure => simp [intOf]; omega
      · have hq2 : (ss[k].toList == (ts[k]'(by omega)).toList) = false := by
          rw [beq_eq_false_iff_ne, ne_eq, ByteArray.toList_eq, ByteArray.toList_eq]
          intro e
          exact hq (bytes_inj e)
        have hf : decide (ss = ts) = false := by
          rw [decide_eq_false_iff_not]
          intro e
          subst e
          exact hq rfl
        have HF := Lib.hid hf
        clear hq hf
        go_wp2_with fail
        go_quiet (fail)
        go_wp2
        go_ret
        rw [HF.out]
        exact ⟨rfl, below_drewN hbl _⟩
    · have ht : decide (ss = ts) = true := by
        have := HE.out
        rw [List.take_of_length_le (by omega), List.take_of_length_le (by omega)] at this
        rw [decide_eq_true_iff]; exact this
      go_wp2
      go_ret
      rw [ht]
      exact ⟨rfl, hbl⟩

theorem same_any (a a' : Option Addr) (c c' : Nat) (ss ts : List ByteArray) (w : World) (h : HasStrs w a c ss) (h' : HasStrs w a' c' ts) :
    Calls Tryz.prog 44 #[.slice a ss.length c, .slice a' ts.length c'] w (SamePost (decide (ss = ts)) w) := by
  obtain ⟨h1, h2, h3, h4⟩ := h
  obtain ⟨g1, g2, g3, g4⟩ := h'
  unfold maxLen at h2 g2
  by_cases hl : ss.length = ts.length
  · rcases h4 with rfl | ⟨b, off, rfl, hb, hc⟩
    · obtain rfl : ts = [] := List.eq_nil_of_length_eq_zero hl.symm
      go_enter Tryz.func44, Tryz.ntmps44
      go_wp2
      refine wp_loop_rounds 1 ?_
      rw [rounds_succ]
      go_wp2
      go_ret
      exact ⟨rfl, Below.refl _ _⟩
    · rcases g4 with rfl | ⟨b', off', rfl, hb', hc'⟩
      · obtain rfl : ss = [] := List.eq_nil_of_length_eq_zero hl
        go_enter Tryz.func44, Tryz.ntmps44
        go_wp2
        refine wp_loop_rounds 1 ?_
        rw [rounds_succ]
        go_wp2
        go_ret
        exact ⟨rfl, Below.refl _ _⟩
      · exact same_some b off c b' off' c' ss ts w h1 (by unfold maxLen; omega) g1 (by unfold maxLen; omega) hb hb' hc hc' hl
  · have hlen : ((ss.length : Int) != (ts.length : Int)) = true := by rw [bne_iff_ne]; omega
    have hf : decide (ss = ts) = false := by
      rw [decide_eq_false_iff_not]
      intro e
      exact hl (by rw [e])
    rw [hf]
    clear hl hf h3 h4 g3 g4
    go_enter Tryz.func44, Tryz.ntmps44
    go_wp2
    go_ret
    exact ⟨rfl, Below.refl _ _⟩
end Go.Proofs.YtmhekhilgllciaaGreat
/- The contract of the document's own Like of layer 4. -/
namespace Go.Proofs.YtmhekhilgllciaaGreat
open Go.RowKit Go.Maps

theorem name_beq (a b : ByteArray) : (a.toList == b.toList) = decide (a = b) := toList_eq_iff a b

set_option maxHeartbeats 3200000 in
set_option maxRecDepth 100000 in
theorem rLike_any (v v' : Value) (m m' : Mat) (w : World) (h : HasMat w v m) (h' : HasMat w v' m') : Calls Tryz.prog 102 #[v, v'] w (BoolB (likeM m m') w) := by
  obtain ⟨a, c, rfl, hW, hs, hwf⟩ := h
  obtain ⟨a', c', rfl, hW', hs', hwf'⟩ := h'
  have HE := Lib.hid (fun W (hb : Below w.heap.size w W) => same_any a a' c c' m.words m'.words W (hW.call hb) (hW'.call hb))
  have hb1 := Blk.new w 97 #[.string m.name, .int .i64 m.how, .slice a m.words.length c]
  have hb2 := hb1.alloc (.cells #[.string m'.name, .int .i64 m'.how, .slice a' m'.words.length c'] 97)
  have hb3 := Blk.new (w.alloc (.cells #[.string m.name, .int .i64 m.how, .slice a m.words.length c] 97)) 97 #[.string m'.name, .int .i64 m'.how, .slice a' m'.words.length c']
  have hbl := ((Below.refl _ w).alloc (Nat.le_refl _) (.cells #[.string m.name, .int .i64 m.how, .slice a m.words.length c] 97)).alloc (by simp) (.cells #[.string m'.name, .int .i64 m'.how, .slice a' m'.words.length c'] 97)
  have e1 : (w.alloc (.cells #[.string m.name, .int .i64 m.how, .slice a m.words.length c] 97)).heap.size = w.heap.size + 1 := by simp
  rw [e1] at hb3
  obtain ⟨x0, x1, x2⟩ := hb2.cells3
  obtain ⟨y0, y1, y2⟩ := hb3.cells3
  have X0 := Lib.hid x0
  have X1 := Lib.hid x1
  have X2 := Lib.hid x2
  have Y0 := Lib.hid y0
  have Y1 := Lib.hid y1
  have Y2 := Lib.hid y2
  have HB := Lib.hid hbl
  have e : likeM m m' = (decide (m.name = m'.name) && (decide (m.how = m'.how) && decide (m.words = m'.words))) := by rw [likeM, Bool.and_assoc]
  rw [e]
  have hq := name_beq m.name m'.name
  obtain ⟨D, hD⟩ : ∃ D, decide (m.words = m'.words) = D := ⟨_, rfl⟩
  rw [hD]
  rw [hD] at HE
  clear hW hW' hs hs' hwf hwf' hb1 hb2 hb3 hbl e1 e x0 x1 x2 y0 y1 y2 hD
  have x0 := X0.out
  have x1 := X1.out
  have x2 := X2.out
  have y0 := Y0.out
  have y1 := Y1.out
  have y2 := Y2.out
  clear X0 X1 X2 Y0 Y1 Y2
  by_cases h1 : m.name = m'.name
  · rw [decide_eq_true h1] at hq
    rw [decide_eq_true h1, Bool.true_and]
    clear h1
    by_cases h2 : m.how = m'.how
    · have h3 : (m.how == m'.how) = true := beq_iff_eq.2 h2
      rw [decide_eq_true h2, Bool.true_and]
      clear h2
      go_enter Tryz.func102, Tryz.ntmps102
      go_wp2_with (go_at_call 44; refine (HE.out _ HB.out).mono ?_; rintro e w2 ⟨rfl, hb2⟩)
      go_ret
      exact ⟨rfl, bthen HB.out hb2⟩
    · have h3 : (m.how == m'.how) = false := beq_eq_false_iff_ne.2 h2
      rw [decide_eq_false h2, Bool.false_and]
      clear h2
      go_enter Tryz.func102, Tryz.ntmps102
      go_wp2_with (go_at_call 44; refine (HE.out _ HB.out).mono ?_; rintro e w2 ⟨rfl, hb2⟩)
      go_ret
      exact ⟨rfl, HB.out⟩
  · rw [decide_eq_false h1] at hq
    rw [decide_eq_false h1, Bool.false_and]
    clear h1
    go_enter Tryz.func102, Tryz.ntmps102
    go_wp2_with (go_at_call 44; refine (HE.out _ HB.out).mono ?_; rintro e w2 ⟨rfl, hb2⟩)
    go_ret
    exact ⟨rfl, HB.out⟩
end Go.Proofs.YtmhekhilgllciaaGreat
/- The contract of the library's Equal of rows of texts. -/
namespace Go.Proofs.YtmhekhilgllciaaGreat
open Go.RowKit
open Go.WideShapes (bytes_inj)

set_option maxHeartbeats 800000 in
set_option maxRecDepth 100000 in
theorem equal_some (b off c b' off' c' : Nat) (ss ts : List ByteArray) (w : World) (hlc : ss.length ≤ c) (hcm : c ≤ maxLen) (hlc' : ts.length ≤ c') (_hcm' : c' ≤ maxLen) (hb : b < w.heap.size) (hb' : b' < w.heap.size)
    (hcell : ∀ i (h : i < ss.length), w.cell? ⟨b, off + i, none⟩ = some (.string ss[i])) (hcell' : ∀ i (h : i < ts.length), w.cell? ⟨b', off' + i, none⟩ = some (.string ts[i])) (hl : ss.length = ts.length) :
    Calls Tryz.prog 52 #[.slice (some ⟨b, off, none⟩) ss.length c, .slice (some ⟨b', off', none⟩) ts.length c'] w (SamePost (decide (ss = ts)) w) := by
  unfold maxLen at hcm
  have HC := Lib.hid hcell
  have HC' := Lib.hid hcell'
  have hlen : ((ss.length : Int) != (ts.length : Int)) = false := by rw [hl]; simp
  have hlb : ts.length ≤ ss.length := by omega
  have hlb' : ss.length ≤ ts.length := by omega
  have HL := Lib.hid hl
  clear hcell hcell' hl
  go_enter Tryz.func52, Tryz.ntmps52
  go_wp2
  go_loopw [13] (fun i wr => ∃ k : Nat, k ≤ ss.length ∧ i = .int .i64 k ∧ ss.take k = ts.take k ∧ Below w.heap.size w wr) (fun i _ => ss.length - (intOf i).toNat)
  case atStart => exact ⟨0, Nat.zero_le _, rfl, rfl, Below.refl _ _⟩
  case round =>
    obtain ⟨k, hk, rfl, he, hbl⟩ := hrel
    have HE := Lib.hid he
    clear he
    by_cases hkl : k < ss.length
    · have hc := (hbl.cell (p := ⟨b, off + k, none⟩) hb).trans (HC.out k hkl)
      have hc' := (hbl.cell (p := ⟨b', off' + k, none⟩) hb').trans (HC'.out k (by omega))
      by_cases hq : ss[k] = ts[k]'(by omega)
      · have hq2 : (ss[k].toList == (ts[k]'(by omega)).toList) = true := by rw [hq]; simp
        have htk : ss.take (k + 1) = ts.take (k + 1) := by
          rw [List.take_succ_eq_append_getElem hkl, List.take_succ_eq_append_getElem (by omega), HE.out, hq]
        have HT := Lib.hid htk
        clear htk hq
        go_wp2_with fail
        go_quiet (fail)
        go_wp2
        go_roundw
        case rel => exact ⟨k + 1, by omega, by go_num, HT.out, below_drewN hbl _⟩
        case measure => simp [intOf]; omega
      · have hq2 : (ss[k].toList == (ts[k]'(by omega)).toList) = false := by
          rw [beq_eq_false_iff_ne, ne_eq, ByteArray.toList_eq, ByteArray.toList_eq]
          intro e
          exact hq (bytes_inj e)
        have hf : decide (ss = ts) = false := by
          rw [decide_eq_false_iff_not]
          intro e
          subst e
          exact hq rfl
        have HF := Lib.hid hf
        clear hq hf
        go_wp2_with fail
        go_quiet (fail)
        go_wp2
        go_ret
        rw [HF.out]
        exact ⟨rfl, below_drewN hbl _⟩
    · have ht : decide (ss = ts) = true := by
        have := HE.out
        rw [List.take_of_length_le (by omega), List.take_of_length_le (by omega)] at this
        rw [decide_eq_true_iff]; exact this
      go_wp2
      go_ret
      rw [ht]
      exact ⟨rfl, hbl⟩

theorem equal_any (a a' : Option Addr) (c c' : Nat) (ss ts : List ByteArray) (w : World) (h : HasStrs w a c ss) (h' : HasStrs w a' c' ts) :
    Calls Tryz.prog 52 #[.slice a ss.length c, .slice a' ts.length c'] w (SamePost (decide (ss = ts)) w) := by
  obtain ⟨h1, h2, h3, h4⟩ := h
  obtain ⟨g1, g2, g3, g4⟩ := h'
  unfold maxLen at h2 g2
  by_cases hl : ss.length = ts.length
  · rcases h4 with rfl | ⟨b, off, rfl, hb, hc⟩
    · obtain rfl : ts = [] := List.eq_nil_of_length_eq_zero hl.symm
      go_enter Tryz.func52, Tryz.ntmps52
      go_wp2
      refine wp_loop_rounds 1 ?_
      rw [rounds_succ]
      go_wp2
      go_ret
      exact ⟨rfl, Below.refl _ _⟩
    · rcases g4 with rfl | ⟨b', off', rfl, hb', hc'⟩
      · obtain rfl : ss = [] := List.eq_nil_of_length_eq_zero hl
        go_enter Tryz.func52, Tryz.ntmps52
        go_wp2
        refine wp_loop_rounds 1 ?_
        rw [rounds_succ]
        go_wp2
        go_ret
        exact ⟨rfl, Below.refl _ _⟩
      · exact equal_some b off c b' off' c' ss ts w h1 (by unfold maxLen; omega) g1 (by unfold maxLen; omega) hb hb' hc hc' hl
  · have hlen : ((ss.length : Int) != (ts.length : Int)) = true := by rw [bne_iff_ne]; omega
    have hf : decide (ss = ts) = false := by
      rw [decide_eq_false_iff_not]
      intro e
      exact hl (by rw [e])
    rw [hf]
    clear hl hf h3 h4 g3 g4
    go_enter Tryz.func52, Tryz.ntmps52
    go_wp2
    go_ret
    exact ⟨rfl, Below.refl _ _⟩
end Go.Proofs.YtmhekhilgllciaaGreat
/- The contracts of matcher.Like, and of the document's own Like, Word, Right, Holds of layer 4. -/
namespace Go.Proofs.YtmhekhilgllciaaGreat
open Go.RowKit Go.Maps

set_option maxHeartbeats 3200000 in
set_option maxRecDepth 100000 in
theorem like_any (v v' : Value) (m m' : Mat) (w : World) (h : HasMat w v m) (h' : HasMat w v' m') : Calls Tryz.prog 69 #[v, v'] w (BoolB (likeM m m') w) := by
  obtain ⟨a, c, rfl, hW, hs, hwf⟩ := h
  obtain ⟨a', c', rfl, hW', hs', hwf'⟩ := h'
  have HE := Lib.hid (fun W (hb : Below w.heap.size w W) => equal_any a a' c c' m.words m'.words W (hW.call hb) (hW'.call hb))
  have hb1 := Blk.new w 97 #[.string m.name, .int .i64 m.how, .slice a m.words.length c]
  have hb2 := hb1.alloc (.cells #[.string m'.name, .int .i64 m'.how, .slice a' m'.words.length c'] 97)
  have hb3 := Blk.new (w.alloc (.cells #[.string m.name, .int .i64 m.how, .slice a m.words.length c] 97)) 97 #[.string m'.name, .int .i64 m'.how, .slice a' m'.words.length c']
  have hbl := ((Below.refl _ w).alloc (Nat.le_refl _) (.cells #[.string m.name, .int .i64 m.how, .slice a m.words.length c] 97)).alloc (by simp) (.cells #[.string m'.name, .int .i64 m'.how, .slice a' m'.words.length c'] 97)
  have e1 : (w.alloc (.cells #[.string m.name, .int .i64 m.how, .slice a m.words.length c] 97)).heap.size = w.heap.size + 1 := by simp
  rw [e1] at hb3
  obtain ⟨x0, x1, x2⟩ := hb2.cells3
  obtain ⟨y0, y1, y2⟩ := hb3.cells3
  have X0 := Lib.hid x0
  have X1 := Lib.hid x1
  have X2 := Lib.hid x2
  have Y0 := Lib.hid y0
  have Y1 := Lib.hid y1
  have Y2 := Lib.hid y2
  have HB := Lib.hid hbl
  have e : likeM m m' = (decide (m.name = m'.name) && (decide (m.how = m'.how) && decide (m.words = m'.words))) := by rw [likeM, Bool.and_assoc]
  rw [e]
  have hq := name_beq m.name m'.name
  obtain ⟨D, hD⟩ : ∃ D, decide (m.words = m'.words) = D := ⟨_, rfl⟩
  rw [hD]
  rw [hD] at HE
  clear hW hW' hs hs' hwf hwf' hb1 hb2 hb3 hbl e1 e x0 x1 x2 y0 y1 y2 hD
  have x0 := X0.out
  have x1 := X1.out
  have x2 := X2.out
  have y0 := Y0.out
  have y1 := Y1.out
  have y2 := Y2.out
  clear X0 X1 X2 Y0 Y1 Y2
  by_cases h1 : m.name = m'.name
  · rw [decide_eq_true h1] at hq
    rw [decide_eq_true h1, Bool.true_and]
    clear h1
    by_cases h2 : m.how = m'.how
    · have h3 : (m.how == m'.how) = true := beq_iff_eq.2 h2
      rw [decide_eq_true h2, Bool.true_and]
      clear h2
      go_enter Tryz.func69, Tryz.ntmps69
      go_wp2_with (go_at_call 52; refine (HE.out _ HB.out).mono ?_; rintro e w2 ⟨rfl, hb2⟩)
      go_ret
      exact ⟨rfl, bthen HB.out hb2⟩
    · have h3 : (m.how == m'.how) = false := beq_eq_false_iff_ne.2 h2
      rw [decide_eq_false h2, Bool.false_and]
      clear h2
      go_enter Tryz.func69, Tryz.ntmps69
      go_wp2_with (go_at_call 52; refine (HE.out _ HB.out).mono ?_; rintro e w2 ⟨rfl, hb2⟩)
      go_ret
      exact ⟨rfl, HB.out⟩
  · rw [decide_eq_false h1] at hq
    rw [decide_eq_false h1, Bool.false_and]
    clear h1
    go_enter Tryz.func69, Tryz.ntmps69
    go_wp2_with (go_at_call 52; refine (HE.out _ HB.out).mono ?_; rintro e w2 ⟨rfl, hb2⟩)
    go_ret
    exact ⟨rfl, HB.out⟩

end Go.Proofs.YtmhekhilgllciaaGreat
/- routes.Like: rows compared place by place; the contract of slices.EqualFunc around matcher.Like. -/
namespace Go.Proofs.YtmhekhilgllciaaGreat
open Go.RowKit

noncomputable def eqB (p : Prop) : Bool := @decide p (Classical.propDecidable p)
theorem eqB_yes {p : Prop} (h : p) : eqB p = true := by unfold eqB; simp [h]
theorem eqB_no {p : Prop} (h : ¬ p) : eqB p = false := by unfold eqB; simp [h]
theorem rowsP {α : Type} : ∀ (xs ys : List α), xs.length = ys.length → ∃ J, J ≤ xs.length ∧ (∀ k (h : k < xs.length) (h' : k < ys.length), k < J → xs[k] = ys[k]) ∧ (J = xs.length ∧ xs = ys ∨ ∃ (h : J < xs.length) (h' : J < ys.length), xs[J] ≠ ys[J] ∧ xs ≠ ys)
  | [], [], _ => ⟨0, Nat.le_refl _, fun k h => by simp at h, .inl ⟨rfl, rfl⟩⟩
  | [], _ :: _, h => by simp at h
  | _ :: _, [], h => by simp at h
  | x :: xs, y :: ys, h => by
    by_cases e : x = y
    · obtain ⟨J, h1, h2, h3⟩ := rowsP xs ys (by simpa using h)
      refine ⟨J + 1, by simpa using h1, fun k hk hk' hJ => ?_, ?_⟩
      · cases k with
        | zero => exact e
        | succ k => exact h2 k (by simpa using hk) (by simpa using hk') (by omega)
      · rcases h3 with ⟨e1, e2⟩ | ⟨g1, g2, g3, g4⟩
        · exact .inl ⟨by simp [e1], by rw [e, e2]⟩
        · exact .inr ⟨by simpa using g1, by simpa using g2, g3, fun e' => g4 (by simpa [e] using e')⟩
    · exact ⟨0, Nat.zero_le _, fun k _ _ hk => by omega, .inr ⟨by simp, by simp, e, fun e' => e (by simpa using (List.cons.inj e').1)⟩⟩
theorem nbR (w : World) (o : Obj) (cs : Array Value) (t : TypeId) : Blk ((w.alloc o).alloc (.cells cs t)) (w.heap.size + 1) t cs := by
  have h := Blk.new (w.alloc o) t cs
  rwa [World.size_alloc] at h
theorem natNeR {a b : Nat} (h : a ≠ b) : ((a : Int) != (b : Int)) = true := by rw [bne_iff_ne]; omega
theorem natEqR {a b : Nat} (h : a = b) : ((a : Int) != (b : Int)) = false := by subst h; simp
theorem balR {w W : World} {o : Obj} (h : Below w.heap.size w W) : Below w.heap.size w (W.alloc o) := h.alloc h.size _
theorem likeM_eq (m m' : Mat) : likeM m m' = eqB (m = m') := by
  by_cases h : m = m'
  · subst h
    rw [eqB_yes rfl]
    simp [likeM]
  · rw [eqB_no h]
    cases e : likeM m m' with
    | false => rfl
    | true =>
      obtain ⟨a, b, c⟩ := m
      obtain ⟨a', b', c'⟩ := m'
      simp only [likeM, Bool.and_eq_true, decide_eq_true_eq] at e
      obtain ⟨⟨rfl, rfl⟩, rfl⟩ := e
      exact absurd rfl h
set_option maxHeartbeats 6400000 in
set_option maxRecDepth 100000 in
theorem eqMats_any (ma mb : Option Addr) (ca cb : Nat) (ms ns : List Mat) (w : World) (h : HasMats w ma ca ms) (h' : HasMats w mb cb ns) :
    Calls Tryz.prog 68 #[.slice ma ms.length ca, .slice mb ns.length cb, .func (.func 69) #[] #[]] w (BoolB (eqB (ms = ns)) w) := by
  obtain ⟨R, hR⟩ : ∃ R, eqB (ms = ns) = R := ⟨_, rfl⟩
  rw [hR]
  have HR := Lib.hid hR
  obtain ⟨hic1, hic2, hpl⟩ := h
  obtain ⟨hjc1, hjc2, hpp⟩ := h'
  have HPL := Lib.hid hpl
  have HPP := Lib.hid hpp
  unfold maxLen at hic2 hjc2
  clear hpl hpp hR
  go_enter Tryz.func68, Tryz.ntmps68
  by_cases hl : ms.length = ns.length
  case neg =>
    obtain rfl : R = false := by rw [← HR.out]; exact eqB_no (fun e => hl (by rw [e]))
    have f4 := natNeR hl
    clear hl
    go_wp2_with fail
    go_ret
    exact ⟨rfl, Below.refl _ _⟩
  have f4 := natEqR hl
  obtain ⟨I, hI, hgood, hend⟩ := rowsP ms ns hl
  have HGI := Lib.hid hgood
  have HEI := Lib.hid hend
  have HIL := Lib.hid hl
  clear hgood hend hl
  go_wp2_with fail
  go_loopg [17, 7, 8, 9] ms.length (fun gg iv _ _ _ wr => ∃ k : Nat, k + gg = ms.length ∧ k ≤ I ∧ iv = .int .i64 k ∧ Below w.heap.size w wr)
  case atStart => exact ⟨0, by omega, Nat.zero_le _, rfl, Below.refl _ _⟩
  case round =>
    clear f4
    obtain ⟨k, hkg, hkI, rfl, hbr⟩ := hrel
    cases gk with
    | zero =>
      obtain rfl : k = ms.length := by omega
      obtain rfl : R = true := by
        rcases HEI.out with ⟨_, e⟩ | ⟨h1, _, _, _⟩
        · rw [← HR.out]
          exact eqB_yes e
        · omega
      go_wp2_with fail
      go_ret
      exact ⟨rfl, hbr⟩
    | succ gg =>
      have hkl : k < ms.length := by omega
      have hkm : k < ns.length := by have := HIL.out; omega
      obtain ⟨b1, o1, rfl, x1, y1, ⟨g0, g1, g2⟩, gs, gn, gw⟩ : ∃ b off, ma = some ⟨b, off, none⟩ ∧ ∃ x y,
          (w.cell? ⟨b, off + k * 3, none⟩ = some (.string ms[k].name) ∧ w.cell? ⟨b, off + k * 3 + 1, none⟩ = some (.int .i64 ms[k].how) ∧ w.cell? ⟨b, off + k * 3 + 2, none⟩ = some (.slice x ms[k].words.length y)) ∧ HasStrs w x y ms[k].words ∧ ms[k].name.size ≤ maxLen ∧ (Lit.int .i64 ms[k].how).wf = true := by
        rcases HPL.out with h | ⟨b, off, h1, _, h3⟩
        · rw [h] at hkl; simp at hkl
        · exact ⟨b, off, h1, h3 k hkl⟩
      obtain ⟨b2, o2, rfl, x2, y2, ⟨k0, k1, k2⟩, ks, kn, kw⟩ : ∃ b off, mb = some ⟨b, off, none⟩ ∧ ∃ x y,
          (w.cell? ⟨b, off + k * 3, none⟩ = some (.string ns[k].name) ∧ w.cell? ⟨b, off + k * 3 + 1, none⟩ = some (.int .i64 ns[k].how) ∧ w.cell? ⟨b, off + k * 3 + 2, none⟩ = some (.slice x ns[k].words.length y)) ∧ HasStrs w x y ns[k].words ∧ ns[k].name.size ≤ maxLen ∧ (Lit.int .i64 ns[k].how).wf = true := by
        rcases HPP.out with h | ⟨b, off, h1, _, h3⟩
        · rw [h] at hkm; simp at hkm
        · exact ⟨b, off, h1, h3 k hkm⟩
      have e0 := cellL hbr g0
      have e1 := cellL hbr g1
      have e2 := cellL hbr g2
      generalize hmk : ms[k] = m at *
      generalize hnk : ns[k] = n at *
      have hb1 := balR (o := .cells #[.string m.name, .int .i64 m.how, .slice x1 m.words.length y1] 97) (Below.refl wr.heap.size wr)
      have f0 := cellL (bthen hbr hb1) k0
      have f1 := cellL (bthen hbr hb1) k1
      have f2 := cellL (bthen hbr hb1) k2
      have hb2 := balR (o := .cells #[.string n.name, .int .i64 n.how, .slice x2 n.words.length y2] 97) hb1
      have hA := (Blk.new wr 97 #[.string m.name, .int .i64 m.how, .slice x1 m.words.length y1]).alloc (.cells #[.string n.name, .int .i64 n.how, .slice x2 n.words.length y2] 97)
      have hB := nbR wr (.cells #[.string m.name, .int .i64 m.how, .slice x1 m.words.length y1] 97) #[.string n.name, .int .i64 n.how, .slice x2 n.words.length y2] 97
      have hM := like_any (.agg #[.string m.name, .int .i64 m.how, .slice x1 m.words.length y1]) (.agg #[.string n.name, .int .i64 n.how, .slice x2 n.words.length y2]) m n ((wr.alloc (.cells #[.string m.name, .int .i64 m.how, .slice x1 m.words.length y1] 97)).alloc (.cells #[.string n.name, .int .i64 n.how, .slice x2 n.words.length y2] 97))
        ⟨x1, y1, rfl, gs.call (bthen hbr hb2), gn, gw⟩ ⟨x2, y2, rfl, ks.call (bthen hbr hb2), kn, kw⟩
      rw [likeM_eq] at hM
      obtain ⟨X, hX⟩ : ∃ X, eqB (m = n) = X := ⟨_, rfl⟩
      rw [hX] at hM
      have HM := Lib.hid hM
      have HB2 := Lib.hid (bthen hbr hb2)
      have hrr : k = I → X = false ∧ R = false := fun e => by
        rcases HEI.out with ⟨h1, _⟩ | ⟨_, _, h3, h4⟩
        · omega
        · subst e
          rw [hmk, hnk] at h3
          exact ⟨by rw [← hX]; exact eqB_no h3, by rw [← HR.out]; exact eqB_no h4⟩
      have hgg : k ≠ I → X = true := fun e => by
        have := HGI.out k hkl hkm (by omega)
        rw [hmk, hnk] at this
        rw [← hX]; exact eqB_yes this
      obtain ⟨c0, c1, c2⟩ := hA.cells3
      obtain ⟨d0, d1, d2⟩ := hB.cells3
      clear hX hmk hnk hM hb1 hb2 hA hB hbr g0 g1 g2 k0 k1 k2 gs gn ks kn
      by_cases hkI2 : k = I
      · obtain ⟨rfl, rfl⟩ := hrr hkI2
        clear hrr hgg hkI2 hkI
        go_wp2_with (go_at_call 69; refine HM.out.mono ?_; rintro e w3 ⟨rfl, hb3⟩)
        go_ret
        exact ⟨rfl, bthen HB2.out hb3⟩
      · obtain rfl := hgg hkI2
        clear hrr hgg
        go_wp2_with (go_at_call 69; refine HM.out.mono ?_; rintro e w3 ⟨rfl, hb3⟩)
        go_roundg gg
        case measure => omega
        case rel => exact ⟨k + 1, by omega, by omega, by go_num, bthen HB2.out hb3⟩
end Go.Proofs.YtmhekhilgllciaaGreat
/- The contracts of config.sorted of rules and of hours. -/
namespace Go.Proofs.YtmhekhilgllciaaGreat
open Go.RowKit Go.Sort Go.Lib Go.Shelf

instance : Inhabited RuA := ⟨⟨⟨⟨#[]⟩, ⟨#[]⟩, 0, 0, 0, 0, 0, []⟩, none, 0⟩⟩
instance : Inhabited HrA := ⟨⟨⟨#[]⟩, 0, 0, 0⟩⟩
theorem RuA.enc_len (x : RuA) : x.enc.length = 8 := rfl
theorem HrA.enc_len (x : HrA) : x.enc.length = 4 := rfl
theorem RuA.enc_one (x : RuA) : ∀ v ∈ x.enc, v.oneCell' = true := by
  intro v hv
  simp only [RuA.enc, List.mem_cons, List.not_mem_nil, or_false] at hv
  rcases hv with rfl | rfl | rfl | rfl | rfl | rfl | rfl | rfl <;> rfl
theorem HrA.enc_one (x : HrA) : ∀ v ∈ x.enc, v.oneCell' = true := by
  intro v hv
  simp only [HrA.enc, List.mem_cons, List.not_mem_nil, or_false] at hv
  rcases hv with rfl | rfl | rfl | rfl <;> rfl
/-- a comparison by names -/
def cmpN {A : Type} (nm : A → ByteArray) (x y : A) : Int := Lib.compareBytes (nm x).data.toList (nm y).data.toList
theorem lt_cmpN {A : Type} (nm : A → ByteArray) (x y : A) : ltOf (cmpN nm) x y = lessB (nm x).data.toList (nm y).data.toList := by rw [lessB_cmp]; rfl
theorem swo_cmpN {A : Type} (nm : A → ByteArray) : SWO (ltOf (cmpN nm)) := by
  refine ⟨fun x => ?_, fun x y z h g => ?_, fun x y z h g => ?_⟩
  · rw [lt_cmpN]; exact lessB_irrefl _
  · rw [lt_cmpN] at *; exact lessB_trans _ _ _ h g
  · rw [lt_cmpN] at *
    have := leB_trans (nm z).data.toList (nm y).data.toList (nm x).data.toList (by simp [leB, g]) (by simp [leB, h])
    simpa [leB] using this
/-- things in the order of their names -/
def SortedN {A : Type} (nm : A → ByteArray) (xs ys : List A) : Prop := ys.Perm xs ∧ ys.Pairwise (fun a b => leB (nm a).data.toList (nm b).data.toList = true)
theorem sortedN_of {A : Type} [Inhabited A] (nm : A → ByteArray) (xs : List A) (d : Array A) (hp : PermIn 0 xs.toArray.size xs.toArray d) (hs : SortedIn (ltOf (cmpN nm)) 0 xs.toArray.size d) : d.toList.length = xs.length ∧ SortedN nm xs d.toList := by
  obtain ⟨hsz, _, hperm⟩ := hp
  have hd : d.size = xs.length := by simpa using hsz
  refine ⟨by simpa using hd, ?_, ?_⟩
  · have e1 : (d.extract 0 xs.toArray.size).toList = d.toList := by rw [← hsz]; simp
    have e2 : (xs.toArray.extract 0 xs.toArray.size).toList = xs := by simp
    rwa [e1, e2] at hperm
  · refine List.pairwise_iff_getElem.2 fun i j hi hj hij => ?_
    have hi' : i < d.size := by simpa using hi
    have hj' : j < d.size := by simpa using hj
    have h1 := hs i j (Nat.zero_le _) hij (by rw [← hsz]; exact hj')
    rw [lt_cmpN, getElem!_pos d j hj', getElem!_pos d i hi'] at h1
    simp only [leB, Bool.not_eq_true']
    simpa using h1

theorem Tryz.infoRu : (Tryz.prog.info? 45).map (fun i => (i.zero, i.size, i.bytes)) = some (some (.agg #[.string ⟨#[]⟩, .string ⟨#[]⟩, .int .i64 0, .int .i64 0, .int .i64 0, .int .i64 0, .int .i64 0, .slice none 0 0]), 8, 96) := by kernel_rfl
theorem info_partsRu {x : Option TypeInfo} (h : x.map (fun i => (i.zero, i.size, i.bytes)) = some (some (.agg #[.string ⟨#[]⟩, .string ⟨#[]⟩, .int .i64 0, .int .i64 0, .int .i64 0, .int .i64 0, .int .i64 0, .slice none 0 0]), 8, 96)) : ∃ i, x = some i ∧ i.zero = some (.agg #[.string ⟨#[]⟩, .string ⟨#[]⟩, .int .i64 0, .int .i64 0, .int .i64 0, .int .i64 0, .int .i64 0, .slice none 0 0]) ∧ i.size = 8 ∧ i.bytes = 96 := by
  cases x with
  | none => cases h
  | some i => simp at h; exact ⟨i, rfl, h.1, h.2.1, h.2.2⟩
set_option maxHeartbeats 3200000 in
set_option maxRecDepth 100000 in
theorem cmpR_any (x y : RuA) (g : Nat) (w : World) (hg : Blk w g 46 #[.func (.func 16) #[] #[]]) :
    Calls Tryz.prog 57 #[.agg #[.string x.r.name, .string x.r.metric, .int .i64 x.r.how, .int .i64 x.r.limit, .int .i64 x.r.fr, .int .i64 x.r.keep, .int .i64 x.r.tries, .slice x.a x.r.labels.length x.c], .agg #[.string y.r.name, .string y.r.metric, .int .i64 y.r.how, .int .i64 y.r.limit, .int .i64 y.r.fr, .int .i64 y.r.keep, .int .i64 y.r.tries, .slice y.a y.r.labels.length y.c], .pointer (some ⟨g, 0, none⟩)] w fun e w' => e = .returned (.int .i64 (cmpN RuA.name x y)) ∧ ∃ q os', w' = grow (w.drewN q) os' := by
  have mixed : Tryz.prog.follows .mixedOrders = true := by kernel_rfl
  obtain ⟨W, hW⟩ : ∃ W, (w.alloc (.cells #[.string x.r.name, .string x.r.metric, .int .i64 x.r.how, .int .i64 x.r.limit, .int .i64 x.r.fr, .int .i64 x.r.keep, .int .i64 x.r.tries, .slice x.a x.r.labels.length x.c] 45)).alloc (.cells #[.string y.r.name, .string y.r.metric, .int .i64 y.r.how, .int .i64 y.r.limit, .int .i64 y.r.fr, .int .i64 y.r.keep, .int .i64 y.r.tries, .slice y.a y.r.labels.length y.c] 45) = W := ⟨_, rfl⟩
  have hX := (Blk.new w 45 #[.string x.r.name, .string x.r.metric, .int .i64 x.r.how, .int .i64 x.r.limit, .int .i64 x.r.fr, .int .i64 x.r.keep, .int .i64 x.r.tries, .slice x.a x.r.labels.length x.c]).alloc (.cells #[.string y.r.name, .string y.r.metric, .int .i64 y.r.how, .int .i64 y.r.limit, .int .i64 y.r.fr, .int .i64 y.r.keep, .int .i64 y.r.tries, .slice y.a y.r.labels.length y.c] 45)
  have hY := nbR w (.cells #[.string x.r.name, .string x.r.metric, .int .i64 x.r.how, .int .i64 x.r.limit, .int .i64 x.r.fr, .int .i64 x.r.keep, .int .i64 x.r.tries, .slice x.a x.r.labels.length x.c] 45) #[.string y.r.name, .string y.r.metric, .int .i64 y.r.how, .int .i64 y.r.limit, .int .i64 y.r.fr, .int .i64 y.r.keep, .int .i64 y.r.tries, .slice y.a y.r.labels.length y.c] 45
  have hG := (hg.alloc (.cells #[.string x.r.name, .string x.r.metric, .int .i64 x.r.how, .int .i64 x.r.limit, .int .i64 x.r.fr, .int .i64 x.r.keep, .int .i64 x.r.tries, .slice x.a x.r.labels.length x.c] 45)).alloc (.cells #[.string y.r.name, .string y.r.metric, .int .i64 y.r.how, .int .i64 y.r.limit, .int .i64 y.r.fr, .int .i64 y.r.keep, .int .i64 y.r.tries, .slice y.a y.r.labels.length y.c] 45)
  rw [hW] at hX hY hG
  have hWg : ∀ n os, ∃ q os', grow (W.drewN n) os = grow (w.drewN q) os' := fun n os => by
    refine ⟨n, #[.cells #[.string x.r.name, .string x.r.metric, .int .i64 x.r.how, .int .i64 x.r.limit, .int .i64 x.r.fr, .int .i64 x.r.keep, .int .i64 x.r.tries, .slice x.a x.r.labels.length x.c] 45, .cells #[.string y.r.name, .string y.r.metric, .int .i64 y.r.how, .int .i64 y.r.limit, .int .i64 y.r.fr, .int .i64 y.r.keep, .int .i64 y.r.tries, .slice y.a y.r.labels.length y.c] 45] ++ os, ?_⟩
    rw [← hW, alloc_eq_grow, alloc_eq_grow]
    show grow (grow (grow (w.drewN n) _) _) os = _
    rw [grow_grow, grow_grow, ← Array.append_assoc]
    rfl
  have hxl := hX.lt
  have hyl := hY.lt
  have g0 := fun n os => cell_grown (w := W) hG.lt (hG.cell 0) n os
  have a0 := fun n os => cell_grown (w := W) hxl (hX.cell 0) n os
  have a1 := fun n os => cell_grown (w := W) hxl (hX.cell 1) n os
  have a2 := fun n os => cell_grown (w := W) hxl (hX.cell 2) n os
  have a3 := fun n os => cell_grown (w := W) hxl (hX.cell 3) n os
  have a4 := fun n os => cell_grown (w := W) hxl (hX.cell 4) n os
  have a5 := fun n os => cell_grown (w := W) hxl (hX.cell 5) n os
  have a6 := fun n os => cell_grown (w := W) hxl (hX.cell 6) n os
  have a7 := fun n os => cell_grown (w := W) hxl (hX.cell 7) n os
  have b0 := fun n os => cell_grown (w := W) hyl (hY.cell 0) n os
  have b1 := fun n os => cell_grown (w := W) hyl (hY.cell 1) n os
  have b2 := fun n os => cell_grown (w := W) hyl (hY.cell 2) n os
  have b3 := fun n os => cell_grown (w := W) hyl (hY.cell 3) n os
  have b4 := fun n os => cell_grown (w := W) hyl (hY.cell 4) n os
  have b5 := fun n os => cell_grown (w := W) hyl (hY.cell 5) n os
  have b6 := fun n os => cell_grown (w := W) hyl (hY.cell 6) n os
  have b7 := fun n os => cell_grown (w := W) hyl (hY.cell 7) n os
  have hc := fun a b V => Tryz.strings_Compare a b V
  have hn := fun (z : RuA) V => ruleName_any z V
  obtain ⟨K, hK⟩ : ∃ K, cmpN RuA.name x y = K := ⟨_, rfl⟩
  rw [hK]
  have hcc : ∀ n os, Calls Tryz.prog 58 #[.string x.r.name, .string y.r.name] (grow (W.drewN n) os) (fun e w' => e = .returned (.int .i64 K) ∧ ∃ q os', w' = grow ((grow (W.drewN n) os).drewN q) os') := fun n os => (hc _ _ _).mono fun e w' ⟨he, hw⟩ => ⟨by rw [he, ← hK]; rfl, 0, #[], by rw [hw, grow_empty]; rfl⟩
  have hnx : ∀ n os, Calls Tryz.prog 16 #[.agg #[.string x.r.name, .string x.r.metric, .int .i64 x.r.how, .int .i64 x.r.limit, .int .i64 x.r.fr, .int .i64 x.r.keep, .int .i64 x.r.tries, .slice x.a x.r.labels.length x.c]] (grow (W.drewN n) os) (fun e w' => e = .returned (.string x.r.name) ∧ ∃ q os', w' = grow ((grow (W.drewN n) os).drewN q) os') := fun n os => (hn x _).mono fun e w' ⟨he, os', hw⟩ => ⟨he, 0, os', by rw [hw]; rfl⟩
  have hny : ∀ n os, Calls Tryz.prog 16 #[.agg #[.string y.r.name, .string y.r.metric, .int .i64 y.r.how, .int .i64 y.r.limit, .int .i64 y.r.fr, .int .i64 y.r.keep, .int .i64 y.r.tries, .slice y.a y.r.labels.length y.c]] (grow (W.drewN n) os) (fun e w' => e = .returned (.string y.r.name) ∧ ∃ q os', w' = grow ((grow (W.drewN n) os).drewN q) os') := fun n os => (hn y _).mono fun e w' ⟨he, os', hw⟩ => ⟨he, 0, os', by rw [hw]; rfl⟩
  have HCC := Lib.hid hcc
  have HNX := Lib.hid hnx
  have HNY := Lib.hid hny
  have HWG := Lib.hid hWg
  clear hc hn hK hcc hnx hny hWg hg hX hY hG
  go_enter Tryz.func57, Tryz.ntmps57
  go_upto_region 1 with fail
  try rw [hW]
  clear hW
  go_quiet_grown (first
    | (go_at_call 16; first | (with_reducible exact Calls.grown_of (HNX.out _ _)) | (with_reducible exact Calls.grown_of (HNY.out _ _)))
    | (go_at_call 58; exact Calls.grown_of (HCC.out _ _)))
  obtain ⟨q1, os1, hq1⟩ := HWG.out nq osq
  go_wp2_with fail
  go_ret
  exact ⟨rfl, q1, os1, hq1⟩
theorem cmpR_lays (b size g : Nat) (w : World) (hg : Blk w g 46 #[.func (.func 16) #[] #[]]) (hne : g ≠ b) :
    CmpLays Tryz.prog 57 #[.pointer (some ⟨g, 0, none⟩)] RuA.enc 8 (cmpN RuA.name) b 0 size w := by
  intro m os dk _ x y
  exact cmpR_any x y g (sortWorldK RuA.enc 8 w b 0 m dk os) ((heap_sortK w b m g dk os hg.lt hne).trans hg)
set_option maxHeartbeats 1600000 in
theorem sort1R_any (base g cap f : Nat) (xs : List RuA) (w : World) (h : OwnX 45 8 RuA.enc w base (.slice (some ⟨g, 0, none⟩) xs.length cap) xs) (h8 : xs.length ≤ 1000000) (hf : Blk w f 46 #[.func (.func 16) #[] #[]]) :
    Calls Tryz.prog 56 #[.slice (some ⟨g, 0, none⟩) xs.length cap, .func (.func 57) #[] #[.pointer (some ⟨f, 0, none⟩)]] w
      (fun e w' => e = .returned (.tuple #[]) ∧ ∃ ys, ys.length = xs.length ∧ SortedN RuA.name xs ys ∧ OwnX 45 8 RuA.enc w' base (.slice (some ⟨g, 0, none⟩) xs.length cap) ys ∧ Below base w w') := by
  have eg : ∀ args w, (callFunc 57 args).run Tryz.prog w = .ok (.enter 57 args) w := enters_of Tryz.func57 (by kernel_rfl) rfl
  have hH := h.holds RuA.enc_len
  obtain ⟨hg, hbg⟩ : g < w.heap.size ∧ base ≤ g := by
    have := World.ownsRow.lt h g rfl
    exact ⟨this.2, this.1⟩
  have hne : f ≠ g := fun e => by
    rcases h.2 with ⟨hv, _⟩ | ⟨g1, c1, cur, hv, _, hgg, _⟩
    · cases hv
    · simp only [Value.slice.injEq, Option.some.injEq, Addr.mk.injEq] at hv
      obtain ⟨⟨rfl, _, _⟩, _, rfl⟩ := hv
      subst e
      have := hgg.symm.trans (show w.heap[f]? = _ from hf)
      simp at this
  have hcon := AnyQ.slices_SortFunc Tryz.sortR 8 Tryz.isAgg45 Tryz.sizeOf45 RuA.enc RuA.enc_len RuA.enc_one (cmpN RuA.name) (swo_cmpN _) 57 #[.pointer (some ⟨f, 0, none⟩)] g 0 cap xs.toArray w eg (cmpR_lays g _ f w hf hne) hH hg (by simp; omega)
  rw [show xs.toArray.size = xs.length by simp] at hcon
  refine (show Calls Tryz.prog 56 _ _ _ from hcon).mono fun e w' ⟨he, d', n, os, hp, hs, hw⟩ => ⟨he, ?_⟩
  obtain ⟨hl, hsn⟩ := sortedN_of RuA.name xs d' (by simpa using hp) (by simpa using hs)
  have ho := h.sorted (ys := d'.toList) (m := n) (os := os) RuA.enc_len hl
  rw [show d'.toList.toArray = d' by simp] at ho
  refine ⟨d'.toList, hl, hsn, by rw [hw]; exact ho, ?_⟩
  rw [hw]
  exact ⟨rfl, rfl, rfl, size_sortK _ _ _ _ _, fun k hk => heap_sortK w g n k _ os (by omega) (by omega)⟩
set_option maxHeartbeats 1600000 in
set_option maxRecDepth 100000 in
theorem clone0R_any (a : Addr) (c : Nat) (w : World) : Calls Tryz.prog 55 #[.slice (some a) 0 c] w (fun e w' => ∃ v, e = .returned v ∧ OwnX 45 8 RuA.enc w' w.heap.size v ([] : List RuA) ∧ Below w.heap.size w w') := by
  obtain ⟨i0, hi, hz0, hz1, hz2⟩ := info_partsRu Tryz.infoRu
  have q22 : ∀ (w : World) (a : Option Addr) (n c n' c' : Nat), (binOp .eql 22 (.slice a n c) (.slice none n' c')).run Tryz.prog w = .ok (.bool a.isNone) w := fun w a n c n' c' => Lib.run_eql_slice_nil w _ _ a n c n' c' Tryz.underlying22
  go_enter Tryz.func55, Tryz.ntmps55
  go_wp2_with (refine wpList_append_own _ (by rfl) (.tmp 5) (.tmp 6) 22 (by rfl) w.heap.size 45 i0 (.agg #[.string ⟨#[]⟩, .string ⟨#[]⟩, .int .i64 0, .int .i64 0, .int .i64 0, .int .i64 0, .int .i64 0, .slice none 0 0]) 8 96 Tryz.underlying22 hi hz0 hz1 hz2 rfl (by omega) (.slice (some ⟨w.heap.size, 0, none⟩) 0 0) 0 [] (by rfl) (World.ownsRow_made w #[] 0 (Nat.le_refl _) (by unfold maxLen; omega) (by simp)) a 0 c [] (by rfl) (by rfl) (by intro j u hj; simp at hj) (by intro u hu; cases hu) (by unfold maxLen; omega) (by omega) (by simp) ?_; intro v' w1 hown hgrow hnil)
  go_ret
  refine ⟨v', rfl, by simpa [OwnX, rowV] using hown, ?_⟩
  exact ((Below.refl _ w).alloc (Nat.le_refl _) _).grown hgrow (by simp) (by intro k hk; simp [Value.ownBlock] at hk; omega)
theorem cloneR_any (a : Option Addr) (c : Nat) (xs : List RuA) (w : World) (h : HasRules w a c xs) (h8 : xs.length ≤ 1000000) :
    Calls Tryz.prog 55 #[.slice a xs.length c] w (fun e w' => ∃ v, e = .returned v ∧ OwnX 45 8 RuA.enc w' w.heap.size v xs ∧ Below w.heap.size w w') := by
  obtain ⟨i0, hi, hz0, hz1, hz2⟩ := info_partsRu Tryz.infoRu
  obtain ⟨h1, h2, h3, h4⟩ := h
  rcases h4 with rfl | ⟨b, off, rfl, hb, hc⟩
  · cases a with
    | none => exact (show Calls Tryz.prog 55 _ _ _ from AnyE.slices_Clone_nil Tryz.cloneR 0 c w).mono fun e w' ⟨he, hw⟩ => ⟨_, he, by rw [hw]; exact OwnX.nil _ _ _, by rw [hw]; exact Below.refl _ _⟩
    | some a => exact clone0R_any a c w
  · refine (show Calls Tryz.prog 55 _ _ _ from AnyE.slices_Clone Tryz.cloneR i0 _ 8 96 hi hz0 hz1 hz2 rfl (by omega) Tryz.sizeOf45 b off xs.length c (rowV RuA.enc xs) w (rowV_len RuA.enc_len xs) (by unfold maxLen; omega) (by omega) (HasRow.flat (_ok := RuA.ok) (_c := c) RuA.enc_len (by omega) hc) (fun u hu => ?_)).mono fun e w' ⟨v, he, ho, _, hb⟩ => ⟨v, he, ho, hb⟩
    obtain ⟨x, _, h⟩ := List.mem_flatMap.1 hu
    exact RuA.enc_one x u h
theorem sort0R_any (a : Option Addr) (cap : Nat) (fv : Value) (w : World) : Calls Tryz.prog 56 #[.slice a 0 cap, fv] w (fun e w' => e = .returned (.tuple #[]) ∧ w' = w) :=
  AnyF.slices_SortFunc_none Tryz.sortR a cap fv w
/-- what config.sorted of these answers -/
def SrtR (xs : List RuA) (w : World) (e : Ending) (w' : World) : Prop := ∃ v ys, e = .returned v ∧ ys.length = xs.length ∧ SortedN RuA.name xs ys ∧ OwnX 45 8 RuA.enc w' w.heap.size v ys ∧ Below w.heap.size w w'
set_option maxHeartbeats 3200000 in
set_option maxRecDepth 100000 in
theorem srtR_any (a : Option Addr) (c : Nat) (xs : List RuA) (w : World) (h : HasRules w a c xs) (h8 : xs.length ≤ 1000000) :
    Calls Tryz.prog 15 #[.slice a xs.length c, .func (.func 16) #[] #[]] w (SrtR xs w) := by
  have hb := (Below.refl w.heap.size w).alloc (Nat.le_refl _) (.cells #[.func (.func 16) #[] #[]] 46)
  have hB := Blk.new w 46 #[.func (.func 16) #[] #[]]
  have hz : (w.alloc (.cells #[.func (.func 16) #[] #[]] 46)).heap.size = w.heap.size + 1 := by simp
  have hcl := cloneR_any a c xs _ (h.keep hb) h8
  have hs1 := fun (g cap : Nat) W (ho : OwnX 45 8 RuA.enc W (w.heap.size + 1) (.slice (some ⟨g, 0, none⟩) xs.length cap) xs) hf => sort1R_any (w.heap.size + 1) g cap w.heap.size xs W ho h8 hf
  have hs0 := fun a cap W => sort0R_any a cap (.func (.func 57) #[] #[.pointer (some ⟨w.heap.size, 0, none⟩)]) W
  have HB := Lib.hid hb
  have HCL := Lib.hid hcl
  have HS1 := Lib.hid hs1
  have HS0 := Lib.hid hs0
  have HBB := Lib.hid hB
  clear hb hcl hs1 hs0 hB h
  go_enter Tryz.func15, Tryz.ntmps15
  go_upto_region 1 with fail
  obtain ⟨f, hf⟩ : ∃ f, w.heap.size = f := ⟨_, rfl⟩
  generalize w.alloc (.cells #[.func (.func 16) #[] #[]] 46) = wx at *
  have HF := Lib.hid hf
  rw [hf] at HBB HS1 HS0 hz ⊢
  clear hf
  go_upto_region 2 with (go_at_call 55; refine HCL.out.mono ?_; rintro e w2 ⟨v, rfl, ho2, hb2⟩)
  have hB2 := HBB.out.call hb2
  rw [hz] at ho2
  have hbb := HB.out.trans (hb2.mono HB.out.size)
  rcases ho2.2 with ⟨rfl, h0⟩ | ⟨g1, cap, cur, rfl, _, _, _, _, _, _⟩
  · obtain rfl : xs = [] := List.eq_nil_of_length_eq_zero h0
    have HBB2 := Lib.hid hbb
    clear hB2 hbb ho2
    go_wp2_with (go_at_call 56; refine (HS0.out _ _ _).mono ?_; rintro e w3 ⟨rfl, rfl⟩)
    go_ret
    exact ⟨_, [], rfl, rfl, ⟨.refl _, .nil⟩, OwnX.nil _ _ _, HBB2.out⟩
  · have hcall := HS1.out g1 cap w2 ho2 hB2
    have HCA := Lib.hid hcall
    have HBB2 := Lib.hid hbb
    clear hB2 hbb ho2 hcall
    go_wp2_with (go_at_call 56; refine HCA.out.mono ?_; rintro e w3 ⟨rfl, ys, hl3, hs3, ho3, hb3⟩)
    go_ret
    have hff := HF.out
    exact ⟨_, ys, rfl, hl3, hs3, ho3.base (by omega), HBB2.out.trans (hb3.mono (by omega))⟩

theorem Tryz.infoH : (Tryz.prog.info? 57).map (fun i => (i.zero, i.size, i.bytes)) = some (some (.agg #[.string ⟨#[]⟩, .int .i64 0, .int .i64 0, .int .i64 0]), 4, 40) := by kernel_rfl
theorem info_partsH {x : Option TypeInfo} (h : x.map (fun i => (i.zero, i.size, i.bytes)) = some (some (.agg #[.string ⟨#[]⟩, .int .i64 0, .int .i64 0, .int .i64 0]), 4, 40)) : ∃ i, x = some i ∧ i.zero = some (.agg #[.string ⟨#[]⟩, .int .i64 0, .int .i64 0, .int .i64 0]) ∧ i.size = 4 ∧ i.bytes = 40 := by
  cases x with
  | none => cases h
  | some i => simp at h; exact ⟨i, rfl, h.1, h.2.1, h.2.2⟩
set_option maxHeartbeats 3200000 in
set_option maxRecDepth 100000 in
theorem cmpH_any (x y : HrA) (g : Nat) (w : World) (hg : Blk w g 58 #[.func (.func 24) #[] #[]]) :
    Calls Tryz.prog 72 #[.agg #[.string x.n, .int .i64 x.d, .int .i64 x.f, .int .i64 x.t], .agg #[.string y.n, .int .i64 y.d, .int .i64 y.f, .int .i64 y.t], .pointer (some ⟨g, 0, none⟩)] w fun e w' => e = .returned (.int .i64 (cmpN HrA.n x y)) ∧ ∃ q os', w' = grow (w.drewN q) os' := by
  have mixed : Tryz.prog.follows .mixedOrders = true := by kernel_rfl
  obtain ⟨W, hW⟩ : ∃ W, (w.alloc (.cells #[.string x.n, .int .i64 x.d, .int .i64 x.f, .int .i64 x.t] 57)).alloc (.cells #[.string y.n, .int .i64 y.d, .int .i64 y.f, .int .i64 y.t] 57) = W := ⟨_, rfl⟩
  have hX := (Blk.new w 57 #[.string x.n, .int .i64 x.d, .int .i64 x.f, .int .i64 x.t]).alloc (.cells #[.string y.n, .int .i64 y.d, .int .i64 y.f, .int .i64 y.t] 57)
  have hY := nbR w (.cells #[.string x.n, .int .i64 x.d, .int .i64 x.f, .int .i64 x.t] 57) #[.string y.n, .int .i64 y.d, .int .i64 y.f, .int .i64 y.t] 57
  have hG := (hg.alloc (.cells #[.string x.n, .int .i64 x.d, .int .i64 x.f, .int .i64 x.t] 57)).alloc (.cells #[.string y.n, .int .i64 y.d, .int .i64 y.f, .int .i64 y.t] 57)
  rw [hW] at hX hY hG
  have hWg : ∀ n os, ∃ q os', grow (W.drewN n) os = grow (w.drewN q) os' := fun n os => by
    refine ⟨n, #[.cells #[.string x.n, .int .i64 x.d, .int .i64 x.f, .int .i64 x.t] 57, .cells #[.string y.n, .int .i64 y.d, .int .i64 y.f, .int .i64 y.t] 57] ++ os, ?_⟩
    rw [← hW, alloc_eq_grow, alloc_eq_grow]
    show grow (grow (grow (w.drewN n) _) _) os = _
    rw [grow_grow, grow_grow, ← Array.append_assoc]
    rfl
  have hxl := hX.lt
  have hyl := hY.lt
  have g0 := fun n os => cell_grown (w := W) hG.lt (hG.cell 0) n os
  have a0 := fun n os => cell_grown (w := W) hxl (hX.cell 0) n os
  have a1 := fun n os => cell_grown (w := W) hxl (hX.cell 1) n os
  have a2 := fun n os => cell_grown (w := W) hxl (hX.cell 2) n os
  have a3 := fun n os => cell_grown (w := W) hxl (hX.cell 3) n os
  have b0 := fun n os => cell_grown (w := W) hyl (hY.cell 0) n os
  have b1 := fun n os => cell_grown (w := W) hyl (hY.cell 1) n os
  have b2 := fun n os => cell_grown (w := W) hyl (hY.cell 2) n os
  have b3 := fun n os => cell_grown (w := W) hyl (hY.cell 3) n os
  have hc := fun a b V => Tryz.strings_Compare a b V
  have hn := fun (z : HrA) V => hoursName_any z V
  obtain ⟨K, hK⟩ : ∃ K, cmpN HrA.n x y = K := ⟨_, rfl⟩
  rw [hK]
  have hcc : ∀ n os, Calls Tryz.prog 58 #[.string x.n, .string y.n] (grow (W.drewN n) os) (fun e w' => e = .returned (.int .i64 K) ∧ ∃ q os', w' = grow ((grow (W.drewN n) os).drewN q) os') := fun n os => (hc _ _ _).mono fun e w' ⟨he, hw⟩ => ⟨by rw [he, ← hK]; rfl, 0, #[], by rw [hw, grow_empty]; rfl⟩
  have hnx : ∀ n os, Calls Tryz.prog 24 #[.agg #[.string x.n, .int .i64 x.d, .int .i64 x.f, .int .i64 x.t]] (grow (W.drewN n) os) (fun e w' => e = .returned (.string x.n) ∧ ∃ q os', w' = grow ((grow (W.drewN n) os).drewN q) os') := fun n os => (hn x _).mono fun e w' ⟨he, os', hw⟩ => ⟨he, 0, os', by rw [hw]; rfl⟩
  have hny : ∀ n os, Calls Tryz.prog 24 #[.agg #[.string y.n, .int .i64 y.d, .int .i64 y.f, .int .i64 y.t]] (grow (W.drewN n) os) (fun e w' => e = .returned (.string y.n) ∧ ∃ q os', w' = grow ((grow (W.drewN n) os).drewN q) os') := fun n os => (hn y _).mono fun e w' ⟨he, os', hw⟩ => ⟨he, 0, os', by rw [hw]; rfl⟩
  have HCC := Lib.hid hcc
  have HNX := Lib.hid hnx
  have HNY := Lib.hid hny
  have HWG := Lib.hid hWg
  clear hc hn hK hcc hnx hny hWg hg hX hY hG
  go_enter Tryz.func72, Tryz.ntmps72
  go_upto_region 1 with fail
  try rw [hW]
  clear hW
  go_quiet_grown (first
    | (go_at_call 24; first | (with_reducible exact Calls.grown_of (HNX.out _ _)) | (with_reducible exact Calls.grown_of (HNY.out _ _)))
    | (go_at_call 58; exact Calls.grown_of (HCC.out _ _)))
  obtain ⟨q1, os1, hq1⟩ := HWG.out nq osq
  go_wp2_with fail
  go_ret
  exact ⟨rfl, q1, os1, hq1⟩
theorem cmpH_lays (b size g : Nat) (w : World) (hg : Blk w g 58 #[.func (.func 24) #[] #[]]) (hne : g ≠ b) :
    CmpLays Tryz.prog 72 #[.pointer (some ⟨g, 0, none⟩)] HrA.enc 4 (cmpN HrA.n) b 0 size w := by
  intro m os dk _ x y
  exact cmpH_any x y g (sortWorldK HrA.enc 4 w b 0 m dk os) ((heap_sortK w b m g dk os hg.lt hne).trans hg)
set_option maxHeartbeats 1600000 in
theorem sort1H_any (base g cap f : Nat) (xs : List HrA) (w : World) (h : OwnX 57 4 HrA.enc w base (.slice (some ⟨g, 0, none⟩) xs.length cap) xs) (h8 : xs.length ≤ 1000000) (hf : Blk w f 58 #[.func (.func 24) #[] #[]]) :
    Calls Tryz.prog 71 #[.slice (some ⟨g, 0, none⟩) xs.length cap, .func (.func 72) #[] #[.pointer (some ⟨f, 0, none⟩)]] w
      (fun e w' => e = .returned (.tuple #[]) ∧ ∃ ys, ys.length = xs.length ∧ SortedN HrA.n xs ys ∧ OwnX 57 4 HrA.enc w' base (.slice (some ⟨g, 0, none⟩) xs.length cap) ys ∧ Below base w w') := by
  have eg : ∀ args w, (callFunc 72 args).run Tryz.prog w = .ok (.enter 72 args) w := enters_of Tryz.func72 (by kernel_rfl) rfl
  have hH := h.holds HrA.enc_len
  obtain ⟨hg, hbg⟩ : g < w.heap.size ∧ base ≤ g := by
    have := World.ownsRow.lt h g rfl
    exact ⟨this.2, this.1⟩
  have hne : f ≠ g := fun e => by
    rcases h.2 with ⟨hv, _⟩ | ⟨g1, c1, cur, hv, _, hgg, _⟩
    · cases hv
    · simp only [Value.slice.injEq, Option.some.injEq, Addr.mk.injEq] at hv
      obtain ⟨⟨rfl, _, _⟩, _, rfl⟩ := hv
      subst e
      have := hgg.symm.trans (show w.heap[f]? = _ from hf)
      simp at this
  have hcon := AnyQ.slices_SortFunc Tryz.sortH 4 Tryz.isAgg57 Tryz.sizeOf57 HrA.enc HrA.enc_len HrA.enc_one (cmpN HrA.n) (swo_cmpN _) 72 #[.pointer (some ⟨f, 0, none⟩)] g 0 cap xs.toArray w eg (cmpH_lays g _ f w hf hne) hH hg (by simp; omega)
  rw [show xs.toArray.size = xs.length by simp] at hcon
  refine (show Calls Tryz.prog 71 _ _ _ from hcon).mono fun e w' ⟨he, d', n, os, hp, hs, hw⟩ => ⟨he, ?_⟩
  obtain ⟨hl, hsn⟩ := sortedN_of HrA.n xs d' (by simpa using hp) (by simpa using hs)
  have ho := h.sorted (ys := d'.toList) (m := n) (os := os) HrA.enc_len hl
  rw [show d'.toList.toArray = d' by simp] at ho
  refine ⟨d'.toList, hl, hsn, by rw [hw]; exact ho, ?_⟩
  rw [hw]
  exact ⟨rfl, rfl, rfl, size_sortK _ _ _ _ _, fun k hk => heap_sortK w g n k _ os (by omega) (by omega)⟩
set_option maxHeartbeats 1600000 in
set_option maxRecDepth 100000 in
theorem clone0H_any (a : Addr) (c : Nat) (w : World) : Calls Tryz.prog 70 #[.slice (some a) 0 c] w (fun e w' => ∃ v, e = .returned v ∧ OwnX 57 4 HrA.enc w' w.heap.size v ([] : List HrA) ∧ Below w.heap.size w w') := by
  obtain ⟨i0, hi, hz0, hz1, hz2⟩ := info_partsH Tryz.infoH
  have q22 : ∀ (w : World) (a : Option Addr) (n c n' c' : Nat), (binOp .eql 29 (.slice a n c) (.slice none n' c')).run Tryz.prog w = .ok (.bool a.isNone) w := fun w a n c n' c' => Lib.run_eql_slice_nil w _ _ a n c n' c' Tryz.underlying29
  go_enter Tryz.func70, Tryz.ntmps70
  go_wp2_with (refine wpList_append_own _ (by rfl) (.tmp 5) (.tmp 6) 29 (by rfl) w.heap.size 57 i0 (.agg #[.string ⟨#[]⟩, .int .i64 0, .int .i64 0, .int .i64 0]) 4 40 Tryz.underlying29 hi hz0 hz1 hz2 rfl (by omega) (.slice (some ⟨w.heap.size, 0, none⟩) 0 0) 0 [] (by rfl) (World.ownsRow_made w #[] 0 (Nat.le_refl _) (by unfold maxLen; omega) (by simp)) a 0 c [] (by rfl) (by rfl) (by intro j u hj; simp at hj) (by intro u hu; cases hu) (by unfold maxLen; omega) (by omega) (by simp) ?_; intro v' w1 hown hgrow hnil)
  go_ret
  refine ⟨v', rfl, by simpa [OwnX, rowV] using hown, ?_⟩
  exact ((Below.refl _ w).alloc (Nat.le_refl _) _).grown hgrow (by simp) (by intro k hk; simp [Value.ownBlock] at hk; omega)
theorem cloneH_any (a : Option Addr) (c : Nat) (xs : List HrA) (w : World) (h : HasHours w a c xs) (h8 : xs.length ≤ 1000000) :
    Calls Tryz.prog 70 #[.slice a xs.length c] w (fun e w' => ∃ v, e = .returned v ∧ OwnX 57 4 HrA.enc w' w.heap.size v xs ∧ Below w.heap.size w w') := by
  obtain ⟨i0, hi, hz0, hz1, hz2⟩ := info_partsH Tryz.infoH
  obtain ⟨h1, h2, h3, h4⟩ := h
  rcases h4 with rfl | ⟨b, off, rfl, hb, hc⟩
  · cases a with
    | none => exact (show Calls Tryz.prog 70 _ _ _ from AnyE.slices_Clone_nil Tryz.cloneH 0 c w).mono fun e w' ⟨he, hw⟩ => ⟨_, he, by rw [hw]; exact OwnX.nil _ _ _, by rw [hw]; exact Below.refl _ _⟩
    | some a => exact clone0H_any a c w
  · refine (show Calls Tryz.prog 70 _ _ _ from AnyE.slices_Clone Tryz.cloneH i0 _ 4 40 hi hz0 hz1 hz2 rfl (by omega) Tryz.sizeOf57 b off xs.length c (rowV HrA.enc xs) w (rowV_len HrA.enc_len xs) (by unfold maxLen; omega) (by omega) (HasRow.flat (_ok := HrA.ok) (_c := c) HrA.enc_len (by omega) hc) (fun u hu => ?_)).mono fun e w' ⟨v, he, ho, _, hb⟩ => ⟨v, he, ho, hb⟩
    obtain ⟨x, _, h⟩ := List.mem_flatMap.1 hu
    exact HrA.enc_one x u h
theorem sort0H_any (a : Option Addr) (cap : Nat) (fv : Value) (w : World) : Calls Tryz.prog 71 #[.slice a 0 cap, fv] w (fun e w' => e = .returned (.tuple #[]) ∧ w' = w) :=
  AnyF.slices_SortFunc_none Tryz.sortH a cap fv w
/-- what config.sorted of these answers -/
def SrtH (xs : List HrA) (w : World) (e : Ending) (w' : World) : Prop := ∃ v ys, e = .returned v ∧ ys.length = xs.length ∧ SortedN HrA.n xs ys ∧ OwnX 57 4 HrA.enc w' w.heap.size v ys ∧ Below w.heap.size w w'
set_option maxHeartbeats 3200000 in
set_option maxRecDepth 100000 in
theorem srtH_any (a : Option Addr) (c : Nat) (xs : List HrA) (w : World) (h : HasHours w a c xs) (h8 : xs.length ≤ 1000000) :
    Calls Tryz.prog 23 #[.slice a xs.length c, .func (.func 24) #[] #[]] w (SrtH xs w) := by
  have hb := (Below.refl w.heap.size w).alloc (Nat.le_refl _) (.cells #[.func (.func 24) #[] #[]] 58)
  have hB := Blk.new w 58 #[.func (.func 24) #[] #[]]
  have hz : (w.alloc (.cells #[.func (.func 24) #[] #[]] 58)).heap.size = w.heap.size + 1 := by simp
  have hcl := cloneH_any a c xs _ (h.keep hb) h8
  have hs1 := fun (g cap : Nat) W (ho : OwnX 57 4 HrA.enc W (w.heap.size + 1) (.slice (some ⟨g, 0, none⟩) xs.length cap) xs) hf => sort1H_any (w.heap.size + 1) g cap w.heap.size xs W ho h8 hf
  have hs0 := fun a cap W => sort0H_any a cap (.func (.func 72) #[] #[.pointer (some ⟨w.heap.size, 0, none⟩)]) W
  have HB := Lib.hid hb
  have HCL := Lib.hid hcl
  have HS1 := Lib.hid hs1
  have HS0 := Lib.hid hs0
  have HBB := Lib.hid hB
  clear hb hcl hs1 hs0 hB h
  go_enter Tryz.func23, Tryz.ntmps23
  go_upto_region 1 with fail
  obtain ⟨f, hf⟩ : ∃ f, w.heap.size = f := ⟨_, rfl⟩
  generalize w.alloc (.cells #[.func (.func 24) #[] #[]] 58) = wx at *
  have HF := Lib.hid hf
  rw [hf] at HBB HS1 HS0 hz ⊢
  clear hf
  go_upto_region 2 with (go_at_call 70; refine HCL.out.mono ?_; rintro e w2 ⟨v, rfl, ho2, hb2⟩)
  have hB2 := HBB.out.call hb2
  rw [hz] at ho2
  have hbb := HB.out.trans (hb2.mono HB.out.size)
  rcases ho2.2 with ⟨rfl, h0⟩ | ⟨g1, cap, cur, rfl, _, _, _, _, _, _⟩
  · obtain rfl : xs = [] := List.eq_nil_of_length_eq_zero h0
    have HBB2 := Lib.hid hbb
    clear hB2 hbb ho2
    go_wp2_with (go_at_call 71; refine (HS0.out _ _ _).mono ?_; rintro e w3 ⟨rfl, rfl⟩)
    go_ret
    exact ⟨_, [], rfl, rfl, ⟨.refl _, .nil⟩, OwnX.nil _ _ _, HBB2.out⟩
  · have hcall := HS1.out g1 cap w2 ho2 hB2
    have HCA := Lib.hid hcall
    have HBB2 := Lib.hid hbb
    clear hB2 hbb ho2 hcall
    go_wp2_with (go_at_call 71; refine HCA.out.mono ?_; rintro e w3 ⟨rfl, ys, hl3, hs3, ho3, hb3⟩)
    go_ret
    have hff := HF.out
    exact ⟨_, ys, rfl, hl3, hs3, ho3.base (by omega), HBB2.out.trans (hb3.mono (by omega))⟩
end Go.Proofs.YtmhekhilgllciaaGreat
