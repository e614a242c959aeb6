/- The mathematics of ConfigNeeds: which configurations may be, with receivers less or more, or without hours. -/
import Derived.Test.YtkgnapojkijbgaaGreatMg6
import Derived.Test.YtkgnapojkijbgaaGreatOwnS
import Derived.Test.YtkgnapojkijbgaaGreatAppend
import Derived.Test.YtkgnapojkijbgaaGreatMg1
import Derived.Test.YtkgnapojkijbgaaGreatRteA
import Derived.Outline
import Derived.Test.YtkgnapojkijbgaaGreatMg2
import Derived.Test.YtkgnapojkijbgaaGreatMg5
import Derived.Test.YtkgnapojkijbgaaGreatBlkA
import Derived.Test.YtkgnapojkijbgaaGreatSlcS
import Derived.Test.YtkgnapojkijbgaaGreatStrs
import Derived.Deep.QuietTactic
import Derived.BigQuiet
namespace Go.Proofs.YtkgnapojkijbgaaGreat
open Go.RowKit Go.Lib Go.Sort

theorem cfgC_route {k : CfA} (h : cfgC k = true) : routeC k = true := by
  simp only [cfgC, Bool.and_eq_true] at h
  exact h.2.2.2.2.2.2.2
theorem cfgC_noroute {k : CfA} (h : routeC k = false) : cfgC k = false := by
  simp only [cfgC, h, Bool.and_false]
/-- other receivers: what they ask -/
theorem cfgC_re {k : CfA} (h : cfgC k = true) (re : List ByteArray) (a : Option Addr) (c : Nat) :
    cfgC { k with re := re, ra := a, rc := c } = (decide (re.length ≤ 16) && re.all (fun s => bwC s.data.toList) && onceS re && amongB (onceL (tellL recvT k.rt.n.all)) re) := by
  simp only [cfgC, routeC, Bool.and_eq_true] at h
  simp only [cfgC, routeC]
  obtain ⟨⟨h1, h2⟩, h3, h4, h5, ⟨h6, h7⟩, ⟨h8, h9⟩, h10, h11, h12, h13, h14, h15, h16⟩ := h
  simp only [h1, h2, h3, h6, h7, h8, h9, h10, h11, h12, h13, h14, h16, Bool.true_and, Bool.and_true]
  cases decide (re.length ≤ 16) <;> cases re.all (fun s => bwC s.data.toList) <;> cases onceS re <;> simp
theorem sameK_re {x y : CfA} (h : x.re.length ≠ y.re.length) : sameK x y = false := by
  have : decide (x.re = y.re) = false := decide_eq_false (fun e => h (by rw [e]))
  simp [sameK, this]
theorem bsOf_nodup (ss : List ByteArray) : (bsOf ss).Nodup ↔ ss.Nodup := by
  unfold bsOf List.Nodup
  rw [List.pairwise_map]
  constructor
  · exact fun h => h.imp fun hab e => hab (by rw [e])
  · exact fun h => h.imp fun {a b} hab e => hab (by rw [← strB_of a, ← strB_of b]; exact congrArg strB e)
theorem onceS_iff (ss : List ByteArray) : onceS ss = true ↔ ss.Nodup := (onceB_iff (bsOf ss)).trans (bsOf_nodup ss)
theorem recv_told (n : Rt) : n.recv ∈ onceL (tellL recvT n.all) := by
  rw [mem_once, Rt.all_eq]
  simp [tellL, recvT]
theorem mute_told (n : Rt) (s : ByteArray) (h : s ∈ n.mute) : s ∈ onceL (tellL muteT n.all) := by
  rw [mem_once, Rt.all_eq]
  simp [tellL, muteT, h]
theorem amongB_iff (xs ls : List ByteArray) : amongB xs ls = true ↔ ∀ x ∈ xs, x ∈ ls := by
  simp only [amongB, List.all_eq_true, inB_iff]
theorem recv_there {k : CfA} (h : cfgC k = true) : k.rt.n.recv ∈ k.re := by
  have h := cfgC_route h
  simp only [routeC, Bool.and_eq_true] at h
  exact (amongB_iff _ _).1 h.2.2.2.2.1 _ (recv_told _)
theorem among_there {k : CfA} (h : cfgC k = true) : ∀ x ∈ onceL (tellL recvT k.rt.n.all), x ∈ k.re := by
  have h := cfgC_route h
  simp only [routeC, Bool.and_eq_true] at h
  exact (amongB_iff _ _).1 h.2.2.2.2.1
/-- without the receiver of the route -/
theorem needs_without {k : CfA} (h : cfgC k = true) (re : List ByteArray) (a : Option Addr) (c : Nat) (hn : k.rt.n.recv ∉ re) : cfgC { k with re := re, ra := a, rc := c } = false := by
  rw [cfgC_re h]
  have : amongB (onceL (tellL recvT k.rt.n.all)) re = false := by
    rw [Bool.eq_false_iff]
    exact fun e => hn ((amongB_iff _ _).1 e _ (recv_told _))
  rw [this, Bool.and_false]
/-- with one more -/
theorem needs_more {k : CfA} (h : cfgC k = true) (nm : ByteArray) (a : Option Addr) (c : Nat) : cfgC { k with re := k.re ++ [nm], ra := a, rc := c } = (bwC nm.data.toList && (!inB nm k.re && decide (k.re.length < 16))) := by
  rw [cfgC_re h]
  have h0 := h
  simp only [cfgC, Bool.and_eq_true] at h0
  obtain ⟨_, _, ⟨_, h4⟩, h5, _⟩ := h0
  have ha : amongB (onceL (tellL recvT k.rt.n.all)) (k.re ++ [nm]) = true := (amongB_iff _ _).2 fun x hx => List.mem_append_left _ (among_there h x hx)
  have ho : onceS (k.re ++ [nm]) = !inB nm k.re := by
    rw [Bool.eq_iff_iff, onceS_iff, Bool.not_eq_true', Bool.eq_false_iff, Ne, inB_iff, List.nodup_append]
    have hd := (onceS_iff _).1 h5
    constructor
    · exact fun ⟨_, _, hx⟩ hm => hx nm hm nm (by simp) rfl
    · exact fun hm => ⟨hd, by simp, fun x hx y hy e => hm (by simp at hy; rw [← hy, ← e]; exact hx)⟩
  have hl : decide ((k.re ++ [nm]).length ≤ 16) = decide (k.re.length < 16) := decide_eq_decide.2 (by simp; omega)
  rw [ha, ho, hl, List.all_append, h4]
  simp only [List.all_cons, List.all_nil, Bool.true_and, Bool.and_true]
  cases bwC nm.data.toList <;> cases inB nm k.re <;> cases decide (k.re.length < 16) <;> rfl
/-- without hours -/
theorem needs_silent {k : CfA} (hm : k.rt.n.mute ≠ []) (a : Option Addr) (c : Nat) : cfgC { k with hr := [], ha := a, hc := c } = false := by
  refine cfgC_noroute ?_
  have : amongB (onceL (tellL muteT k.rt.n.all)) [] = false := by
    rw [Bool.eq_false_iff]
    intro e
    obtain ⟨s, hs⟩ := List.exists_mem_of_ne_nil _ hm
    exact absurd ((amongB_iff _ _).1 e s (mute_told _ s hs)) (by simp)
  simp only [routeC, List.map_nil, this, Bool.and_false]
/-- one more is another one -/
theorem more_other {k k1 k2 : CfA} {nm : ByteArray} {a : Option Addr} {c : Nat} (h1 : NormOf k k1) (h2 : NormOf { k with re := k.re ++ [nm], ra := a, rc := c } k2) : sameK k1 k2 = false := by
  refine sameK_re ?_
  rw [h1.2.2.1, h2.2.2.1, sortS_len, sortS_len]
  simp
end Go.Proofs.YtkgnapojkijbgaaGreat
/- In a region that draws its order: an append of a row of texts to a slice of texts of the call's own. It speaks of no one program. -/
namespace Go.Proofs.YtkgnapojkijbgaaGreat
open Go.RowKit

/-- a row of texts, as what an append is handed -/
theorem src_texts {P : Program} {t e : Nat} {w : World} {a : Option Addr} {c : Nat} {ss : List ByteArray} (hk : P.underlying t = some (.slice e)) (h : HasStrs w a c ss) : Src P 1 t (.slice a ss.length c) ss.length (strsV ss) w := by
  obtain ⟨h1, h2, h3, h4⟩ := h
  rcases h4 with rfl | ⟨b, off, rfl, hb, hc⟩
  · cases a with
    | none => exact Src.ofNil w hk c
    | some a => exact Src.ofSlice w hk a 0 c [] (by simp) (fun j u hu => by simp at hu) (fun u hu => by cases hu)
  · refine Src.ofSlice w hk ⟨b, off, none⟩ ss.length c (strsV ss) (by simp [strsV]) (fun j u hu => ?_) (fun u hu => ?_)
    · have hj : j < ss.length := by
        have := (List.getElem?_eq_some_iff.1 hu).1
        simpa [strsV] using this
      have e0 : (⟨b, off, none⟩ : Addr).add j = ⟨b, off + j, none⟩ := by unfold Addr.add; split <;> simp_all
      rw [e0, hc j hj]
      simpa [strsV, hj] using hu
    · obtain ⟨_, _, rfl⟩ := List.mem_map.1 hu
      rfl
theorem strsV_app (a b : List ByteArray) : strsV (a ++ b) = strsV a ++ strsV b := by simp [strsV]
theorem step_appS {P : Program} (W : World) {ops : Array Oper} {o : Oper} {a : Act} {K : Act → World → Prop} {Q : Exit → Act → World → Prop} {E : Prop} (hgd : o.guard = none) (s x : Operand) (t : TypeId)
    (ho : o.op = .call { callee := .builtin .append, args := #[s, x], argTypes := #[t, t] })
    (base : Nat) (e : TypeId) (i : TypeInfo) (z : Value) (ht : P.underlying t = some (.slice e)) (hi : P.info? e = some i) (hz : i.zero = some z) (hsize : i.size = 1) (hby : i.bytes = 16) (hzs : z.cells.size = 1)
    (v : Value) (ss : List ByteArray) (hs : a.eval s = v) (hown : OwnS e W base v ss) (xa : Option Addr) (xn xc : Nat) (us : List ByteArray)
    (hx : a.eval x = .slice xa xn xc) (hxn : xn = us.length) (hsrc : HasStrs W xa xc us) (h63 : ss.length + us.length ≤ 1000000) (hbase : base ≤ W.heap.size)
    (h : ∀ (v' : Value) (w' : World), OwnS e w' base v' (ss ++ us) → W.grownBy w' v.ownBlock → K (a.put o.dst v') w') :
    if Region.wanted o (yielded ops a.tmps) = true then Oper.wp P o a W K Q else E := by
  have hw : Region.wanted o (yielded ops a.tmps) = true := by simp [Region.wanted, hgd]
  rw [if_pos hw]
  subst hxn
  have hsr := src_texts (P := P) ht hsrc
  unfold OwnS at hown
  rw [← hsize] at hown hsr
  obtain ⟨v', w', hr, h2, h3⟩ := run_append_src (P := P) W base t t o.type e i z 16 ht hi hz hby (by rw [hsize]; exact hzs) v ss.length (strsV ss) hown _ us.length (strsV us) hsr (by unfold maxLen; omega) (by omega) hbase
  rw [hsize] at h2
  unfold Oper.wp execOp
  simp only [ho, resolve, invoke, builtin, Sem.run_bind, Sem.run_pure, Result.andThen_ok, List.map_toArray, List.map_cons, List.map_nil, hs, hx, hr]
  refine h v' w' ?_ h3
  unfold OwnS
  rw [strsV_app, List.length_append]
  exact h2
/-- the first texts of a row, and those behind -/
theorem hasStrs_take {w : World} {a : Option Addr} {c : Nat} {ss : List ByteArray} (h : HasStrs w a c ss) (k : Nat) (hk : k ≤ ss.length) : HasStrs w a c (ss.take k) := by
  obtain ⟨h1, h2, h3, h4⟩ := h
  refine ⟨by rw [List.length_take]; omega, h2, fun s hs => h3 s (List.mem_of_mem_take hs), ?_⟩
  rcases h4 with rfl | ⟨b, off, rfl, hb, hc⟩
  · exact .inl (by simp)
  · refine .inr ⟨b, off, rfl, hb, fun i hi => ?_⟩
    have hi' : i < ss.length := by rw [List.length_take] at hi; omega
    rw [hc i hi']; simp
theorem hasStrs_drop {w : World} {b off c c' : Nat} {ss : List ByteArray} (h : HasStrs w (some ⟨b, off, none⟩) c ss) (k : Nat) (hk : k ≤ ss.length) (hc : c' = c - k) : HasStrs w (some ⟨b, off + k, none⟩) c' (ss.drop k) := by
  obtain ⟨h1, h2, h3, h4⟩ := h
  refine ⟨by rw [List.length_drop]; omega, by omega, fun s hs => h3 s (List.mem_of_mem_drop hs), ?_⟩
  rcases h4 with rfl | ⟨b2, o2, e, hb, hc⟩
  · exact .inl (by simp)
  · cases e
    refine .inr ⟨b, off + k, rfl, hb, fun i hi => ?_⟩
    have hi' : k + i < ss.length := by rw [List.length_drop] at hi; omega
    rw [Nat.add_assoc, hc (k + i) hi']; simp
theorem OwnS.made (T : TypeId) (w : World) : OwnS T (w.alloc (.cells #[] T)) w.heap.size (.slice (some ⟨w.heap.size, 0, none⟩) 0 0) [] := by
  refine ⟨rfl, .inr ⟨w.heap.size, 0, #[], rfl, Nat.le_refl _, ?_, Nat.le_refl _, by unfold maxLen; omega, rfl, rfl⟩⟩
  show (w.heap.push _)[w.heap.size]? = _; simp
end Go.Proofs.YtkgnapojkijbgaaGreat
/- An append of texts to a slice of texts of the call's own, of whatever source: it is told where the row lies then; two such rows side by side. -/
namespace Go.Proofs.YtkgnapojkijbgaaGreat
open Go.RowKit

theorem run_append_lie {P : Program} (w : World) (base : Nat) (t tx ty e : TypeId) (i : TypeInfo) (z : Value) (bytes : Nat) (ht : P.underlying t = some (.slice e)) (hi : P.info? e = some i) (hz : i.zero = some z)
    (hby : i.bytes = bytes) (hzs : z.cells.size = i.size) (v : Value) (n : Nat) (xs : List Value) (hown : w.ownsRow base e i.size v n xs) (x : Value) (m : Nat) (news : List Value) (hs : Src P i.size tx x m news w)
    (h63 : n + m ≤ maxLen) (hbytes : (n + m) * bytes ≤ 140737488355328) (hbase : base ≤ w.heap.size) :
    ∃ v' w', (Builtin.append_ #[t, tx] ty #[v, x]).run P w = .ok v' w' ∧ w'.ownsRow base e i.size v' (n + m) (xs ++ news) ∧ w.grownBy w' v.ownBlock ∧ (v'.ownBlock = v.ownBlock ∨ ∃ g, v'.ownBlock = some g ∧ w.heap.size ≤ g) := by
  subst hby
  have h63' : ((n + m : Nat) : Int) ≤ 9223372036854775807 := by simp only [maxLen] at h63; omega
  rcases hown.2 with ⟨rfl, rfl⟩ | ⟨g, cap, cur, rfl, hbg, hg, hnc, hcm, hcs, htake⟩
  · obtain rfl : xs = [] := List.eq_nil_of_length_eq_zero (by simpa using hown.1)
    by_cases hm : m = 0
    · subst hm
      obtain rfl : news = [] := List.eq_nil_of_length_eq_zero (by simpa using hs.newsLen)
      refine ⟨.slice none 0 0, w, ?_, World.ownsRow_nil w base e i.size, ⟨rfl, rfl, rfl, Nat.le_refl _, fun _ _ _ => rfl⟩, .inl rfl⟩
      have hc := hs.cells
      rcases hs.kind with ⟨e', hk⟩ | hk <;> simp [Builtin.append_, run_underlying ht, run_underlying hk, sizeOf, typeInfo, hi, hs.len, hc]
    · have hr := run_append_grow_src (P := P) w t tx ty e i z ht hi hz none 0 0 [] (by simp [Builtin.firstCells]) x m news hs (by omega) (by omega) (growslice_fits (by omega) (by omega))
      have ho := owns_grow (w := w) (base := base) (n := 0) (m := m) (c := grownCap w (0 + m) 0 e) (e := e) (xs := []) hbase (by simp) hs.newsLen hzs (grownCap_ge w (0 + m) 0 e) (grownCap_le_maxLen w (0 + m) 0 e h63) (Value.ownBlock (.slice none 0 0))
      exact ⟨_, _, hr, ho.1, ho.2, .inr ⟨_, rfl, Nat.le_refl _⟩⟩
  · by_cases hroom : n + m ≤ cap
    · have ho := owns_room (w := w) hg hbg hown.1 hs.newsLen hroom hcm hcs htake
      have hfit : n * i.size + news.length ≤ cur.size := by rw [hs.newsLen, hcs, ← Nat.add_mul]; exact Nat.mul_le_mul_right _ hroom
      have hst := run_storeCells_at P g (n * i.size) e news 0 cur w hg (by simpa using hfit) hs.one
      simp only [Nat.add_zero] at hst
      refine ⟨_, _, ?_, ho.1, ho.2, .inl rfl⟩
      rcases hs.kind with ⟨e', hk⟩ | hk <;> simp [Builtin.append_, run_underlying ht, run_underlying hk, sizeOf, typeInfo, hi, hs.len, hroom, hs.cells, Addr.add_lit, hst]
    · have holds : (Builtin.firstCells i.size n (.slice (some ⟨g, 0, none⟩) n cap)).run P w.drew = .ok xs.toArray w.drew :=
        run_firstCells_some w.drew i.size n ⟨g, 0, none⟩ n cap xs hown.1 (by simpa using hown.cells (g := g) rfl)
      have hr := run_append_grow_src (P := P) w t tx ty e i z ht hi hz (some ⟨g, 0, none⟩) n cap xs holds x m news hs (by omega) h63' (growslice_fits (by omega) hbytes)
      have ho := owns_grow (w := w) (base := base) (n := n) (m := m) (c := grownCap w (n + m) cap e) (e := e) hbase hown.1 hs.newsLen hzs (grownCap_ge w (n + m) cap e) (grownCap_le_maxLen w (n + m) cap e h63) (Value.ownBlock (.slice (some ⟨g, 0, none⟩) n cap))
      exact ⟨_, _, hr, ho.1, ho.2, .inr ⟨_, rfl, Nat.le_refl _⟩⟩


/-- where a row that was appended to lies: where it lay, or in a new block -/
def RowLie (v v' : Value) (B : Nat) : Prop := v'.ownBlock = v.ownBlock ∨ ∃ g, v'.ownBlock = some g ∧ B ≤ g
theorem wpList_appL {P : Program} (W : World) {ops : Array Oper} {rest : List Oper} {o : Oper} {a : Act} {Q : Exit → Act → World → Prop} (hgd : o.guard = none) (s x : Operand) (t : TypeId)
    (ho : o.op = .call { callee := .builtin .append, args := #[s, x], argTypes := #[t, t] })
    (base : Nat) (e : TypeId) (i : TypeInfo) (z : Value) (ht : P.underlying t = some (.slice e)) (hi : P.info? e = some i) (hz : i.zero = some z) (hsize : i.size = 1) (hby : i.bytes = 16) (hzs : z.cells.size = 1)
    (v : Value) (ss : List ByteArray) (hs : a.eval s = v) (hown : OwnS e W base v ss) (xa : Option Addr) (xn xc : Nat) (us : List ByteArray)
    (hx : a.eval x = .slice xa xn xc) (hxn : xn = us.length) (hsrc : HasStrs W xa xc us) (h63 : ss.length + us.length ≤ 1000000000) (hbase : base ≤ W.heap.size)
    (h : ∀ (na : Option Addr) (nn nc : Nat) (w' : World), nn = (ss ++ us).length → OwnS e w' base (.slice na nn nc) (ss ++ us) → W.grownBy w' v.ownBlock → RowLie v (.slice na nn nc) W.heap.size → wpList P ops Q rest (a.put o.dst (.slice na nn nc)) w') :
    wpList P ops Q (o :: rest) a W := by
  refine wpList_plain hgd fun K hK => ?_
  subst hxn
  have hsr := src_texts (P := P) ht hsrc
  unfold OwnS at hown
  rw [← hsize] at hown hsr
  obtain ⟨v', w', hr, h2, h3, h4⟩ := run_append_lie (P := P) W base t t o.type e i z 16 ht hi hz hby (by rw [hsize]; exact hzs) v ss.length (strsV ss) hown _ us.length (strsV us) hsr (by unfold maxLen; omega) (by omega) hbase
  rw [hsize] at h2
  have h5 : OwnS e w' base v' (ss ++ us) := by
    unfold OwnS
    rw [strsV_app, List.length_append]
    exact h2
  obtain ⟨na, nc, rfl, _, _⟩ := h5.form
  unfold Oper.wp execOp
  simp only [ho, resolve, invoke, builtin, Sem.run_bind, Sem.run_pure, Result.andThen_ok, List.map_toArray, List.map_cons, List.map_nil, hs, hx, hr]
  exact hK _ _ (h na _ nc w' rfl h5 h3 h4)
/-- two rows of texts that lie apart -/
def TwoS (T : TypeId) (w : World) (base : Nat) (v1 v2 : Value) (a b : List ByteArray) : Prop := OwnS T w base v1 a ∧ OwnS T w base v2 b ∧ ∀ x, v1.ownBlock = some x → v2.ownBlock ≠ some x
theorem TwoS.call {T : TypeId} {w w1 : World} {base : Nat} {v1 v2 : Value} {a b : List ByteArray} (h : TwoS T w base v1 v2 a b) (hb : Below w.heap.size w w1) : TwoS T w1 base v1 v2 a b := ⟨h.1.call hb, h.2.1.call hb, h.2.2⟩
theorem TwoS.swap {T : TypeId} {w : World} {base : Nat} {v1 v2 : Value} {a b : List ByteArray} (h : TwoS T w base v1 v2 a b) : TwoS T w base v2 v1 b a := ⟨h.2.1, h.1, fun x h2 h1 => h.2.2 x h1 h2⟩
theorem TwoS.grow {T : TypeId} {w w1 : World} {base : Nat} {v1 v2 v' : Value} {a b a' : List ByteArray} (h : TwoS T w base v1 v2 a b) (ho : OwnS T w1 base v' a') (hg : w.grownBy w1 v1.ownBlock) (hl : RowLie v1 v' w.heap.size) : TwoS T w1 base v' v2 a' b := by
  refine ⟨ho, World.ownsRow.kept h.2.1 hg ?_, fun x hx => ?_⟩
  · cases hb : v2.ownBlock with
    | none => exact .inl rfl
    | some x => exact .inr (fun e => h.2.2 x e.symm hb)
  · rcases hl with hl | ⟨g, hl, hgb⟩
    · exact h.2.2 x (hl.symm.trans hx)
    · intro h2
      have := (World.ownsRow.lt h.2.1 x h2).2
      rw [hl] at hx
      have := Option.some.inj hx
      omega
theorem TwoS.nil (T : TypeId) (w : World) (base : Nat) : TwoS T w base (.slice none 0 0) (.slice none 0 0) [] [] := ⟨OwnS.nil _ _ _, OwnS.nil _ _ _, fun x h => by cases h⟩
end Go.Proofs.YtkgnapojkijbgaaGreat
/- What stands while ConfigNeeds goes through the receivers: two copies of a configuration, with receivers of the call's own. -/
namespace Go.Proofs.YtkgnapojkijbgaaGreat
open Go.RowKit Go.Lib Go.Sort

theorem strs1N (W : World) (a : ByteArray) (ha : a.size ≤ maxLen) : HasStrs (W.alloc (.cells #[.string a] 9)) (some ⟨W.heap.size, 0, none⟩) 1 [a] := by
  have hB := Blk.new W 9 #[.string a]
  refine ⟨Nat.le_refl _, by unfold maxLen; omega, fun s hs => ?_, .inr ⟨_, 0, rfl, hB.lt, fun i hi => ?_⟩⟩
  · simp only [List.mem_cons, List.not_mem_nil, or_false] at hs
    rw [hs]
    exact ha
  · have hi' : i < 1 := hi
    obtain rfl : i = 0 := by omega
    exact hB.cell 0
theorem Blk.ne_of {w : World} {g g' : Nat} {t : TypeId} {cs : Array Value} (_h : Blk w g t cs) (hne : g ≠ g') (i : Nat) (v : Value) : Blk (w.setCell ⟨g', i, none⟩ v) g t cs := _h.setO _ _ hne
/-- between: the copies' blocks lie below base, the rows of the call's own from base on -/
structure NdW (w3 : World) (base g5 g6 : Nat) (cel : Value → Array Value) (V5 V6 : Value) (ss ts : List ByteArray) (W : World) : Prop where
  tw : TwoS 9 W base V5 V6 ss ts
  b5 : Blk W g5 31 (cel V5)
  b6 : Blk W g6 31 (cel V6)
  be : Below w3.heap.size w3 W
  sz : base ≤ W.heap.size
  o1 : w3.heap.size ≤ g5
  o2 : w3.heap.size ≤ g6
  l5 : g5 < base
  l6 : g6 < base
  ne : g5 ≠ g6
theorem NdW.call {w3 W W1 : World} {base g5 g6 : Nat} {cel : Value → Array Value} {V5 V6 : Value} {ss ts : List ByteArray} (h : NdW w3 base g5 g6 cel V5 V6 ss ts W) (hb : Below W.heap.size W W1) : NdW w3 base g5 g6 cel V5 V6 ss ts W1 :=
  ⟨h.tw.call hb, h.b5.call hb, h.b6.call hb, bthen h.be hb, Nat.le_trans h.sz hb.size, h.o1, h.o2, h.l5, h.l6, h.ne⟩
/-- a row was appended to: the copies' blocks stay -/
theorem NdW.kept {w3 W W1 : World} {base g5 g6 : Nat} {cel : Value → Array Value} {V5 V6 : Value} {ss ts : List ByteArray} (h : NdW w3 base g5 g6 cel V5 V6 ss ts W) (hg : W.grownBy W1 V5.ownBlock) : Blk W1 g5 31 (cel V5) ∧ Blk W1 g6 31 (cel V6) ∧ Below w3.heap.size w3 W1 ∧ base ≤ W1.heap.size := by
  have hw3 : w3.heap.size ≤ base := Nat.le_trans h.o1 (Nat.le_of_lt h.l5)
  exact ⟨h.b5.push hg (h.tw.1.ne h.l5), h.b6.push hg (h.tw.1.ne h.l6), h.tw.1.grown h.be hw3 (Nat.le_trans hw3 h.sz) hg, Nat.le_trans h.sz hg.size⟩
/-- and the place of it stored into the first copy -/
theorem NdW.step {w3 W W1 : World} {base g5 g6 : Nat} {cel : Value → Array Value} {V5 V6 v' : Value} {ss ts ss' : List ByteArray} (h : NdW w3 base g5 g6 cel V5 V6 ss ts W) (hset : ∀ u v, (cel u).setIfInBounds 10 v = cel v)
    (ho : OwnS 9 W1 base v' ss') (hg : W.grownBy W1 V5.ownBlock) (hl : RowLie V5 v' W.heap.size) : NdW w3 base g5 g6 cel v' V6 ss' ts (W1.setCell ⟨g5, 10, none⟩ v') := by
  obtain ⟨k5, k6, kb, kz⟩ := h.kept hg
  have ht := h.tw.grow ho hg hl
  refine ⟨⟨ht.1.setCell h.l5 10 v', ht.2.1.setCell h.l5 10 v', ht.2.2⟩, ?_, k6.ne_of (Ne.symm h.ne) _ _, kb.setCell (p := ⟨g5, 10, none⟩) h.o1 _, by simpa [World.setCell] using kz, h.o1, h.o2, h.l5, h.l6, h.ne⟩
  have := k5.set 10 v'
  rwa [hset] at this
/-- how it begins: the first copy without receivers, the second one with all and one more -/
theorem NdW.start {w3 wc w9 : World} {g5 g6 : Nat} {cel : Value → Array Value} {u5 u6 V6 : Value} {ts : List ByteArray} (hset : ∀ u v, (cel u).setIfInBounds 10 v = cel v) (h56 : g5 ≠ g6) (hg5 : w3.heap.size ≤ g5) (hg6 : w3.heap.size ≤ g6)
    (hb5 : Blk wc g5 31 (cel u5)) (hb6 : Blk wc g6 31 (cel u6)) (hcb : Below w3.heap.size w3 wc) (ho : OwnS 9 w9 wc.heap.size V6 ts) (hb9 : Below wc.heap.size wc w9) :
    NdW w3 wc.heap.size g5 g6 cel (.slice none 0 0) V6 [] ts ((w9.setCell ⟨g5, 10, none⟩ (.slice none 0 0)).setCell ⟨g6, 10, none⟩ V6) ∧
    Blk w9 g5 31 (cel u5) ∧ Blk (w9.setCell ⟨g5, 10, none⟩ (.slice none 0 0)) g6 31 (cel u6) := by
  have a5 := hb5.call hb9
  have a6 := (hb6.call hb9).ne_of (Ne.symm h56) 10 (.slice none 0 0)
  have s5 : Blk (w9.setCell ⟨g5, 10, none⟩ (.slice none 0 0)) g5 31 (cel (.slice none 0 0)) := by have := a5.set 10 (.slice none 0 0); rwa [hset] at this
  have s6 : Blk ((w9.setCell ⟨g5, 10, none⟩ (.slice none 0 0)).setCell ⟨g6, 10, none⟩ V6) g6 31 (cel V6) := by have := a6.set 10 V6; rwa [hset] at this
  have hl5 := hb5.lt
  have hl6 := hb6.lt
  refine ⟨⟨⟨OwnS.nil _ _ _, (ho.setCell hl5 10 _).setCell hl6 10 _, fun x h => by cases h⟩, s5.ne_of h56 _ _, s6, ?_, by have := hb9.size; simpa [World.setCell] using this, hg5, hg6, hl5, hl6, h56⟩, a5, a6⟩
  exact ((hcb.trans (hb9.mono hcb.size)).setCell (p := ⟨g5, 10, none⟩) hg5 _).setCell (p := ⟨g6, 10, none⟩) hg6 _
theorem HasRow.nilN {A : Type} {sz : Nat} {enc : A → List Value} {ok : World → A → Prop} (w : World) (a : Option Addr) (c : Nat) (hc : c ≤ maxLen) : HasRow sz enc ok w a c [] :=
  ⟨Nat.zero_le _, hc, fun x hx => (by cases hx), .inl rfl⟩
/-- without a receiver -/
theorem filter_ne_not (l : List ByteArray) (r : ByteArray) : r ∉ l.filter (fun s => !decide (s = r)) := by
  simp
theorem filter_snoc_yes (l : List ByteArray) (r s : ByteArray) (h : s ≠ r) : (l ++ [s]).filter (fun s => !decide (s = r)) = l.filter (fun s => !decide (s = r)) ++ [s] := by
  rw [List.filter_append]; simp [h]
theorem filter_snoc_no (l : List ByteArray) (r s : ByteArray) (h : s = r) : (l ++ [s]).filter (fun s => !decide (s = r)) = l.filter (fun s => !decide (s = r)) := by
  rw [List.filter_append]; simp [h]
theorem anyN_snoc (K : List ByteArray) (s x : ByteArray) : (K ++ [x]).any (fun y => decide (y = s)) = (K.any (fun y => decide (y = s)) || decide (x = s)) := by
  rw [List.any_append]; simp
theorem anyN_in (K : List ByteArray) (s : ByteArray) : K.any (fun y => decide (y = s)) = inB s K := by
  rw [Bool.eq_iff_iff, inB_iff]; simp
end Go.Proofs.YtkgnapojkijbgaaGreat
/- The contract of config's statements' own count of routes. -/
namespace Go.Proofs.YtkgnapojkijbgaaGreat
open Go.RowKit

def ManyP10 (q : RtAt) (m : Nat) (w : World) (e : Ending) (w' : World) : Prop :=
  ∃ z : Nat, e = .returned (.int .i64 (z : Int)) ∧ 1 ≤ z ∧ z ≤ m + 1 ∧ (z ≤ m → z = q.n.count) ∧ Below w.heap.size w w'

set_option maxHeartbeats 6400000 in
set_option maxRecDepth 100000 in
theorem many10_any {w0 : World} {q : RtAt} (h : q.ok w0) : ∀ (w : World) (m : Nat), Below w0.heap.size w0 w → m ≤ 1000 → Calls Tryz.prog 14 #[.agg (tCells q), .int .i64 (m : Int)] w (ManyP10 q m w) := by
  induction h with
  | flat q h0 h1 =>
    intro w m _ hm
    have hb := (Below.refl w.heap.size w).alloc (Nat.le_refl _) (.cells (tCells q) 27)
    have hB := Blk.new w 27 (tCells q)
    have hc : q.n.count = 1 := by rw [Rt.count_eq, h1]; rfl
    have hz : q.n.kids.length = 0 := by rw [h1]; rfl
    have HB := Lib.hid hb
    have HC := Lib.hid hc
    have HZ := Lib.hid hz
    clear hb hc h0 h1 hz
    obtain ⟨n, ma, mc, ba, bc, ua, uc, ka, kc⟩ := q
    simp only [tCells] at *
    go_enter Tryz.func14, Tryz.ntmps14
    go_upto_region 1 with fail
    generalize w.alloc (.cells #[.string n.recv, .slice ma n.ms.length mc, .slice ba n.bys.length bc, .int .i64 n.wait, .int .i64 n.every, .int .i64 n.rep, .slice ua n.mute.length uc, .bool n.on, .slice ka n.kids.length kc] 27) = wx at *
    obtain ⟨c0, c1, c2, c3, c4, c5, c6, c7, c8⟩ := hB.cells9
    have hz := HZ.out
    go_wp2_with fail
    refine wp_loop_rounds 1 ?_
    rw [rounds_succ]
    go_wp2_with fail
    go_ret
    exact ⟨1, rfl, by omega, by omega, fun _ => HC.out.symm, HB.out⟩
  | row q b off R h0 h1 h2 h3 h4 h5 ih =>
    intro w m hw hm
    have hb := (Below.refl w.heap.size w).alloc (Nat.le_refl _) (.cells (tCells q) 27)
    have hB := Blk.new w 27 (tCells q)
    have hl := h0.2
    have H3 := Lib.hid h3
    have H4 := Lib.hid h4
    have IH := Lib.hid ih
    have HB := Lib.hid hb
    have HW := Lib.hid hw
    have hcnt := Rt.count_eq q.n
    have HCN := Lib.hid hcnt
    clear h0 h2 h3 h4 h5 ih hw hcnt
    obtain ⟨n, ma, mc, ba, bc, ua, uc, ka, kc⟩ := q
    simp only [tCells] at *
    subst h1
    unfold maxLen at hl
    have lic := hl.1
    have lic2 := hl.2
    go_enter Tryz.func14, Tryz.ntmps14
    go_upto_region 1 with fail
    have HW1 := Lib.hid (HW.out.trans (hb.mono HW.out.size))
    generalize w.alloc (.cells #[.string n.recv, .slice ma n.ms.length mc, .slice ba n.bys.length bc, .int .i64 n.wait, .int .i64 n.every, .int .i64 n.rep, .slice ua n.mute.length uc, .bool n.on, .slice (some ⟨b, off, none⟩) n.kids.length kc] 27) = wx at *
    obtain ⟨c0, c1, c2, c3, c4, c5, c6, c7, c8⟩ := hB.cells9
    clear hb
    go_wp2_with fail
    go_loopg [11, 5, 7] n.kids.length (fun gg iv kv _ wr => ∃ k z : Nat, k + gg = n.kids.length ∧ iv = .int .i64 k ∧ kv = .int .i64 z ∧ 1 ≤ z ∧ z ≤ m + 1 ∧ (z ≤ m → z = 1 + countRs (n.kids.take k)) ∧ Below wx.heap.size wx wr)
    case atStart => exact ⟨0, 1, by omega, rfl, rfl, by omega, by omega, fun _ => by simp [countRs], Below.refl _ _⟩
    case round =>
      obtain ⟨k, z, hkg, rfl, rfl, hz1, hzm, hzc, hbr⟩ := hrel
      have HZ := Lib.hid hzc
      have HBR := Lib.hid hbr
      clear hzc hbr
      cases gk with
      | zero =>
        obtain rfl : k = n.kids.length := by omega
        go_wp2_with fail
        go_ret
        exact ⟨z, rfl, by omega, by omega, fun h => by rw [HCN.out, HZ.out h, List.take_length], bthen HB.out HBR.out⟩
      | succ gg =>
        have hkl : k < n.kids.length := by omega
        have hrn := H3.out k hkl
        have hrl := (H4.out k hkl).call (HW1.out)
        obtain ⟨e0, e1, e2, e3, e4, e5, e6, e7, e8⟩ := hrl.call HBR.out
        have hct := countRs_take n.kids k hkl
        rw [← hrn] at hct
        have hih := IH.out k hkl (wr.alloc (.cells (tCells (R k)) 27)) (m - z) (HW1.out.trans ((HBR.out.mono HW1.out.size).trans (((Below.refl wr.heap.size wr).alloc (Nat.le_refl _) _).mono (Nat.le_trans HW1.out.size HBR.out.size)))) (by omega)
        have hbn := (Below.refl wr.heap.size wr).alloc (Nat.le_refl _) (.cells (tCells (R k)) 27)
        obtain ⟨f0, f1, f2, f3, f4, f5, f6, f7, f8⟩ := (Blk.new wr 27 (tCells (R k))).cells9
        have HIH := Lib.hid hih
        have HBN := Lib.hid hbn
        have HCT := Lib.hid hct
        clear hrn hrl hct hih hbn H3 H4 IH
        generalize R k = r at *
        obtain ⟨r, ma', mc', ba', bc', ua', uc', ka', kc'⟩ := r
        simp only [tCells] at *
        by_cases hzm2 : z ≤ m
        case neg =>
          go_wp2_with fail
          go_ret
          exact ⟨z, rfl, by omega, by omega, fun h => by omega, bthen HB.out (bthen HBR.out HBN.out)⟩
        case pos =>
          have hsub : ((m - z : Nat) : Int) = (m : Int) - (z : Int) := by omega
          rw [hsub] at HIH
          clear hsub
          go_wp2_with (go_at_call 14; refine HIH.out.mono ?_; rintro e w3 ⟨y, rfl, hy1, hy2, hy3, hb3⟩)
          go_roundg gg
          case measure => omega
          case rel => exact ⟨k + 1, z + y, by omega, by go_num, by go_num, by omega, by omega, fun h => by rw [HCT.out, ← hy3 (by omega)]; have := HZ.out hzm2; omega, bthen HBR.out (bthen HBN.out hb3)⟩
end Go.Proofs.YtkgnapojkijbgaaGreat
/- The contract of config's statements' own measure of a configuration. -/
namespace Go.Proofs.YtkgnapojkijbgaaGreat
open Go.RowKit

/-- what is told of how much there is: where it is not too much, all of it is little -/
def BigP (k : CfA) (w : World) (e : Ending) (w' : World) : Prop := ∃ b : Bool, e = .returned (.bool b) ∧ Below w.heap.size w w' ∧ (b = false → k.rt.n.count ≤ 40 ∧ k.ru.length ≤ 18 ∧ k.re.length ≤ 18 ∧ k.ih.length ≤ 10 ∧ k.hr.length ≤ 10)
set_option maxHeartbeats 6400000 in
set_option maxRecDepth 100000 in
theorem big_any (k : CfA) (w : World) (h : k.ok w) : Calls Tryz.prog 5 #[.agg (kCells k)] w (BigP k w) := by
  have hb := (Below.refl w.heap.size w).alloc (Nat.le_refl _) (.cells (kCells k) 31)
  have hA := Blk.new w 31 (kCells k)
  have HM := Lib.hid (fun W (hW : Below w.heap.size w W) => many10_any h.2.1 W 40 hW (by omega))
  have HB := Lib.hid hb
  clear hb h
  obtain ⟨ru, ua, uc, ⟨n, ma, mc, ba, bc, ma2, mc2, ka, kc⟩, re, ra, rc, ih, ia, ic, hr, ha, hc⟩ := k
  simp only [tCells, kCells] at *
  obtain ⟨c0, c1, c2, c3, c4, c5, c6, c7, c8, c9, c10, c11, c12⟩ := hA.cells13
  go_enter Tryz.func5, Tryz.ntmps5
  go_upto_region 1 with fail
  generalize w.alloc (.cells #[.slice ua ru.length uc, .string n.recv, .slice ma n.ms.length mc, .slice ba n.bys.length bc, .int .i64 n.wait, .int .i64 n.every, .int .i64 n.rep, .slice ma2 n.mute.length mc2, .bool n.on, .slice ka n.kids.length kc, .slice ra re.length rc, .slice ia ih.length ic, .slice ha hr.length hc] 31) = wx at *
  obtain ⟨g, hg⟩ : ∃ g, w.heap.size = g := ⟨_, rfl⟩
  rw [hg] at hA c0 c1 c2 c3 c4 c5 c6 c7 c8 c9 c10 c11 c12 ⊢
  have HA := Lib.hid hA
  clear hA hg
  obtain ⟨R1, hR1⟩ : ∃ R, decide (18 < ru.length) = R := ⟨_, rfl⟩
  obtain ⟨R2, hR2⟩ : ∃ R, decide (18 < re.length) = R := ⟨_, rfl⟩
  obtain ⟨R3, hR3⟩ : ∃ R, decide (10 < ih.length) = R := ⟨_, rfl⟩
  obtain ⟨R4, hR4⟩ : ∃ R, decide (10 < hr.length) = R := ⟨_, rfl⟩
  have e1 : decide ((18 : Int) < (ru.length : Int)) = R1 := by rw [← hR1]; exact decide_eq_decide.2 (by omega)
  have e2 : decide ((18 : Int) < (re.length : Int)) = R2 := by rw [← hR2]; exact decide_eq_decide.2 (by omega)
  have e3 : decide ((10 : Int) < (ih.length : Int)) = R3 := by rw [← hR3]; exact decide_eq_decide.2 (by omega)
  have e4 : decide ((10 : Int) < (hr.length : Int)) = R4 := by rw [← hR4]; exact decide_eq_decide.2 (by omega)
  have HRR := Lib.hid (And.intro hR1 (And.intro hR2 (And.intro hR3 hR4)))
  clear hR1 hR2 hR3 hR4
  go_wp2_with (go_at_call 14; refine (HM.out _ HB.out).mono ?_; rintro e w2 ⟨z, rfl, hz1, hz2, hz3, hb2⟩; have hbe := bthen HB.out hb2; obtain ⟨d0, d1, d2, d3, d4, d5, d6, d7, d8, d9, d10, d11, d12⟩ := (HA.out.call hb2).cells13)
  all_goals
    go_ret
    refine ⟨_, rfl, hbe, fun hb => ?_⟩
    obtain ⟨q1, q2, q3, q4⟩ := HRR.out
    first
      | cases hb
      | (simp_all
         omega)
end Go.Proofs.YtkgnapojkijbgaaGreat
/- The contract of config's statements' own sign of life. -/
namespace Go.Proofs.YtkgnapojkijbgaaGreat
open Go.RowKit Go.Lib Go.Sort

def rtA : RtAt := ⟨.mk ⟨#[111, 112, 115]⟩ [] [] 0 1 1 [] false [], none, 0, none, 0, none, 0, none, 0⟩
def kA (re : List ByteArray) (a : Option Addr) (c : Nat) : CfA := ⟨[], none, 0, rtA, re, a, c, [], none, 0, [], none, 0⟩
theorem kA_sort : sortS [⟨#[111, 112, 115]⟩, ⟨#[100, 101, 118]⟩] = [⟨#[100, 101, 118]⟩, ⟨#[111, 112, 115]⟩] := by
  have h : srtB (bsOf [⟨#[111, 112, 115]⟩, ⟨#[100, 101, 118]⟩]) = [[100, 101, 118], [111, 112, 115]] := by
    simp [srtB, bsOf, List.mergeSort, List.merge, List.MergeSort.Internal.splitInTwo]
    rfl
  unfold sortS
  rw [h]
  rfl
theorem once_nil : onceS [] = true := (onceB_iff []).2 .nil
theorem once_od : onceS [⟨#[111, 112, 115]⟩, ⟨#[100, 101, 118]⟩] = true := (onceB_iff _).2 (by decide)
theorem once_do : onceS [⟨#[100, 101, 118]⟩, ⟨#[111, 112, 115]⟩] = true := (onceB_iff _).2 (by decide)
theorem kA_right (re : List ByteArray) (a : Option Addr) (c : Nat) (h1 : re = [⟨#[111, 112, 115]⟩, ⟨#[100, 101, 118]⟩] ∨ re = [⟨#[100, 101, 118]⟩, ⟨#[111, 112, 115]⟩]) : cfgC (kA re a c) = true := by
  rcases h1 with rfl | rfl
  · simp only [cfgC, kA, List.map_nil, once_nil, once_od]
    kernel_rfl
  · simp only [cfgC, kA, List.map_nil, once_nil, once_do]
    kernel_rfl
theorem right_of (k2 : CfA) (h1 : k2.ru = []) (h2 : k2.rt = rtA) (h3 : k2.re = [⟨#[100, 101, 118]⟩, ⟨#[111, 112, 115]⟩]) (h4 : k2.ih = []) (h5 : k2.hr = []) : cfgC k2 = true := by
  have h := kA_right k2.re k2.ra k2.rc (.inr h3)
  obtain ⟨ru, ua, uc, rt, re, ra, rc, ih, ia, ic, hr, ha, hc⟩ := k2
  simp only at *
  subst h1 h2 h4 h5
  exact h
theorem nil_row {A : Type} {sz : Nat} {enc : A → List Value} {ok : World → A → Prop} {w : World} : HasRow sz enc ok w none 0 ([] : List A) := ⟨Nat.le_refl _, by unfold maxLen; omega, (fun x hx => by cases hx), .inl rfl⟩
theorem nil_mats {w : World} : HasMats w none 0 [] := by
  refine ⟨Nat.le_refl _, by unfold maxLen; omega, .inl rfl⟩
theorem nil_strs {w : World} : HasStrs w none 0 [] := ⟨Nat.le_refl _, by unfold maxLen; omega, (fun x hx => by cases hx), .inl rfl⟩
theorem kA_ok (w : World) (re : List ByteArray) (a : Option Addr) (c : Nat) (h : HasStrs w a c re) : (kA re a c).ok w := by
  refine ⟨nil_row, .flat _ ⟨⟨nil_mats, nil_strs, nil_strs, ?_, ?_, ?_⟩, Nat.le_refl _, Nat.zero_le _⟩ rfl, h, nil_row, nil_row⟩
  · show (3 : Nat) ≤ 1048576
    omega
  · exact ⟨rfl, rfl, rfl⟩
  · exact ⟨Nat.zero_le _, Nat.zero_le _, Nat.zero_le _⟩
theorem kA_norm (w : World) (a : Option Addr) (c : Nat) (h : HasStrs w a c [⟨#[111, 112, 115]⟩, ⟨#[100, 101, 118]⟩]) :
    Calls Tryz.prog 7 #[.agg (kCells (kA [⟨#[111, 112, 115]⟩, ⟨#[100, 101, 118]⟩] a c))] w (fun e w' => ∃ (k2 : CfA) (b off : Nat), e = .returned (.tuple #[.agg (kCells k2), .int .i64 0]) ∧ Below w.heap.size w w' ∧ k2.ok w' ∧ k2.re = [⟨#[100, 101, 118]⟩, ⟨#[111, 112, 115]⟩] ∧ k2.ra = some ⟨b, off, none⟩ ∧ w'.cell? ⟨b, off, none⟩ = some (.string ⟨#[100, 101, 118]⟩) ∧ cfgC k2 = true) := by
  refine (cfgNormal_any _ w w.heap.size (Nat.le_refl _) (fun W hW => (kA_ok w _ a c h).call hW)).mono fun e w' ⟨hb, hh⟩ => ?_
  rcases hh with ⟨_, k2, he, hk0, h1, h2, h3, ⟨ys, h4, h5⟩, h6⟩ | ⟨hbad, _⟩
  · have hk := hk0 w' (Keep.refl (Nat.le_refl _) hb)
    have e1 : k2.ru = [] := List.Perm.eq_nil h2.1
    have e2 : ys = [] := List.Perm.eq_nil h4.1
    have e3 : k2.hr = [] := List.Perm.eq_nil h6.1
    have e4 : k2.ih = [] := by rw [h5, e2]; rfl
    have e5 : k2.re = [⟨#[100, 101, 118]⟩, ⟨#[111, 112, 115]⟩] := h3.trans kA_sort
    rcases hk.2.2.1.2.2.2 with h7 | ⟨b, off, h7, _, h8⟩
    · rw [e5] at h7
      cases h7
    · refine ⟨k2, b, off, he, hb, hk, e5, h7, ?_, right_of k2 e1 h1 e5 e4 e3⟩
      have h9 := h8 0 (by rw [e5]; simp)
      simpa [e5] using h9
  · rw [kA_right _ _ _ (.inl rfl)] at hbad
    cases hbad
set_option maxHeartbeats 6400000 in
set_option maxRecDepth 100000 in
theorem alive10_any (w : World) : Calls Tryz.prog 6 #[] w (fun e w' => e = .returned (.bool true) ∧ Below w.heap.size w w') := by
  have hb := (Below.refl w.heap.size w).alloc (Nat.le_refl _) (.cells #[.string ⟨#[111, 112, 115]⟩, .string ⟨#[100, 101, 118]⟩] 9)
  have hB := Blk.new w 9 #[.string ⟨#[111, 112, 115]⟩, .string ⟨#[100, 101, 118]⟩]
  have hn := kA_norm (w.alloc (.cells #[.string ⟨#[111, 112, 115]⟩, .string ⟨#[100, 101, 118]⟩] 9)) (some ⟨w.heap.size, 0, none⟩) 2 ⟨Nat.le_refl _, by unfold maxLen; omega, fun s hs => by
      simp at hs
      rcases hs with rfl | rfl <;> decide, .inr ⟨_, 0, rfl, hB.lt, fun i hi => by
      have : i = 0 ∨ i = 1 := by simp at hi; omega
      rcases this with rfl | rfl
      · exact hB.cell 0
      · exact hB.cell 1⟩⟩
  rw [show kCells (kA [⟨#[111, 112, 115]⟩, ⟨#[100, 101, 118]⟩] (some ⟨w.heap.size, 0, none⟩) 2) = #[.slice none 0 0, .string ⟨#[111, 112, 115]⟩, .slice none 0 0, .slice none 0 0, .int .i64 0, .int .i64 1, .int .i64 1, .slice none 0 0, .bool false, .slice none 0 0, .slice (some ⟨w.heap.size, 0, none⟩) 2 2, .slice none 0 0, .slice none 0 0] from rfl] at hn
  have HN := Lib.hid hn
  have HB := Lib.hid hb
  clear hn hb hB
  go_enter Tryz.func6, Tryz.ntmps6
  go_upto_region 2 with (go_at_call 7; refine HN.out.mono ?_; rintro e w2 ⟨⟨ru, ua, uc, ⟨n, ma, mc, ba, bc, ma2, mc2, ka, kc⟩, re, ra, rc, ih, ia, ic, hr, ha, hc⟩, b, off, rfl, hb2, hk2, hre, hra, hrc, hc2⟩; simp only at hre hra; subst hre hra)
  have hb3 := (Below.refl w2.heap.size w2).alloc (Nat.le_refl _) (.cells #[.slice ua ru.length uc, .string n.recv, .slice ma n.ms.length mc, .slice ba n.bys.length bc, .int .i64 n.wait, .int .i64 n.every, .int .i64 n.rep, .slice ma2 n.mute.length mc2, .bool n.on, .slice ka n.kids.length kc, .slice (some ⟨b, off, none⟩) 2 rc, .slice ia ih.length ic, .slice ha hr.length hc] 31)
  have hA := Blk.new w2 31 #[.slice ua ru.length uc, .string n.recv, .slice ma n.ms.length mc, .slice ba n.bys.length bc, .int .i64 n.wait, .int .i64 n.every, .int .i64 n.rep, .slice ma2 n.mute.length mc2, .bool n.on, .slice ka n.kids.length kc, .slice (some ⟨b, off, none⟩) 2 rc, .slice ia ih.length ic, .slice ha hr.length hc]
  have hr1 := (hb3.cell (World.block_lt_of_cell? _ _ hrc)).trans hrc
  have hr2 := hk2.2.2.1.1
  have HR : Hid (∀ W, (Below w2.heap.size w2 W) → Calls Tryz.prog 9 #[.agg (kCells ⟨ru, ua, uc, ⟨n, ma, mc, ba, bc, ma2, mc2, ka, kc⟩, [⟨#[100, 101, 118]⟩, ⟨#[111, 112, 115]⟩], some ⟨b, off, none⟩, rc, ih, ia, ic, hr, ha, hc⟩)] W (BoolB true W)) := fun W hW => by
    have := cfgRight_any ⟨ru, ua, uc, ⟨n, ma, mc, ba, bc, ma2, mc2, ka, kc⟩, [⟨#[100, 101, 118]⟩, ⟨#[111, 112, 115]⟩], some ⟨b, off, none⟩, rc, ih, ia, ic, hr, ha, hc⟩ W (hk2.call hW)
    rwa [hc2] at this
  have HB2 := Lib.hid (bthen HB.out hb2)
  have HB3 := Lib.hid hb3
  have hkc : kCells ⟨ru, ua, uc, ⟨n, ma, mc, ba, bc, ma2, mc2, ka, kc⟩, [⟨#[100, 101, 118]⟩, ⟨#[111, 112, 115]⟩], some ⟨b, off, none⟩, rc, ih, ia, ic, hr, ha, hc⟩ = #[.slice ua ru.length uc, .string n.recv, .slice ma n.ms.length mc, .slice ba n.bys.length bc, .int .i64 n.wait, .int .i64 n.every, .int .i64 n.rep, .slice ma2 n.mute.length mc2, .bool n.on, .slice ka n.kids.length kc, .slice (some ⟨b, off, none⟩) 2 rc, .slice ia ih.length ic, .slice ha hr.length hc] := rfl
  simp only [hkc] at HR ⊢
  clear hkc hk2 hc2 hb3 hb2 HN HB
  obtain ⟨c0, c1, c2, c3, c4, c5, c6, c7, c8, c9, c10, c11, c12⟩ := hA.cells13
  generalize w2.alloc (.cells #[.slice ua ru.length uc, .string n.recv, .slice ma n.ms.length mc, .slice ba n.bys.length bc, .int .i64 n.wait, .int .i64 n.every, .int .i64 n.rep, .slice ma2 n.mute.length mc2, .bool n.on, .slice ka n.kids.length kc, .slice (some ⟨b, off, none⟩) 2 rc, .slice ia ih.length ic, .slice ha hr.length hc] 31) = wx at *
  clear hA
  go_wp2_with (go_at_call 9; refine (HR.out _ HB3.out).mono ?_; rintro e w3 ⟨rfl, hb4⟩)
  go_ret
  exact ⟨rfl, HB2.out.trans ((HB3.out.trans (hb4.mono HB3.out.size)).mono HB2.out.size)⟩
end Go.Proofs.YtkgnapojkijbgaaGreat
/- The contract of the document's own Word of layer 6. -/
namespace Go.Proofs.YtkgnapojkijbgaaGreat
open Go.RowKit

set_option maxHeartbeats 3200000 in
theorem rbWord_any (s : ByteArray) (w : World) (hs : s.size ≤ maxLen) : Calls Tryz.prog 13 #[.string s] w (BoolS (bwC s.data.toList) w) := by
  unfold maxLen at hs
  have hl := lenB s
  by_cases hall : s.data.toList.all bwB = true
  · have hR : bwC s.data.toList = (decide (1 ≤ s.size) && decide (s.size ≤ 64)) := by unfold bwC; rw [hl, hall]; simp
    have HA := Lib.hid (bytesAll hall)
    rw [hR]
    clear hR hl hall
    by_cases h1 : 1 ≤ s.size <;> by_cases h2 : s.size ≤ 64 <;> (try omega)
    all_goals
      go_enter Tryz.func13, Tryz.ntmps13
      go_wp2
      go_loop [3, 4] (fun i _ => ∃ k : Nat, k ≤ s.size ∧ i = .int .i64 k) (fun i _ => s.size - (intOf i).toNat)
      case atStart => exact ⟨0, Nat.zero_le _, rfl⟩
      case round =>
        obtain ⟨k, hk, rfl⟩ := hrel
        by_cases hkl : k < s.size
        · have hw := HA.out k hkl
          obtain ⟨n, hn⟩ : ∃ n, s[k].toNat = n := ⟨_, rfl⟩
          simp only [bwB, decide_eq_true_eq] at hw
          rw [hn] at hw
          by_cases a1 : 97 ≤ n <;> by_cases a2 : n ≤ 122 <;> by_cases a5 : 48 ≤ n <;> by_cases a6 : n ≤ 57 <;> (try omega)
          all_goals first
            | (clear hw
               go_wp2
               go_round
               case rel => exact ⟨k + 1, by omega, by go_num⟩
               case measure => simp [intOf]; omega
               done)
            | (have h : n = 95 := by omega
               have f1 : ((n : Int) != 95) = false := by rw [h]; rfl
               clear h hw
               go_wp2
               go_round
               case rel => exact ⟨k + 1, by omega, by go_num⟩
               case measure => simp [intOf]; omega)
        · go_wp2
          go_ret
          exact ⟨by first | (simp_all; done) | (simp_all; omega), rfl⟩
  · obtain ⟨j, hj, hbad, hok⟩ := bytesNot s hall
    have hR : bwC s.data.toList = false := by unfold bwC; simp only [Bool.not_eq_true] at hall; rw [hall]; simp
    have HA := Lib.hid hok
    have HB := Lib.hid hbad
    rw [hR]
    clear hR hl hall hok hbad
    go_enter Tryz.func13, Tryz.ntmps13
    go_wp2
    go_loop [3, 4] (fun i _ => ∃ k : Nat, k ≤ j ∧ i = .int .i64 k) (fun i _ => s.size - (intOf i).toNat)
    case atStart => exact ⟨0, Nat.zero_le _, rfl⟩
    case round =>
      obtain ⟨k, hk, rfl⟩ := hrel
      by_cases hkl : k = j
      · subst hkl
        have hb := HB.out
        obtain ⟨n, hn⟩ : ∃ n, s[k].toNat = n := ⟨_, rfl⟩
        simp only [bwB, decide_eq_false_iff_not] at hb
        rw [hn] at hb
        have f1 : ((n : Int) != 95) = true := by rw [bne_iff_ne]; omega
        by_cases a1 : 97 ≤ n <;> by_cases a2 : n ≤ 122 <;> by_cases a5 : 48 ≤ n <;> by_cases a6 : n ≤ 57 <;> (try omega)
        all_goals
          clear hb
          go_wp2
          go_ret
          exact ⟨rfl, rfl⟩
      · have hw := HA.out k (by omega)
        have hkz : k < s.size := by omega
        obtain ⟨n, hn⟩ : ∃ n, (s[k]'hkz).toNat = n := ⟨_, rfl⟩
        simp only [bwB, decide_eq_true_eq] at hw
        rw [hn] at hw
        by_cases a1 : 97 ≤ n <;> by_cases a2 : n ≤ 122 <;> by_cases a5 : 48 ≤ n <;> by_cases a6 : n ≤ 57 <;> (try omega)
        all_goals first
          | (clear hw
             go_wp2
             go_round
             case rel => exact ⟨k + 1, by omega, by go_num⟩
             case measure => simp [intOf]; omega
             done)
          | (have h : n = 95 := by omega
             have f1 : ((n : Int) != 95) = false := by rw [h]; rfl
             clear h hw
             go_wp2
             go_round
             case rel => exact ⟨k + 1, by omega, by go_num⟩
             case measure => simp [intOf]; omega)

end Go.Proofs.YtkgnapojkijbgaaGreat
