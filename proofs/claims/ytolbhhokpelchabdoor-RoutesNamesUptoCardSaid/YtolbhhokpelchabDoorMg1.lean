/- A row of texts, each of them once: mathematics. It speaks of no program. -/
import Derived.Test.YtolbhhokpelchabDoorLabM
import Derived.Test.YtolbhhokpelchabDoorRteA
import Derived.Test.YtolbhhokpelchabDoorInfo
import Derived.Maps.Own
import Derived.Maps.OwnSet
import Derived.StringKeys
namespace Go.Proofs.YtolbhhokpelchabDoor

def stepO (K : List ByteArray) (s : ByteArray) : List ByteArray := if K.any (fun x => decide (x = s)) then K else K ++ [s]
/-- each once, in the order in which they come first -/
def onceL (L : List ByteArray) : List ByteArray := L.foldl stepO []
theorem onceL_snoc (L : List ByteArray) (s : ByteArray) : onceL (L ++ [s]) = stepO (onceL L) s := by simp [onceL]
theorem rev_ind {P : List ByteArray → Prop} (h0 : P []) (h1 : ∀ L s, P L → P (L ++ [s])) (L : List ByteArray) : P L := by
  have : ∀ n, ∀ L : List ByteArray, L.length = n → P L := by
    intro n
    induction n with
    | zero => intro L h; rw [List.eq_nil_of_length_eq_zero h]; exact h0
    | succ n ih =>
      intro L h
      have hne : L ≠ [] := fun e => by rw [e] at h; simp at h
      rw [← List.dropLast_concat_getLast hne]
      exact h1 _ _ (ih _ (by simp [h]))
  exact this _ L rfl
theorem any_mem (K : List ByteArray) (s : ByteArray) : K.any (fun x => decide (x = s)) = true ↔ s ∈ K := by
  simp
theorem mem_once (L : List ByteArray) (x : ByteArray) : x ∈ onceL L ↔ x ∈ L := by
  induction L using rev_ind with
  | h0 => simp [onceL]
  | h1 L s ih =>
    rw [onceL_snoc]
    unfold stepO
    by_cases h : s ∈ onceL L
    · rw [if_pos ((any_mem _ _).2 h)]
      rw [List.mem_append, List.mem_singleton, ih]
      constructor
      · exact .inl
      · rintro (h' | rfl)
        · exact h'
        · exact ih.1 h
    · rw [if_neg (fun e => h ((any_mem _ _).1 e)), List.mem_append, List.mem_append, ih]
theorem once_len (L : List ByteArray) : (onceL L).length ≤ L.length := by
  induction L using rev_ind with
  | h0 => simp [onceL]
  | h1 L s ih =>
    rw [onceL_snoc]
    unfold stepO
    split
    · simp; omega
    · simp; omega
/-- how often a text is there -/
def cntL (L : List ByteArray) (s : ByteArray) : Nat := (L.filter fun x => decide (x = s)).length
theorem cntL_snoc (L : List ByteArray) (x s : ByteArray) : cntL (L ++ [x]) s = cntL L s + if x = s then 1 else 0 := by
  unfold cntL
  rw [List.filter_append, List.length_append]
  by_cases h : x = s <;> simp [h]
theorem cntL_len (L : List ByteArray) (s : ByteArray) : cntL L s ≤ L.length := List.length_filter_le _ _
theorem cntL_zero (L : List ByteArray) (s : ByteArray) : cntL L s = 0 ↔ s ∉ L := by
  unfold cntL
  rw [List.length_eq_zero_iff, List.filter_eq_nil_iff]
  constructor
  · intro h hm
    exact h s hm (by simp)
  · intro h x hx
    simp only [decide_eq_true_eq]
    rintro rfl
    exact h hx
theorem once_new {L : List ByteArray} {s : ByteArray} (h : cntL L s = 0) : onceL (L ++ [s]) = onceL L ++ [s] := by
  rw [onceL_snoc]
  unfold stepO
  have : s ∉ onceL L := fun hm => (cntL_zero L s).1 h ((mem_once L s).1 hm)
  rw [if_neg (fun e => this ((any_mem _ _).1 e))]
theorem once_old {L : List ByteArray} {s : ByteArray} (h : cntL L s ≠ 0) : onceL (L ++ [s]) = onceL L := by
  rw [onceL_snoc]
  unfold stepO
  have : s ∈ onceL L := (mem_once L s).2 (Classical.byContradiction fun hm => h ((cntL_zero L s).2 hm))
  rw [if_pos ((any_mem _ _).2 this)]
/-- what all of some routes tell -/
def tellL (T : Rt → List ByteArray) (xs : List Rt) : List ByteArray := xs.flatMap T
theorem tellL_snoc (T : Rt → List ByteArray) (xs : List Rt) (x : Rt) : tellL T (xs ++ [x]) = tellL T xs ++ T x := by simp [tellL]
theorem tellL_len (T : Rt → List ByteArray) (m : Nat) (h : ∀ x, (T x).length ≤ m) (xs : List Rt) : (tellL T xs).length ≤ xs.length * m := by
  induction xs with
  | nil => simp [tellL]
  | cons x xs ih =>
    have e : tellL T (x :: xs) = T x ++ tellL T xs := rfl
    have := h x
    rw [e, List.length_append, List.length_cons, Nat.succ_mul]
    omega
end Go.Proofs.YtolbhhokpelchabDoor
/- What the two closures of routes.Names tell of a route: its receiver, and its words of hours. -/
namespace Go.Proofs.YtolbhhokpelchabDoor
open Go.RowKit

/-- the texts lie in memory as it was at first, or there is just one -/
def TellP (w0 : World) (T : List ByteArray) (w : World) (e : Ending) (w' : World) : Prop := ∃ a c, e = .returned (.slice a T.length c) ∧ HasStrs w' a c T ∧ (HasStrs w0 a c T ∨ T.length = 1) ∧ Below w.heap.size w w'
def recvT (n : Rt) : List ByteArray := [n.recv]
def muteT (n : Rt) : List ByteArray := n.mute
set_option maxHeartbeats 1600000 in
set_option maxRecDepth 100000 in
theorem names1_any (w0 : World) (q : RtAt) (w : World) (h : q.own w0) (_ : Below w0.heap.size w0 w) : Calls Tryd.prog 37 #[.agg (tCells q)] w (TellP w0 (recvT q.n) w) := by
  have hb := (Below.refl w.heap.size w).alloc (Nat.le_refl _) (.cells (tCells q) 26)
  have hB := Blk.new w 26 (tCells q)
  have hs := h.2.2.2.1
  have HB := Lib.hid hb
  clear hb h
  obtain ⟨n, ma, mc, ba, bc, ua, uc, ka, kc⟩ := q
  simp only [tCells] at *
  go_enter Tryd.func37, Tryd.ntmps37
  go_upto_region 1 with fail
  generalize w.alloc (.cells #[.string n.recv, .slice ma n.ms.length mc, .slice ba n.bys.length bc, .int .i64 n.wait, .int .i64 n.every, .int .i64 n.rep, .slice ua n.mute.length uc, .bool n.on, .slice ka n.kids.length kc] 26) = wx at *
  obtain ⟨c0, c1, c2, c3, c4, c5, c6, c7, c8⟩ := hB.cells9
  have hn := (Blk.new wx 9 #[.string n.recv]).cell 0
  have hba := HB.out.alloc HB.out.size (.cells #[.string n.recv] 9)
  have HN := Lib.hid hn
  have HA := Lib.hid hba
  clear hn hba
  go_wp2_with fail
  go_ret
  refine ⟨_, _, rfl, ⟨by simp [recvT], by unfold maxLen; omega, ?_, .inr ⟨_, 0, rfl, by simp, ?_⟩⟩, .inr rfl, HA.out⟩
  · intro s hs'
    simp only [recvT, List.mem_singleton] at hs'
    subst hs'
    unfold maxLen; omega
  · intro i hi
    simp only [recvT, List.length_singleton] at hi
    obtain rfl : i = 0 := by omega
    exact HN.out
set_option maxHeartbeats 1600000 in
set_option maxRecDepth 100000 in
theorem names2_any (w0 : World) (q : RtAt) (w : World) (h : q.own w0) (hw : Below w0.heap.size w0 w) : Calls Tryd.prog 38 #[.agg (tCells q)] w (TellP w0 (muteT q.n) w) := by
  have hb := (Below.refl w.heap.size w).alloc (Nat.le_refl _) (.cells (tCells q) 26)
  have hB := Blk.new w 26 (tCells q)
  have hs := (h.2.2.1.call hw).call hb
  have hs0 := h.2.2.1
  have HB := Lib.hid hb
  have HS := Lib.hid hs
  have HS0 := Lib.hid hs0
  clear hb h hs hs0
  obtain ⟨n, ma, mc, ba, bc, ua, uc, ka, kc⟩ := q
  simp only [tCells] at *
  go_enter Tryd.func38, Tryd.ntmps38
  go_upto_region 1 with fail
  generalize w.alloc (.cells #[.string n.recv, .slice ma n.ms.length mc, .slice ba n.bys.length bc, .int .i64 n.wait, .int .i64 n.every, .int .i64 n.rep, .slice ua n.mute.length uc, .bool n.on, .slice ka n.kids.length kc] 26) = wx at *
  obtain ⟨c0, c1, c2, c3, c4, c5, c6, c7, c8⟩ := hB.cells9
  go_wp2_with fail
  go_ret
  exact ⟨_, _, rfl, HS.out, .inl HS0.out, HB.out⟩
end Go.Proofs.YtolbhhokpelchabDoor
/- A map of texts by how often they came, of the call's own. -/
namespace Go.Proofs.YtolbhhokpelchabDoor
open Go.RowKit Go.Maps Go.WideMaps

theorem keyC : Keyed Tryd.prog 9 := string_keyed Tryd.underlying9
def litC (s : ByteArray) : Lit := .string s.data.toList
theorem litC_inj {s t : ByteArray} (h : litC s = litC t) : s = t := by
  simp only [litC, Lit.string.injEq] at h
  exact bytes_ext (by simpa using h)
theorem litC_key (s : ByteArray) : WideAt.IsKeyLit (litC s) := trivial
/-- the map at b has for each text how often it is in L -/
def CntIs (w : World) (b : Nat) (L : List ByteArray) : Prop := ∃ D : DataW Unit, w.ownsMap Tryd.prog 9 (plainElem Tryd.prog 3) b L.length D ∧ Maps.Tidy D ∧
  ∀ s, D.atKey (litC s) (.lit (.int .i64 0)) = .lit (.int .i64 (cntL L s))
theorem CntIs.call {w w1 : World} {b : Nat} {L : List ByteArray} (h : CntIs w b L) (hb : Below w.heap.size w w1) : CntIs w1 b L := by
  obtain ⟨D, h1, h2⟩ := h
  exact ⟨D, h1.kept (row := none) ⟨hb.os, hb.tape, hb.output, hb.size, fun k hk _ => hb.block k hk⟩ (by simp), h2⟩
theorem CntIs.kept {w w1 : World} {b : Nat} {L : List ByteArray} {row : Option Nat} (h : CntIs w b L) (hg : w.grownBy w1 row) (hne : some b ≠ row) : CntIs w1 b L := by
  obtain ⟨D, h1, h2⟩ := h
  exact ⟨D, h1.kept hg hne, h2⟩
theorem CntIs.lt {w : World} {b : Nat} {L : List ByteArray} (h : CntIs w b L) : b < w.heap.size := by
  obtain ⟨D, h1, _⟩ := h
  exact h1.lt
theorem CntIs.made (w : World) : CntIs (w.alloc (.map #[] 0)) w.heap.size [] :=
  ⟨.map [], World.ownsMap_made _ _ _ _, Maps.tidy_empty, fun _ => rfl⟩
theorem zeroI (w : World) : (zeroValue 3).run Tryd.prog w = .ok (.int .i64 0) w := by kernel_rfl
theorem CntIs.look {w : World} {b : Nat} {L : List ByteArray} (h : CntIs w b L) (s : ByteArray) (hs : s.size ≤ maxLen) :
    (Instr.lookup 77 (.map (some b)) (.string s) false).run Tryd.prog w = .ok (.int .i64 (cntL L s : Nat)) w := by
  obtain ⟨D, h1, h2, h5⟩ := h
  obtain ⟨c, hrun, hv, _⟩ := h1.lookup_int keyC Tryd.underlying77 Tryd.underlying3 (zeroI w) (keyOf_string_mk Tryd.underlying9 hs)
  have hat : D.atKey (Lit.string s.data.toList) (.lit (.int .i64 0)) = .lit (.int .i64 (cntL L s)) := h5 s
  rw [hat] at hv
  simp only [DataW.lit.injEq, Lit.int.injEq, true_and] at hv
  rw [hrun, ← hv]
theorem CntIs.put {D : DataW Unit} {w' : World} {b : Nat} {L : List ByteArray} {l : ByteArray} (h2 : Maps.Tidy D)
    (h5 : ∀ s, D.atKey (litC s) (.lit (.int .i64 0)) = .lit (.int .i64 (cntL L s)))
    (h' : w'.ownsMap Tryd.prog 9 (plainElem Tryd.prog 3) b (L.length + 1) (D.put (litC l) (.lit (.int .i64 ((cntL L l : Nat) + 1 : Int))))) : CntIs w' b (L ++ [l]) := by
  refine ⟨_, by rw [List.length_append]; exact h', h2.put (litC_key l) _, fun s => ?_⟩
  rw [cntL_snoc]
  by_cases h : l = s
  · subst h
    rw [Maps.atKey_put_same h2.isMap (litC_key l), if_pos rfl]
    simp
  · rw [Maps.atKey_put_other (fun e => h (litC_inj e).symm), h5, if_neg h]
    simp
set_option maxRecDepth 100000 in
theorem wpList_putC (w : World) {ops : Array Oper} {rest : List Oper} {o : Oper} {a : Act} {Q : Exit → Act → World → Prop}
    (hg : o.guard = none) (m x v : Operand) (hop : o.op = Op.mapUpdate 77 m x v) (b : Nat) (L : List ByteArray) (l : ByteArray)
    (hm : a.eval m = .map (some b)) (h : CntIs w b L) (hK1 : L.length ≤ 1000000000) (hx : a.eval x = .string l) (hv : a.eval v = .int .i64 ((cntL L l : Nat) + 1 : Int)) (hs1 : l.size ≤ maxLen)
    (hK : ∀ w', CntIs w' b (L ++ [l]) → w.grownBy w' (some b) → wpList Tryd.prog ops Q rest (a.put o.dst undef) w') :
    wpList Tryd.prog ops Q (o :: rest) a w := by
  obtain ⟨D, h1, h2, h5⟩ := h
  have hc := cntL_len L l
  refine wpList_plain hg fun K' hK' => ?_
  obtain ⟨w', hrun, r1, r2⟩ := h1.update keyC Tryd.underlying77 (by unfold maxLen; omega) (keyOf_string_mk Tryd.underlying9 hs1)
    (plainElem_int (H := Unit) Tryd.underlying3 (q := .i64) (a := ((cntL L l : Nat) + 1 : Int)) (WalkArith.wf_i64 (by omega)))
  unfold Oper.wp
  simp [execOp, hop, hm, hx, hv, hrun, Result.andThen]
  exact hK' _ _ (hK w' (CntIs.put h2 h5 r1) r2)
end Go.Proofs.YtolbhhokpelchabDoor
