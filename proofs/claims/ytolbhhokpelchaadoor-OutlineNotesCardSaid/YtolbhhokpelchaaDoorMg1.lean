/- In a region that draws its order: an append of one text, which lies in a block of memory of its own, to a row of texts. It speaks of no one program. -/
import Derived.Test.YtolbhhokpelchaaDoorOwnS
import Derived.Test.YtolbhhokpelchaaDoorStrs
import Derived.Test.YtolbhhokpelchaaDoorBlkG
import Derived.Deep.AppendLies
import Derived.RegionTactic
import Derived.BigRegion
import Derived.Deep.RegionLaw
import Derived.Test.YtolbhhokpelchaaDoorAppend
import Derived.Test.YtolbhhokpelchaaDoorPrsM
namespace Go.Proofs.YtolbhhokpelchaaDoor
open Go.RowKit

theorem bal {w W : World} {o : Obj} (h : Below w.heap.size w W) : Below w.heap.size w (W.alloc o) := h.alloc h.size _
/-- an append of one text, which lies in a block of memory of its own, to a row of texts: where the new row lies is told -/
theorem step_appT {P : Program} (W : World) {ops : Array Oper} {o : Oper} {a : Act} {K : Act → World → Prop} {Q : Exit → Act → World → Prop} {E : Prop} (hgd : o.guard = none) (s x : Operand) (t : TypeId)
    (ho : o.op = .call { callee := .builtin .append, args := #[s, x], argTypes := #[t, t] })
    (base : Nat) (e : TypeId) (i : TypeInfo) (z : Value) (ht : P.underlying t = some (.slice e)) (hi : P.info? e = some i) (hz : i.zero = some z) (hsize : i.size = 1) (hby : i.bytes = 16) (hzs : z.cells.size = 1)
    (v : Value) (ss : List ByteArray) (l : ByteArray) (hs : a.eval s = v) (hown : OwnS e W base v ss)
    (hxB : ∃ B, a.eval x = .slice (some ⟨B, 0, none⟩) 1 1 ∧ W.cell? ⟨B, 0, none⟩ = some (.string l)) (h63 : ss.length ≤ 1000000) (hbase : base ≤ W.heap.size)
    (h : ∀ (g cap : Nat) (w' : World), OwnS e w' base (.slice (some ⟨g, 0, none⟩) (ss.length + 1) cap) (ss ++ [l]) → W.grownBy w' v.ownBlock → (v.ownBlock = some g ∨ W.heap.size ≤ g) → K (a.put o.dst (.slice (some ⟨g, 0, none⟩) (ss.length + 1) cap)) w') :
    if Region.wanted o (yielded ops a.tmps) = true then Oper.wp P o a W K Q else E := by
  obtain ⟨B, hx, hB⟩ := hxB
  refine Go.step_append_lies W hgd s x t ho base e i z 1 16 ht hi hz hsize hby hzs (by omega) v ss.length (strsV ss) hs hown ⟨B, 0, none⟩ 1 1 [.string l] hx rfl ?_ ?_ (by omega) (by unfold maxLen; omega) (by omega) hbase W.heap.size rfl ?_
  · intro j u hu
    match j, hu with
    | 0, hu => simp at hu; subst hu; exact hB
  · intro u hu; simp at hu; subst hu; rfl
  · intro g cap w' h2 h3 h4 _
    refine h g cap w' ?_ h3 (h4.imp id fun e => by omega)
    unfold OwnS
    rw [← strsV_push, List.length_append]
    exact h2

theorem new0 (W : World) (l : ByteArray) (T : TypeId) : (W.alloc (.cells #[.string l] T)).cell? ⟨W.heap.size, 0, none⟩ = some (.string l) := World.cell?_alloc_mark W _ _ (0, 0) 0
theorem new1 (W : World) (l : ByteArray) (T : TypeId) (o : Obj) : ((W.alloc (.cells #[.string l] T)).alloc o).cell? ⟨W.heap.size, 0, none⟩ = some (.string l) := cellL ((Below.refl _ _).alloc (Nat.le_refl _) _) (new0 W l T)
theorem new0s (W : World) (l : ByteArray) (T : TypeId) (o : Obj) : ((W.alloc o).alloc (.cells #[.string l] T)).cell? ⟨W.heap.size + 1, 0, none⟩ = some (.string l) := by
  have := new0 (W.alloc o) l T
  rwa [World.size_alloc] at this
theorem lie8 {w W : World} {r : Option Nat} {g : Nat} (hb : Below w.heap.size w W) (h : r = some g ∨ W.heap.size ≤ g) : r = some g ∨ w.heap.size ≤ g := h.imp id (Nat.le_trans hb.size)
/-- a cell of another block than the row that was appended to -/
theorem cell_far2 {w W w2 : World} {g j : Nat} {r : Option Nat} {x : Value} (hb : Below w.heap.size w W) (hg : W.grownBy w2 r) (hne : some g ≠ r) (h : w.cell? ⟨g, j, none⟩ = some x) : w2.cell? ⟨g, j, none⟩ = some x := by
  have hlt : g < w.heap.size := World.block_lt_of_cell? w _ h
  rw [← cellL hb h]
  unfold World.cell?
  rw [hg.block g (Nat.lt_of_lt_of_le hlt hb.size) hne]
theorem cell_new2 {W w2 : World} {b : Nat} {r : Option Nat} {x : Value} (hg : W.grownBy w2 r) (hne : some b ≠ r) (h : W.cell? ⟨b, 0, none⟩ = some x) : w2.cell? ⟨b, 0, none⟩ = some x := by
  have hlt : b < W.heap.size := World.block_lt_of_cell? W _ h
  rw [← h]
  unfold World.cell?
  rw [hg.block b hlt hne]
end Go.Proofs.YtolbhhokpelchaaDoor
/- In a region that draws its order: an append of a row of texts to a slice of texts of the call's own. It speaks of no one program. -/
namespace Go.Proofs.YtolbhhokpelchaaDoor
open Go.RowKit

/-- a row of texts, as what an append is handed -/
theorem src_texts {P : Program} {t e : Nat} {w : World} {a : Option Addr} {c : Nat} {ss : List ByteArray} (hk : P.underlying t = some (.slice e)) (h : HasStrs w a c ss) : Src P 1 t (.slice a ss.length c) ss.length (strsV ss) w := by
  obtain ⟨h1, h2, h3, h4⟩ := h
  rcases h4 with rfl | ⟨b, off, rfl, hb, hc⟩
  · cases a with
    | none => exact Src.ofNil w hk c
    | some a => exact Src.ofSlice w hk a 0 c [] (by simp) (fun j u hu => by simp at hu) (fun u hu => by cases hu)
  · refine Src.ofSlice w hk ⟨b, off, none⟩ ss.length c (strsV ss) (by simp [strsV]) (fun j u hu => ?_) (fun u hu => ?_)
    · have hj : j < ss.length := by
        have := (List.getElem?_eq_some_iff.1 hu).1
        simpa [strsV] using this
      have e0 : (⟨b, off, none⟩ : Addr).add j = ⟨b, off + j, none⟩ := by unfold Addr.add; split <;> simp_all
      rw [e0, hc j hj]
      simpa [strsV, hj] using hu
    · obtain ⟨_, _, rfl⟩ := List.mem_map.1 hu
      rfl
theorem strsV_app (a b : List ByteArray) : strsV (a ++ b) = strsV a ++ strsV b := by simp [strsV]
theorem step_appS {P : Program} (W : World) {ops : Array Oper} {o : Oper} {a : Act} {K : Act → World → Prop} {Q : Exit → Act → World → Prop} {E : Prop} (hgd : o.guard = none) (s x : Operand) (t : TypeId)
    (ho : o.op = .call { callee := .builtin .append, args := #[s, x], argTypes := #[t, t] })
    (base : Nat) (e : TypeId) (i : TypeInfo) (z : Value) (ht : P.underlying t = some (.slice e)) (hi : P.info? e = some i) (hz : i.zero = some z) (hsize : i.size = 1) (hby : i.bytes = 16) (hzs : z.cells.size = 1)
    (v : Value) (ss : List ByteArray) (hs : a.eval s = v) (hown : OwnS e W base v ss) (xa : Option Addr) (xn xc : Nat) (us : List ByteArray)
    (hx : a.eval x = .slice xa xn xc) (hxn : xn = us.length) (hsrc : HasStrs W xa xc us) (h63 : ss.length + us.length ≤ 1000000) (hbase : base ≤ W.heap.size)
    (h : ∀ (v' : Value) (w' : World), OwnS e w' base v' (ss ++ us) → W.grownBy w' v.ownBlock → K (a.put o.dst v') w') :
    if Region.wanted o (yielded ops a.tmps) = true then Oper.wp P o a W K Q else E := by
  have hw : Region.wanted o (yielded ops a.tmps) = true := by simp [Region.wanted, hgd]
  rw [if_pos hw]
  subst hxn
  have hsr := src_texts (P := P) ht hsrc
  unfold OwnS at hown
  rw [← hsize] at hown hsr
  obtain ⟨v', w', hr, h2, h3⟩ := run_append_src (P := P) W base t t o.type e i z 16 ht hi hz hby (by rw [hsize]; exact hzs) v ss.length (strsV ss) hown _ us.length (strsV us) hsr (by unfold maxLen; omega) (by omega) hbase
  rw [hsize] at h2
  unfold Oper.wp execOp
  simp only [ho, resolve, invoke, builtin, Sem.run_bind, Sem.run_pure, Result.andThen_ok, List.map_toArray, List.map_cons, List.map_nil, hs, hx, hr]
  refine h v' w' ?_ h3
  unfold OwnS
  rw [strsV_app, List.length_append]
  exact h2
/-- the first texts of a row, and those behind -/
theorem hasStrs_take {w : World} {a : Option Addr} {c : Nat} {ss : List ByteArray} (h : HasStrs w a c ss) (k : Nat) (hk : k ≤ ss.length) : HasStrs w a c (ss.take k) := by
  obtain ⟨h1, h2, h3, h4⟩ := h
  refine ⟨by rw [List.length_take]; omega, h2, fun s hs => h3 s (List.mem_of_mem_take hs), ?_⟩
  rcases h4 with rfl | ⟨b, off, rfl, hb, hc⟩
  · exact .inl (by simp)
  · refine .inr ⟨b, off, rfl, hb, fun i hi => ?_⟩
    have hi' : i < ss.length := by rw [List.length_take] at hi; omega
    rw [hc i hi']; simp
theorem hasStrs_drop {w : World} {b off c c' : Nat} {ss : List ByteArray} (h : HasStrs w (some ⟨b, off, none⟩) c ss) (k : Nat) (hk : k ≤ ss.length) (hc : c' = c - k) : HasStrs w (some ⟨b, off + k, none⟩) c' (ss.drop k) := by
  obtain ⟨h1, h2, h3, h4⟩ := h
  refine ⟨by rw [List.length_drop]; omega, by omega, fun s hs => h3 s (List.mem_of_mem_drop hs), ?_⟩
  rcases h4 with rfl | ⟨b2, o2, e, hb, hc⟩
  · exact .inl (by simp)
  · cases e
    refine .inr ⟨b, off + k, rfl, hb, fun i hi => ?_⟩
    have hi' : k + i < ss.length := by rw [List.length_drop] at hi; omega
    rw [Nat.add_assoc, hc (k + i) hi']; simp
theorem OwnS.made (T : TypeId) (w : World) : OwnS T (w.alloc (.cells #[] T)) w.heap.size (.slice (some ⟨w.heap.size, 0, none⟩) 0 0) [] := by
  refine ⟨rfl, .inr ⟨w.heap.size, 0, #[], rfl, Nat.le_refl _, ?_, Nat.le_refl _, by unfold maxLen; omega, rfl, rfl⟩⟩
  show (w.heap.push _)[w.heap.size]? = _; simp
end Go.Proofs.YtolbhhokpelchaaDoor
/- Bytes and lists of bytes: small facts. Mathematics alone. -/
namespace Go.Proofs.YtolbhhokpelchaaDoor

theorem bytesA_list (l : Bs) : (bytesA l).data.toList = l := rfl
theorem bytesA_size (l : Bs) : (bytesA l).size = l.length := List.size_toArray
theorem bytesA_of (s : ByteArray) : bytesA s.data.toList = s := bytes_ext rfl
theorem leftT_len (l : Bs) : (leftT l).length ≤ l.length := (List.dropWhile_suffix _).length_le
theorem trimSuf_len (l p : Bs) : (Lib.trimSuffix l p).length ≤ l.length := by
  unfold Lib.trimSuffix
  split
  · rw [List.length_take]; omega
  · exact Nat.le_refl _
theorem trimPre_len (l p : Bs) : (Lib.trimPrefix l p).length ≤ l.length := by
  unfold Lib.trimPrefix
  split
  · rw [List.length_drop]; omega
  · exact Nat.le_refl _
end Go.Proofs.YtolbhhokpelchaaDoor
