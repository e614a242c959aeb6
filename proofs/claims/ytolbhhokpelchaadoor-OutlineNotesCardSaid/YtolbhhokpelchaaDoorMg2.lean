/- The contracts of the library's Split and TrimSuffix at the byte 10. -/
import Derived.Test.YtolbhhokpelchaaDoorZPieceB
import Derived.Test.YtolbhhokpelchaaDoorMaxC
import Derived.Test.YtolbhhokpelchaaDoorShelf
import Derived.Test.YtolbhhokpelchaaDoorMg1
namespace Go.Proofs.YtolbhhokpelchaaDoor
open Go.RowKit

theorem split_any (s : ByteArray) (w : World) (hm : MaxC w) (hs : s.size < 4294967281) : Calls Tryd.prog 18 #[.string s, .string ⟨#[10]⟩] w fun e w' => e = .returned (.slice (some ⟨w.heap.size, 0, none⟩) (piecesB 0 s).length (piecesB 0 s).length) ∧ w.alloc (.cells ((piecesB 0 s).map Value.string).toArray 9) = w' := by
  obtain ⟨m, hm⟩ := hm
  have hc : Lib.countB s ⟨#[10]⟩ = s.data.toList.count 10 := by
    show Lib.count s.data.toList [10] = _
    exact Lib.count_one _ _
  have h := Tryd.strings_Split s ⟨#[10]⟩ m w hs hm (by decide)
  rw [hc, splitB_lines 0 (by decide)] at h
  have hl : s.data.toList.count 10 + 1 = (piecesB 0 s).length := by rw [pieces_len, (lines_len _).2.2]
  rw [hl] at h
  exact h.mono fun _ _ h => ⟨h.1, h.2.symm⟩
theorem trimSuf_any (s p : ByteArray) (w : World) (hs : s.size ≤ maxLen) : Calls Tryd.prog 19 #[.string s, .string p] w fun e w' => e = .returned (.string (bytesA (Lib.trimSuffix s.data.toList p.data.toList))) ∧ w = w' :=
  (Tryd.strings_TrimSuffix s p w (by unfold maxLen at hs; omega)).mono fun _ _ h => ⟨h.1, h.2.symm⟩
end Go.Proofs.YtolbhhokpelchaaDoor
/- The library's HasSuffix and Join, and an append of one text to a row that has just been made. -/
namespace Go.Proofs.YtolbhhokpelchaaDoor
open Go.RowKit

theorem hasSuf_any (s p : ByteArray) (w : World) (hs : s.size ≤ maxLen) : Calls Tryd.prog 22 #[.string s, .string p] w (BoolS (Lib.hasSuffix s.data.toList p.data.toList) w) :=
  (Tryd.strings_HasSuffix s p w (by unfold maxLen at hs; omega)).mono fun _ _ h => ⟨h.1, h.2.symm⟩

theorem join_any (xs : List ByteArray) (W : World) (a : Option Addr) (c : Nat) (h : HasStrs W a c xs) (hne : xs ≠ []) (hlen : (Lib.join (xs.map (·.data.toList)) [10]).length ≤ 6100) (hx : xs.length ≤ 100000) :
    Calls Tryd.prog 23 #[.slice a xs.length c, .string ⟨#[10]⟩] W fun e w' => e = .returned (.string (bytesA (Lib.join (xs.map (·.data.toList)) [10]))) ∧ Below W.heap.size W w' := by
  obtain ⟨h1, h2, h3, h4⟩ := h
  rcases h4 with rfl | ⟨b, off, rfl, hb, hc⟩
  · exact absurd rfl hne
  · exact Tryd.strings_Join b off c xs ⟨#[10]⟩ W (fun j x hj => by
      obtain ⟨hl, rfl⟩ := List.getElem?_eq_some_iff.1 hj
      exact hc j hl) hb (by omega) h1 (Nat.le_trans hlen (by decide))
theorem OwnS.made2 (T : TypeId) (w : World) (o : Obj) : OwnS T ((w.alloc o).alloc (.cells #[] T)) w.heap.size (.slice (some ⟨w.heap.size + 1, 0, none⟩) 0 0) [] := by
  refine ⟨rfl, .inr ⟨w.heap.size + 1, 0, #[], rfl, Nat.le_succ _, ?_, Nat.le_refl _, by unfold maxLen; omega, rfl, rfl⟩⟩
  show ((w.heap.push _).push _)[w.heap.size + 1]? = _
  rw [show w.heap.size + 1 = (w.heap.push o).size by simp]
  exact Array.getElem?_push_size
theorem step_appT2 {P : Program} (W : World) {ops : Array Oper} {o : Oper} {a : Act} {K : Act → World → Prop} {Q : Exit → Act → World → Prop} {E : Prop} (hgd : o.guard = none) (s x : Operand) (t : TypeId)
    (ho : o.op = .call { callee := .builtin .append, args := #[s, x], argTypes := #[t, t] })
    (base : Nat) (e : TypeId) (i : TypeInfo) (z : Value) (ht : P.underlying t = some (.slice e)) (hi : P.info? e = some i) (hz : i.zero = some z) (hsize : i.size = 1) (hby : i.bytes = 16) (hzs : z.cells.size = 1)
    (v : Value) (ss : List ByteArray) (l : ByteArray) (hs : a.eval s = v) (hown : OwnS e W base v ss)
    (hxB : ∃ B, a.eval x = .slice (some ⟨B, 0, none⟩) 1 1 ∧ W.cell? ⟨B, 0, none⟩ = some (.string l)) (h63 : ss.length ≤ 1000000) (hbase : base ≤ W.heap.size)
    (h : ∀ (v' : Value) (w' : World), OwnS e w' base v' (ss ++ [l]) → W.grownBy w' v.ownBlock → K (a.put o.dst v') w') :
    if Region.wanted o (yielded ops a.tmps) = true then Oper.wp P o a W K Q else E :=
  step_appT W hgd s x t ho base e i z ht hi hz hsize hby hzs v ss l hs hown hxB h63 hbase (fun _ _ w' h1 h2 _ => h _ w' h1 h2)
theorem bal2 {w W : World} {o : Obj} (h : Below w.heap.size w W) : Below w.heap.size w (W.alloc o) := h.alloc h.size _

end Go.Proofs.YtolbhhokpelchaaDoor
