/- Sets of labels: what several laws take. -/
import Derived.Test.YtjigdmmlgddgpabLabX
import Derived.Deep.RegionHeld3
namespace Go.Proofs.Ytjigdmmlgddgpab
open Go.RowKit

theorem str_empty (s : ByteArray) : s.toList.isEmpty = decide (s = ⟨#[]⟩) := by
  rw [ByteArray.toList_eq, Bool.eq_iff_iff, decide_eq_true_iff, List.isEmpty_iff]
  constructor
  · intro h
    apply bytes_ext
    rw [h]
  · intro h; rw [h]

theorem owns_later {w w1 : World} {base e size n : Nat} {v : Value} {xs : List Value} (h : w.ownsRow base e size v n xs) (hb : Below w.heap.size w w1) : w1.ownsRow base e size v n xs :=
  h.kept (row := none) ⟨hb.os, hb.tape, hb.output, hb.size, fun k hk _ => hb.block k hk⟩ (by cases v.ownBlock <;> simp)
theorem HasLabs.drop {w : World} {b off c : Nat} {ls : List Lab} (h : HasLabs w (Option.some ⟨b, off, none⟩) c ls) (r : Nat) (hr : r < ls.length) : HasLabs w (Option.some ⟨b, off + r * 2, none⟩) (c - r) (ls.drop r) := by
  obtain ⟨h1, h2, h3, h4⟩ := h
  refine ⟨by rw [List.length_drop]; omega, by omega, fun l hl => h3 l (List.mem_of_mem_drop hl), .inr ?_⟩
  rcases h4 with rfl | ⟨b', off', hb', hlt, hc⟩
  · cases hr
  · simp only [Option.some.injEq, Addr.mk.injEq] at hb'
    obtain ⟨rfl, rfl, _⟩ := hb'
    refine ⟨b, off + r * 2, rfl, hlt, fun i hi => ?_⟩
    rw [List.length_drop] at hi
    obtain ⟨k1, k2⟩ := hc (r + i) (by omega)
    rw [List.getElem_drop]
    exact ⟨by rw [show off + r * 2 + i * 2 = off + (r + i) * 2 by omega]; exact k1, by rw [show off + r * 2 + i * 2 + 1 = off + (r + i) * 2 + 1 by omega]; exact k2⟩
theorem HasLabs.take {w : World} {b off c : Nat} {ls : List Lab} (h : HasLabs w (Option.some ⟨b, off, none⟩) c ls) (r : Nat) (hr : r < ls.length) : HasLabs w (Option.some ⟨b, off, none⟩) c (ls.take r) := by
  obtain ⟨h1, h2, h3, h4⟩ := h
  refine ⟨by rw [List.length_take]; omega, h2, fun l hl => h3 l (List.mem_of_mem_take hl), .inr ?_⟩
  rcases h4 with rfl | ⟨b', off', hb', hlt, hc⟩
  · cases hr
  · refine ⟨b', off', hb', hlt, fun i hi => ?_⟩
    rw [List.length_take] at hi
    rw [List.getElem_take]
    exact hc i (by omega)
theorem run_from (w : World) (b off n q r : Nat) (hr : r < n) (hq : n ≤ q) :
    (Instr.slice 22 (.slice (some ⟨b, off, none⟩) n q) (some (.int .i64 (r : Int))) none none).run Try.prog w = .ok (.slice (some ⟨b, off + r * 2, none⟩) (n - r) (q - r)) w := by
  have he : Try.prog.elem 22 = 37 := by kernel_rfl
  have ht : Try.prog.underlying 22 = some (.slice (Try.prog.elem 22)) := by rw [he]; exact Try.underlying22
  rw [run_slice_l (P := Try.prog) w 22 (some ⟨b, off, none⟩) n q ht .i64 (r : Int) (by omega) (by omega)]
  have hs : (sizeOf (Try.prog.elem 22)).run Try.prog w = .ok 2 w := by rw [he]; exact Try.sizeOf37 w
  rw [hs]
  have : q ≠ r := by omega
  simp [Result.andThen, sliced, this, Addr.add]
theorem run_upto (w : World) (b off n q r : Nat) (hr : r < n) (hq : n ≤ q) :
    (Instr.slice 22 (.slice (some ⟨b, off, none⟩) n q) none (some (.int .i64 (r : Int))) none).run Try.prog w = .ok (.slice (some ⟨b, off, none⟩) r q) w := by
  have he : Try.prog.elem 22 = 37 := by kernel_rfl
  have ht : Try.prog.underlying 22 = some (.slice (Try.prog.elem 22)) := by rw [he]; exact Try.underlying22
  rw [run_slice_h (P := Try.prog) w 22 (some ⟨b, off, none⟩) n q ht .i64 (r : Int) (by omega) (by omega)]
  have hs : (sizeOf (Try.prog.elem 22)).run Try.prog w = .ok 2 w := by rw [he]; exact Try.sizeOf37 w
  rw [hs]
  have : q ≠ 0 := by omega
  simp [Result.andThen, sliced, this, Addr.add]
theorem OwnL.empty (T : TypeId) (w : World) : OwnL T (w.alloc (.cells #[] T)) w.heap.size (.slice (some ⟨w.heap.size, 0, none⟩) 0 0) [] :=
  World.ownsRow_made w #[] 0 (Nat.le_refl _) (by unfold maxLen; omega) (by simp)
/-- an append of another row, in a region that draws its order -/
theorem step_appL {P : Program} (W : World) {ops : Array Oper} {o : Oper} {a : Act} {K : Act → World → Prop} {Q : Exit → Act → World → Prop} {E : Prop} (hgd : o.guard = none) (s x : Operand) (t : TypeId)
    (ho : o.op = .call { callee := .builtin .append, args := #[s, x], argTypes := #[t, t] })
    (base : Nat) (e : TypeId) (i : TypeInfo) (z : Value) (ht : P.underlying t = some (.slice e)) (hi : P.info? e = some i) (hz : i.zero = some z) (hsize : i.size = 2) (hby : i.bytes = 32) (hzs : z.cells.size = 2)
    (v : Value) (ls : List Lab) (hs : a.eval s = v) (hown : OwnL e W base v ls) (b : Option Addr) (c n : Nat) (ms : List Lab) (hn : n = ms.length) (hx : a.eval x = .slice b n c) (hL : HasLabs W b c ms)
    (h63 : ls.length + ms.length ≤ 1000000) (hbase : base ≤ W.heap.size)
    (h : ∀ (v' : Value) (w' : World), OwnL e w' base v' (ls ++ ms) → W.grownBy w' v.ownBlock → K (a.put o.dst v') w') :
    if Region.wanted o (yielded ops a.tmps) = true then Oper.wp P o a W K Q else E := by
  have hw : Region.wanted o (yielded ops a.tmps) = true := by simp [Region.wanted, hgd]
  rw [if_pos hw]
  subst hn
  obtain ⟨v', w', hr, h2, h3⟩ := run_append_src (P := P) W base t t o.type e i z 32 ht hi hz hby (by rw [hsize]; exact hzs) v ls.length (labsV ls) (by rw [hsize]; exact hown) (.slice b ms.length c) ms.length (labsV ms) (by rw [hsize]; exact src_labs ht hL) (by unfold maxLen; omega) (by omega) hbase
  rw [hsize] at h2
  unfold Oper.wp execOp
  simp only [ho, resolve, invoke, builtin, Sem.run_bind, Sem.run_pure, Result.andThen_ok, List.map_toArray, List.map_cons, List.map_nil, hs, hx, hr]
  refine h v' w' ?_ h3
  unfold OwnL
  rw [labsV_app, List.length_append]
  exact h2

theorem wrap64_in {x : Int} (h1 : -9223372036854775808 ≤ x) (h2 : x ≤ 9223372036854775807) : wrap64 x = x := by
  unfold wrap64
  omega
end Go.Proofs.Ytjigdmmlgddgpab
