/- Sets of labels: what several laws take. -/
import Derived.Test.YtdlhmjdjoadioabGreatDoorMg9
import Derived.Deep.RegionHeld3
import Derived.Test.YtdlhmjdjoadioabGreatDoorZLabOO
namespace Go.Proofs.YtdlhmjdjoadioabGreatDoor
open Go.RowKit

theorem str_empty (s : ByteArray) : s.toList.isEmpty = decide (s = ⟨#[]⟩) := by
  rw [ByteArray.toList_eq, Bool.eq_iff_iff, decide_eq_true_iff, List.isEmpty_iff]
  constructor
  · intro h
    apply bytes_ext
    rw [h]
  · intro h; rw [h]

theorem owns_later {w w1 : World} {base e size n : Nat} {v : Value} {xs : List Value} (h : w.ownsRow base e size v n xs) (hb : Below w.heap.size w w1) : w1.ownsRow base e size v n xs :=
  h.kept (row := none) ⟨hb.os, hb.tape, hb.output, hb.size, fun k hk _ => hb.block k hk⟩ (by cases v.ownBlock <;> simp)
theorem HasLabs.drop {w : World} {b off c : Nat} {ls : List Lab} (h : HasLabs w (Option.some ⟨b, off, none⟩) c ls) (r : Nat) (hr : r < ls.length) : HasLabs w (Option.some ⟨b, off + r * 2, none⟩) (c - r) (ls.drop r) := by
  obtain ⟨h1, h2, h3, h4⟩ := h
  refine ⟨by rw [List.length_drop]; omega, by omega, fun l hl => h3 l (List.mem_of_mem_drop hl), .inr ?_⟩
  rcases h4 with rfl | ⟨b', off', hb', hlt, hc⟩
  · cases hr
  · simp only [Option.some.injEq, Addr.mk.injEq] at hb'
    obtain ⟨rfl, rfl, _⟩ := hb'
    refine ⟨b, off + r * 2, rfl, hlt, fun i hi => ?_⟩
    rw [List.length_drop] at hi
    obtain ⟨k1, k2⟩ := hc (r + i) (by omega)
    rw [List.getElem_drop]
    exact ⟨by rw [show off + r * 2 + i * 2 = off + (r + i) * 2 by omega]; exact k1, by rw [show off + r * 2 + i * 2 + 1 = off + (r + i) * 2 + 1 by omega]; exact k2⟩
theorem HasLabs.take {w : World} {b off c : Nat} {ls : List Lab} (h : HasLabs w (Option.some ⟨b, off, none⟩) c ls) (r : Nat) (hr : r < ls.length) : HasLabs w (Option.some ⟨b, off, none⟩) c (ls.take r) := by
  obtain ⟨h1, h2, h3, h4⟩ := h
  refine ⟨by rw [List.length_take]; omega, h2, fun l hl => h3 l (List.mem_of_mem_take hl), .inr ?_⟩
  rcases h4 with rfl | ⟨b', off', hb', hlt, hc⟩
  · cases hr
  · refine ⟨b', off', hb', hlt, fun i hi => ?_⟩
    rw [List.length_take] at hi
    rw [List.getElem_take]
    exact hc i (by omega)
theorem run_from (w : World) (b off n q r : Nat) (hr : r < n) (hq : n ≤ q) :
    (Instr.slice 22 (.slice (some ⟨b, off, none⟩) n q) (some (.int .i64 (r : Int))) none none).run Tryz.prog w = .ok (.slice (some ⟨b, off + r * 2, none⟩) (n - r) (q - r)) w := by
  have he : Tryz.prog.elem 22 = 60 := by kernel_rfl
  have ht : Tryz.prog.underlying 22 = some (.slice (Tryz.prog.elem 22)) := by rw [he]; exact Tryz.underlying22
  rw [run_slice_l (P := Tryz.prog) w 22 (some ⟨b, off, none⟩) n q ht .i64 (r : Int) (by omega) (by omega)]
  have hs : (sizeOf (Tryz.prog.elem 22)).run Tryz.prog w = .ok 2 w := by rw [he]; exact Tryz.sizeOf60 w
  rw [hs]
  have : q ≠ r := by omega
  simp [Result.andThen, sliced, this, Addr.add]
theorem run_upto (w : World) (b off n q r : Nat) (hr : r < n) (hq : n ≤ q) :
    (Instr.slice 22 (.slice (some ⟨b, off, none⟩) n q) none (some (.int .i64 (r : Int))) none).run Tryz.prog w = .ok (.slice (some ⟨b, off, none⟩) r q) w := by
  have he : Tryz.prog.elem 22 = 60 := by kernel_rfl
  have ht : Tryz.prog.underlying 22 = some (.slice (Tryz.prog.elem 22)) := by rw [he]; exact Tryz.underlying22
  rw [run_slice_h (P := Tryz.prog) w 22 (some ⟨b, off, none⟩) n q ht .i64 (r : Int) (by omega) (by omega)]
  have hs : (sizeOf (Tryz.prog.elem 22)).run Tryz.prog w = .ok 2 w := by rw [he]; exact Tryz.sizeOf60 w
  rw [hs]
  have : q ≠ 0 := by omega
  simp [Result.andThen, sliced, this, Addr.add]
theorem OwnL.empty (T : TypeId) (w : World) : OwnL T (w.alloc (.cells #[] T)) w.heap.size (.slice (some ⟨w.heap.size, 0, none⟩) 0 0) [] :=
  World.ownsRow_made w #[] 0 (Nat.le_refl _) (by unfold maxLen; omega) (by simp)
/-- an append of another row, in a region that draws its order -/
theorem step_appL {P : Program} (W : World) {ops : Array Oper} {o : Oper} {a : Act} {K : Act → World → Prop} {Q : Exit → Act → World → Prop} {E : Prop} (hgd : o.guard = none) (s x : Operand) (t : TypeId)
    (ho : o.op = .call { callee := .builtin .append, args := #[s, x], argTypes := #[t, t] })
    (base : Nat) (e : TypeId) (i : TypeInfo) (z : Value) (ht : P.underlying t = some (.slice e)) (hi : P.info? e = some i) (hz : i.zero = some z) (hsize : i.size = 2) (hby : i.bytes = 32) (hzs : z.cells.size = 2)
    (v : Value) (ls : List Lab) (hs : a.eval s = v) (hown : OwnL e W base v ls) (b : Option Addr) (c n : Nat) (ms : List Lab) (hn : n = ms.length) (hx : a.eval x = .slice b n c) (hL : HasLabs W b c ms)
    (h63 : ls.length + ms.length ≤ 1000000) (hbase : base ≤ W.heap.size)
    (h : ∀ (v' : Value) (w' : World), OwnL e w' base v' (ls ++ ms) → W.grownBy w' v.ownBlock → K (a.put o.dst v') w') :
    if Region.wanted o (yielded ops a.tmps) = true then Oper.wp P o a W K Q else E := by
  have hw : Region.wanted o (yielded ops a.tmps) = true := by simp [Region.wanted, hgd]
  rw [if_pos hw]
  subst hn
  obtain ⟨v', w', hr, h2, h3⟩ := run_append_src (P := P) W base t t o.type e i z 32 ht hi hz hby (by rw [hsize]; exact hzs) v ls.length (labsV ls) (by rw [hsize]; exact hown) (.slice b ms.length c) ms.length (labsV ms) (by rw [hsize]; exact src_labs ht hL) (by unfold maxLen; omega) (by omega) hbase
  rw [hsize] at h2
  unfold Oper.wp execOp
  simp only [ho, resolve, invoke, builtin, Sem.run_bind, Sem.run_pure, Result.andThen_ok, List.map_toArray, List.map_cons, List.map_nil, hs, hx, hr]
  refine h v' w' ?_ h3
  unfold OwnL
  rw [labsV_app, List.length_append]
  exact h2

theorem wrap64_in {x : Int} (h1 : -9223372036854775808 ≤ x) (h2 : x ≤ 9223372036854775807) : wrap64 x = x := by
  unfold wrap64
  omega
end Go.Proofs.YtdlhmjdjoadioabGreatDoor
/- The document's own Parse of layer 3: just the texts of sets, read as those. -/
namespace Go.Proofs.YtdlhmjdjoadioabGreatDoor
open Go.RowKit

theorem readL_suffix : ∀ (s acc v r : Bs), readL s acc = some (v, r) → (∃ p, s = p ++ r) ∧ v.length ≤ acc.length + s.length := by
  intro s acc
  induction s, acc using readL.induct with
  | case1 acc => intro v r h; cases h
  | case2 r0 acc => intro v r h; simp only [readL, Option.some.injEq, Prod.mk.injEq] at h; obtain ⟨rfl, rfl⟩ := h; exact ⟨⟨[34], rfl⟩, by omega⟩
  | case3 acc => intro v r h; simp [readL] at h
  | case4 d r0 acc ih =>
    intro v r h
    rw [readL] at h
    obtain ⟨⟨p, hp⟩, h2⟩ := ih v r h
    exact ⟨⟨92 :: d :: p, by rw [hp]; rfl⟩, by simp at h2 ⊢; omega⟩
  | case5 c r0 acc h1 h2 h3 ih =>
    intro v r h
    rw [readL] at h
    · obtain ⟨⟨p, hp⟩, h2⟩ := ih v r h
      exact ⟨⟨c :: p, by rw [hp]; rfl⟩, by simp at h2 ⊢; omega⟩
    all_goals first | exact h1 | exact h2 | exact h3
theorem rdOne_suffix {d : Bs} {l : Lab} {r : Bs} (h : rdOne d = some (l, r)) : (∃ p, d = p ++ r) ∧ l.1.size ≤ d.length ∧ l.2.size ≤ d.length := by
  unfold rdOne at h
  split at h
  · cases h
  · rename_i c q hd
    split at h
    · cases hq : readL q [] with
      | none => rw [hq] at h; cases h
      | some p =>
        rw [hq] at h
        obtain ⟨v, r'⟩ := p
        simp only [Option.map_some, Option.some.injEq, Prod.mk.injEq] at h
        obtain ⟨rfl, rfl⟩ := h
        obtain ⟨⟨p, hp⟩, hl⟩ := readL_suffix _ _ _ _ hq
        have hlen := congrArg List.length hd
        simp only [List.length_drop, List.length_cons] at hlen
        refine ⟨⟨d.take (eqAt d + 1) ++ (c :: p), ?_⟩, ?_, ?_⟩
        · rw [List.append_assoc, List.cons_append, ← hp, ← hd, List.take_append_drop]
        · simp [ByteArray.size]; omega
        · simp only [ByteArray.size, List.size_toArray]
          simp at hl
          omega
    · cases h
def refP (s : Bs) : List Lab × Bool := match parseL s with | some l => (l, true) | none => ([], false)
def LabsB (ls : List Lab) (b : Bool) (w : World) (e : Ending) (w' : World) : Prop := ∃ a c, e = .returned (.tuple #[.slice a ls.length c, .bool b]) ∧ HasLabs w' a c ls ∧ Below w.heap.size w w'
theorem labsB_nil {b : Bool} {w w' : World} (hb : Below w.heap.size w w') : LabsB [] b w (.returned (.tuple #[.slice none 0 0, .bool b])) w' := ⟨none, 0, rfl, HasLabs.nil _ _ _ (by unfold maxLen; omega), hb⟩
/-- what the loop leaves says whether the text is one -/
theorem ref_no {s : Bs} {o : Option (List Lab × Bs)} (hs : s ≠ [123, 125]) (ho : loopR 9 s [] = o) (h : ∀ ls, o = some (ls, [125]) → rightC ls = true → textL ls = s → False) : refP s = ([], false) := by
  unfold refP
  cases hp : parseL s with
  | none => rfl
  | some ls =>
    obtain ⟨h1, h2⟩ := parseL_sound hp
    have hne : ls ≠ [] := fun e => hs (by rw [← h2, e]; rfl)
    have := loopR_all h1 hne
    rw [h2, ho] at this
    exact absurd h2 (fun e => h ls this h1 e)
theorem ref_yes {s : Bs} {ls : List Lab} (h : rightC ls = true) (e : textL ls = s) : refP s = (ls, true) := by
  unfold refP
  rw [(parseL_iff s ls).2 ⟨h, e⟩]
theorem drop_back {d p r : Bs} (h : d = p ++ r) (s : ByteArray) (k : Nat) (hk : k ≤ s.size) (hd : s.data.toList.drop k = d) : s.data.toList.drop (s.size - r.length) = r ∧ r.length ≤ s.size := by
  have hl := congrArg List.length hd
  rw [h] at hl
  simp only [List.length_drop, Array.length_toList, ByteArray.size_data, List.length_append] at hl
  refine ⟨?_, by omega⟩
  have e : s.size - r.length = k + p.length := by omega
  rw [e, ← List.drop_drop, hd, h, List.drop_left]
end Go.Proofs.YtdlhmjdjoadioabGreatDoor
