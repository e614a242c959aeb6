/- What the document's own state is when a key has been put behind the others. -/
import Derived.Test.YtekcmgajjbdmgabDoorRpsE
import Derived.Deep.RegionHeld3
namespace Go.Proofs.YtekcmgajjbdmgabDoor
open Go.RowKit

/-- a store of what is there already -/
theorem setCell_same {w : World} {g i : Nat} {v : Value} (h : w.cell? ⟨g, i, none⟩ = some v) : w.setCell ⟨g, i, none⟩ v = w := by
  have e : (w.setCell ⟨g, i, none⟩ v).heap = w.heap := by
    unfold World.cell? at h
    unfold World.setCell
    apply Array.ext_getElem?
    intro k
    simp only [Array.getElem?_modify]
    split
    · rename_i hk
      subst hk
      cases hg : w.heap[g]? with
      | none => rfl
      | some o =>
        rw [hg] at h
        cases o with
        | cells cs t fr =>
          simp at h
          simp
          apply Array.ext_getElem?
          intro j
          rw [Array.getElem?_setIfInBounds]
          split
          · rename_i hj
            subst hj
            split
            · exact h.symm
            · rw [h]; rename_i hlt; rw [Array.getElem?_eq_none (by omega)] at h; cases h
          · rfl
        | _ => simp at h
    · rfl
  cases w
  simp only [World.setCell] at e ⊢
  rw [e]

theorem sat_grow {w w3 : World} {B lo g c : Nat} {init : List DefAt} {q r : DefAt} {r1 r2 : Option Nat}
    (hown : OwnD 61 w B (.slice (some ⟨g, 0, none⟩) (init.length + 1) c) (init ++ [q])) (hl1 : B ≤ lo) (hl2 : lo ≤ w.heap.size) (hrows : RowsAt w lo (init ++ [q]))
    (e1 : (Value.slice q.ka q.d.keys.length q.kc).ownBlock = r1) (e2 : (Value.slice q.va q.d.vals.length q.vc).ownBlock = r2)
    (hkp : Kp w w3 r1 r2) (hk : r.d.kind = q.d.kind) (hro : OpenAt w3 lo r) :
    SAt ((w3.setCell ⟨g, init.length * 3 + 1, none⟩ (.slice r.ka r.d.keys.length r.kc)).setCell ⟨g, init.length * 3 + 2, none⟩ (.slice r.va r.d.vals.length r.vc)) B (.slice (some ⟨g, 0, none⟩) (init.length + 1) c) ((init ++ [r]).map (·.d)) ∧
    Below B w ((w3.setCell ⟨g, init.length * 3 + 1, none⟩ (.slice r.ka r.d.keys.length r.kc)).setCell ⟨g, init.length * 3 + 2, none⟩ (.slice r.va r.d.vals.length r.vc)) := by
  have hq := hrows.2 q (by simp)
  have b1 : ∀ k, r1 = some k → lo ≤ k := fun k e => (World.ownsRow.lt hq.1 k (by rw [e1, e])).1
  have b2 : ∀ k, r2 = some k → lo ≤ k := fun k e => (World.ownsRow.lt hq.2.1 k (by rw [e2, e])).1
  have n1 := own_apart hown hq.1
  have n2 := own_apart hown hq.2.1
  rw [e1] at n1
  rw [e2] at n2
  have hown3 := (hkp.ownD hown n1 n2).setLast (r := r) hk
  have hgb : B ≤ g := (World.ownsRow.lt hown g rfl).1
  have hz := hkp.2.2.2.1
  have htag : ∃ cur, w3.heap[g]? = some (.cells cur 61 (0, 0)) := by
    have k : w3.ownsRow B 61 3 (.slice (some ⟨g, 0, none⟩) (init.length + 1) c) (init ++ [q]).length (defsV (init ++ [q])) := hkp.ownD hown n1 n2
    rcases k.2 with ⟨e, _⟩ | ⟨g', cap, cur, e, _, hg, _⟩
    · cases e
    · simp only [Value.slice.injEq, Option.some.injEq, Addr.mk.injEq] at e
      obtain ⟨⟨rfl, _⟩, _⟩ := e
      exact ⟨cur, hg⟩
  obtain ⟨cur, hcur⟩ := htag
  have htx : ∀ {a : Option Addr}, InTx w3 a → ∀ b o s, a = some ⟨b, o, s⟩ → b ≠ g := fun {a} h b o s e => by
    obtain ⟨cs, fr, hc⟩ := h b o s e
    rintro rfl
    rw [hcur] at hc
    simp at hc
  have hsame : ∀ b, b ≠ g → ((w3.setCell ⟨g, init.length * 3 + 1, none⟩ (.slice r.ka r.d.keys.length r.kc)).setCell ⟨g, init.length * 3 + 2, none⟩ (.slice r.va r.d.vals.length r.vc)).heap[b]? = w3.heap[b]? := fun b hb =>
    (Below.heap_setCell _ _ _ b hb).trans (Below.heap_setCell _ _ _ b hb)
  have hsz : ((w3.setCell ⟨g, init.length * 3 + 1, none⟩ (.slice r.ka r.d.keys.length r.kc)).setCell ⟨g, init.length * 3 + 2, none⟩ (.slice r.va r.d.vals.length r.vc)).heap.size = w3.heap.size := by simp [World.setCell]
  refine ⟨⟨init ++ [r], lo, rfl, hown3, hl1, by omega, ?_, ?_⟩, ?_⟩
  · intro x hx
    rw [List.dropLast_concat] at hx
    have hd := hkp.done hl2 b1 b2 (hrows.1 x (by rw [List.dropLast_concat]; exact hx))
    obtain ⟨⟨⟨a1, a2, a3⟩, t1, t2⟩, p1, p2⟩ := hd
    have k1 := fun b o s e => hsame b (htx t1 b o s e)
    have k2 := fun b o s e => hsame b (htx t2 b o s e)
    exact ⟨⟨⟨strs_kept a1 (by omega) k1, strs_kept a2 (by omega) k2, a3⟩, tx_kept t1 k1, tx_kept t2 k2⟩, p1, p2⟩
  · intro x hx
    rw [List.getLast?_concat] at hx
    obtain rfl := Option.some.inj hx
    have o1 := own_apart (hkp.ownD hown n1 n2) hro.1
    have o2 := own_apart (hkp.ownD hown n1 n2) hro.2.1
    have m1 : some g ≠ (Value.slice r.ka r.d.keys.length r.kc).ownBlock := by
      rcases o1 with o1 | o1
      · cases o1
      · exact o1
    have m2 : some g ≠ (Value.slice r.va r.d.vals.length r.vc).ownBlock := by
      rcases o2 with o2 | o2
      · cases o2
      · exact o2
    have st : ∀ {W : World} {v : Value} {ss : List ByteArray} (j : Nat) (u : Value), OwnS 9 W lo v ss → some g ≠ v.ownBlock → OwnS 9 (W.setCell ⟨g, j, none⟩ u) lo v ss := fun {W v ss} j u h hne =>
      World.ownsRow.kept h (grown_setCell W g j u) (.inr fun e => hne e.symm)
    exact ⟨st _ _ (st _ _ hro.1 m1) m1, st _ _ (st _ _ hro.2.1 m2) m2, hro.2.2⟩
  · exact ⟨hkp.1, hkp.2.1, hkp.2.2.1, by rw [hsz]; exact hz, fun k hk => (hsame k (by omega)).trans (hkp.2.2.2.2 k (by omega) (fun e => by have := b1 k e.symm; omega) (fun e => by have := b2 k e.symm; omega))⟩

/-- one append, seen from an earlier world -/
theorem kp1 {w W w2 : World} {r : Option Nat} (hb : Below w.heap.size w W) (hg : W.grownBy w2 r) : Kp w w2 r r :=
  ⟨by rw [hg.os, hb.os], by rw [hg.tape, hb.tape], by rw [hg.output, hb.output], Nat.le_trans hb.size hg.size, fun k hk h1 _ => by rw [hg.block k (Nat.lt_of_lt_of_le hk hb.size) h1, hb.block k hk]⟩
theorem Kp.setFar {w w2 : World} {r1 r2 : Option Nat} {D : Nat} (h : Kp w w2 r1 r2) (hD : w.heap.size ≤ D) (i : Nat) (u : Value) : Kp w (w2.setCell ⟨D, i, none⟩ u) r1 r2 :=
  ⟨h.1, h.2.1, h.2.2.1, by simpa [World.setCell] using h.2.2.2.1, fun k hk h1 h2 => (Below.heap_setCell w2 ⟨D, i, none⟩ u k (by simp only; omega)).trans (h.2.2.2.2 k hk h1 h2)⟩
/-- from an earlier world -/
theorem Kp.early {w w1 w2 : World} {r1 r2 : Option Nat} (hb : Below w.heap.size w w1) (h : Kp w1 w2 r1 r2) : Kp w w2 r1 r2 :=
  ⟨by rw [h.1, hb.os], by rw [h.2.1, hb.tape], by rw [h.2.2.1, hb.output], Nat.le_trans hb.size h.2.2.2.1, fun k hk h1 h2 => by rw [h.2.2.2.2 k (Nat.lt_of_lt_of_le hk hb.size) h1 h2, hb.block k hk]⟩
/-- two in a row -/
theorem Kp.both {w w1 w2 : World} {r1 r2 : Option Nat} (h : Kp w w1 r1 r1) (k : Kp w1 w2 r2 r2) : Kp w w2 r1 r2 :=
  ⟨by rw [k.1, h.1], by rw [k.2.1, h.2.1], by rw [k.2.2.1, h.2.2.1], Nat.le_trans h.2.2.2.1 k.2.2.2.1, fun i hi h1 h2 => by rw [k.2.2.2.2 i (Nat.lt_of_lt_of_le hi h.2.2.2.1) h2 h2, h.2.2.2.2 i hi h1 h1]⟩
end Go.Proofs.YtekcmgajjbdmgabDoor
