/- What lies in a block of three cells does not turn rows of labels. It speaks of no one program. -/
import Derived.Test.YtjkmnanadeffnaaDoorMatI
import Derived.Test.YtjkmnanadeffnaaDoorMatH
import Derived.Test.YtjkmnanadeffnaaDoorLabU
namespace Go.Proofs.YtjkmnanadeffnaaDoor
open Go.RowKit Go.Maps

theorem labs_apart {w : World} {b off c g : Nat} {ls : List Lab} {t : TypeId} {x z : Value} {k : Int} (h : HasLabs w (some ⟨b, off, none⟩) c ls) (hb : Blk w g t #[x, .int .i64 k, z]) (hz : ∀ s, z ≠ .string s) (hne : ls ≠ []) : b ≠ g := by
  rintro rfl
  obtain ⟨_, _, _, h4⟩ := h
  rcases h4 with h4 | ⟨b2, o2, e, _, hc⟩
  · exact hne h4
  · cases e
    have hl : 0 < ls.length := List.length_pos_iff.2 hne
    obtain ⟨c0, c1⟩ := hc 0 hl
    rw [hb.cell] at c0 c1
    simp only [Nat.zero_mul, Nat.add_zero] at c0 c1
    match off, c0, c1 with
    | 0, c0, c1 => simp at c1
    | 1, c0, c1 => simp at c0
    | 2, c0, c1 => simp at c0; exact hz _ c0
    | n + 3, c0, c1 => simp at c0
theorem labs_other {w w' : World} {a : Option Addr} {c : Nat} {ls : List Lab} (h : HasLabs w a c ls) (hb : ∀ b o s, a = some ⟨b, o, s⟩ → ls ≠ [] → w'.heap[b]? = w.heap[b]?) (hs : w.heap.size ≤ w'.heap.size) : HasLabs w' a c ls := by
  obtain ⟨h1, h2, h3, h4⟩ := h
  refine ⟨h1, h2, h3, ?_⟩
  by_cases hne : ls = []
  · exact .inl hne
  · rcases h4 with h4 | ⟨b, off, rfl, hlt, hc⟩
    · exact absurd h4 hne
    · have he := hb b off none rfl hne
      refine .inr ⟨b, off, rfl, Nat.lt_of_lt_of_le hlt hs, fun i hi => ?_⟩
      have := hc i hi
      unfold World.cell? at this ⊢
      rw [he]
      exact this
/-- stores into a matcher's own block -/
theorem labs_set3 {w : World} {a : Option Addr} {c g : Nat} {ls : List Lab} {t : TypeId} {x z : Value} {k : Int} (h : HasLabs w a c ls) (hb : Blk w g t #[x, .int .i64 k, z]) (hz : ∀ s, z ≠ .string s) (u v y : Value) : HasLabs (((w.setCell ⟨g, 0, none⟩ u).setCell ⟨g, 1, none⟩ v).setCell ⟨g, 2, none⟩ y) a c ls := by
  refine labs_other h (fun b o s e hne => ?_) (by simp [World.setCell])
  subst e
  have hs : s = none := by
    rcases h.2.2.2 with h4 | ⟨b2, o2, e, _⟩
    · exact absurd h4 hne
    · cases e; rfl
  subst hs
  have hbg := labs_apart h hb hz hne
  exact ((Below.heap_setCell _ _ y b hbg).trans (Below.heap_setCell _ _ v b hbg)).trans (Below.heap_setCell _ _ u b hbg)
theorem HasStrs.set3F {w : World} {a : Option Addr} {c g : Nat} {ss : List ByteArray} (h : HasStrs w a c ss) (hf : ∀ b o s, a = some ⟨b, o, s⟩ → g < b) (x y z : Value) : HasStrs (((w.setCell ⟨g, 0, none⟩ x).setCell ⟨g, 1, none⟩ y).setCell ⟨g, 2, none⟩ z) a c ss := by
  obtain ⟨h1, h2, h3, h4⟩ := h
  rcases h4 with h4 | ⟨b, off, rfl, hlt, hc⟩
  · exact ⟨h1, h2, h3, .inl h4⟩
  · exact HasStrs.set3O ⟨h1, h2, h3, .inr ⟨b, off, rfl, hlt, hc⟩⟩ (Nat.ne_of_gt (hf b off none rfl)) x y z
theorem slice_ne {a : Option Addr} {n c : Nat} : ∀ s, Value.slice a n c ≠ .string s := fun _ e => by cases e
end Go.Proofs.YtjkmnanadeffnaaDoor
