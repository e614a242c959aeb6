/- The contracts of what takes texts apart: frame.Loose, and the document's own Loose. -/
import Derived.Test.YtmmpnkcfekhkhaaDoorBind2
namespace Go.Proofs.YtmmpnkcfekhkhaaDoor
open Go.RowKit

theorem rd_ok {l : List UInt8} (h : (rd l).2.2 = 0) : 1 ≤ (rd l).2.1 ∧ (rd l).2.1 ≤ l.length ∧ (rd l).1 ≤ 9223372036854775807 := by
  rcases low_or_high l 9 with ⟨j, h9, hj, hall, hlow⟩ | hall
  · rw [rd_low h9 hj hall hlow] at h ⊢
    split at h
    · simp at h
    · rename_i hn
      rw [if_neg hn]
      exact ⟨by simp, hj, rdv_63 (by simp; omega)⟩
  · rw [rd_high hall] at h
    split at h <;> simp at h
theorem rd_nil : rd [] = (0, 0, 3) := rfl

/-- texts, taken apart: what is read so far stands in 'acc' -/
def looseF : Nat → ByteArray → List ByteArray → List ByteArray × Nat
  | 0, _, _ => ([], 3)
  | f + 1, s, acc =>
    if s.size = 0 then (acc, 0)
    else if (rd s.data.toList).2.2 ≠ 0 then ([], (rd s.data.toList).2.2)
    else if 8192 < (rd s.data.toList).1 ∨ acc.length = 512 then ([], 2)
    else if (s.extract (rd s.data.toList).2.1 s.size).size < (rd s.data.toList).1 then ([], 3)
    else looseF f ((s.extract (rd s.data.toList).2.1 s.size).extract (rd s.data.toList).1 (s.extract (rd s.data.toList).2.1 s.size).size) (acc ++ [(s.extract (rd s.data.toList).2.1 s.size).extract 0 (rd s.data.toList).1])
def loose (s : ByteArray) : List ByteArray × Nat := looseF (s.size + 1) s []

def LoosePost (R : List ByteArray × Nat) (w : World) (e : Ending) (w' : World) : Prop :=
  ∃ a c, e = .returned (.tuple #[.slice a R.1.length c, .int .i64 R.2]) ∧ HasStrs w' a c R.1 ∧ Below w.heap.size w w'

theorem loose_err {R : List ByteArray × Nat} {k : Nat} (h : ([], k) = R) {w w' : World} (hb : Below w.heap.size w w') : LoosePost R w (.returned (.tuple #[.slice none 0 0, .int .i64 k])) w' := by
  subst h
  exact ⟨none, 0, rfl, HasStrs.nil _ _ _ (by unfold maxLen; omega), hb⟩

set_option maxHeartbeats 1600000 in
set_option maxRecDepth 100000 in
theorem loose_any (s : ByteArray) (w : World) (hs : s.size ≤ maxLen) :
    Calls Tryd.prog 38 #[.string s] w (LoosePost (loose s) w) := by
  obtain ⟨i0, hi, hz0, hz1, hz2⟩ := info_parts Tryd.infoS
  unfold maxLen at hs
  go_enter Tryd.func38, Tryd.ntmps38
  go_wp2
  go_loopw [0, 4] (fun x v wr => ∃ (t : ByteArray) (acc : List ByteArray) (f : Nat), x = .string t ∧ t.size < f ∧ t.size ≤ s.size ∧ looseF f t acc = loose s ∧ acc.length ≤ 512 ∧ (∀ y ∈ acc, y.size ≤ maxLen) ∧ wr.ownsRow w.heap.size 9 1 v acc.length (strsV acc) ∧ Below w.heap.size w wr)
    (fun x _ _ => match x with | .string t => t.size | _ => 0)
  case atStart => exact ⟨s, [], s.size + 1, rfl, by omega, Nat.le_refl _, rfl, by simp, (fun y hy => by cases hy), World.ownsRow_nil _ _ _ _, Below.refl _ _⟩
  case round =>
    obtain ⟨t, acc, f, rfl, hf, hts, hR, hal, hay, hown, hb⟩ := hrel
    obtain ⟨f, rfl⟩ : ∃ f', f = f' + 1 := ⟨f - 1, by omega⟩
    have HY := Lib.hid hay
    clear hay
    have htm : t.size ≤ maxLen := by unfold maxLen; omega
    rw [looseF] at hR
    by_cases h0 : t.size = 0
    · rw [if_pos h0] at hR
      obtain ⟨a', c', rfl, hh⟩ := strs_of_own hown HY.out
      have HR := Lib.hid hR
      have HH := Lib.hid hh
      clear hR hh hown htm
      go_wp2
      go_ret2
      refine ⟨a', c', ?_, ?_, hb⟩
      · rw [← HR.out]; rfl
      · rw [← HR.out]; exact HH.out
    · rw [if_neg h0] at hR
      have hpos : 0 < t.size := by omega
      have hread := fun W => read_any t W htm
      have hok := fun h => rd_ok (l := t.data.toList) h
      have htl : t.data.toList.length = t.size := (size_list t).symm
      rw [htl] at hok
      clear h0 htm htl
      generalize rd t.data.toList = D at *
      obtain ⟨N, U, E⟩ := D
      simp only [] at hR hread hok
      have HRD := Lib.hid hread
      clear hread
      by_cases hE : E = 0
      · subst hE
        rw [if_neg (by simp)] at hR
        obtain ⟨hU1, hU2, hN⟩ := hok rfl
        clear hok
        by_cases hbig : 8192 < N
        · rw [if_pos (.inl hbig)] at hR
          have HR := Lib.hid hR
          clear hR
          go_wp2_with (go_at_call 53; refine (HRD.out _).mono ?_; rintro e w3 ⟨rfl, rfl⟩)
          go_ret2
          exact loose_err HR.out hb
        · by_cases hfull : acc.length = 512
          · rw [if_pos (.inr hfull)] at hR
            have hfull2 : ((acc.length : Int) == 512) = true := by rw [beq_iff_eq]; omega
            obtain ⟨a', c', rfl, hh⟩ := strs_of_own hown HY.out
            have HR := Lib.hid hR
            clear hR hh hown hfull
            go_wp2_with (go_at_call 53; refine (HRD.out _).mono ?_; rintro e w3 ⟨rfl, rfl⟩)
            go_ret2
            exact loose_err HR.out hb
          · rw [if_neg (by omega), ByteArray.size_extract, Nat.min_self] at hR
            have hfull2 : ((acc.length : Int) == 512) = false := by rw [beq_eq_false_iff_ne]; omega
            have hlt5 : acc.length < 512 := by omega
            obtain ⟨a', c', rfl, hh⟩ := strs_of_own hown HY.out
            clear hh
            by_cases hsh : t.size - U < N
            · rw [if_pos hsh] at hR
              have HR := Lib.hid hR
              clear hR hown hfull
              go_wp2_with (go_at_call 53; refine (HRD.out _).mono ?_; rintro e w3 ⟨rfl, rfl⟩)
              go_ret2
              exact loose_err HR.out hb
            · rw [if_neg hsh] at hR
              have HR := Lib.hid hR
              clear hR hfull
              go_wp2_with (first | (go_at_call 53; refine (HRD.out _).mono ?_; rintro e w3 ⟨rfl, rfl⟩) | (at_builtin; refine wpList_push _ rfl _ _ 29 rfl w.heap.size 9 i0 (.string ⟨#[]⟩) 16 Tryd.underlying29 hi hz0 hz1 hz2 rfl _ _ _ rfl hown _ rfl rfl ?c1 ?c2 ?c3 ?_))
              case c1 => unfold maxLen; omega
              case c2 => omega
              case c3 => exact hb.size
              intro g c2 w2 hown2 hg2
              rw [strsV_push] at hown2
              have hown3 : w2.ownsRow w.heap.size 9 1 (.slice (some ⟨g, 0, none⟩) (acc.length + 1) c2) (acc ++ [(t.extract U t.size).extract 0 N]).length (strsV (acc ++ [(t.extract U t.size).extract 0 N])) := by
                rw [List.length_append]; exact hown2
              have hb3 := hb.grown hg2 hb.size (fun k hk => (hown.lt k hk).1)
              clear hown hown2 hg2
              go_wp2
              have hsz : ((t.extract U t.size).extract N (t.size - U)).size < t.size := by simp [ByteArray.size_extract]; omega
              have hsz2 : ((t.extract U t.size).extract 0 N).size ≤ t.size := by simp [ByteArray.size_extract]; omega
              have hy3 : ∀ y ∈ acc ++ [(t.extract U t.size).extract 0 N], y.size ≤ maxLen := by
                intro y hy
                rcases List.mem_append.1 hy with h | h
                · exact HY.out y h
                · rw [List.mem_singleton.1 h]; unfold maxLen; omega
              refine ⟨⟨(t.extract U t.size).extract N (t.size - U), acc ++ [(t.extract U t.size).extract 0 N], f, rfl, by omega, by omega, HR.out, by rw [List.length_append, List.length_singleton]; omega, hy3, hown3, hb3⟩, ?_⟩
              exact hsz
      · rw [if_pos hE] at hR
        have hE2 : ((E : Int) == 0) = false := by rw [beq_eq_false_iff_ne]; omega
        have HR := Lib.hid hR
        clear hR hok hE
        go_wp2_with (go_at_call 53; refine (HRD.out _).mono ?_; rintro e w3 ⟨rfl, rfl⟩)
        go_ret2
        exact loose_err HR.out hb

end Go.Proofs.YtmmpnkcfekhkhaaDoor
