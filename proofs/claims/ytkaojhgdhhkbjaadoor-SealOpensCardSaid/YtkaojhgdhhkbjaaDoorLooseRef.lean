/- The contract of the document's own Loose. -/
import Derived.Test.YtkaojhgdhhkbjaaDoorLoose
import Derived.Test.YtkaojhgdhhkbjaaDoorLib3
namespace Go.Proofs.YtkaojhgdhhkbjaaDoor
open Go.RowKit

set_option maxHeartbeats 1600000 in
set_option maxRecDepth 100000 in
theorem rloose_any (s : ByteArray) (w : World) (hs : s.size ≤ maxLen) :
    Calls Tryd.prog 40 #[.string s] w (LoosePost (loose s) w) := by
  obtain ⟨i0, hi, hz0, hz1, hz2⟩ := info_parts Tryd.infoS
  unfold maxLen at hs
  go_enter Tryd.func40, Tryd.ntmps40
  go_wp2
  go_loopw [0, 4] (fun x v wr => ∃ (t : ByteArray) (acc : List ByteArray) (f : Nat), x = .string t ∧ t.size < f ∧ t.size ≤ s.size ∧ looseF f t acc = loose s ∧ acc.length ≤ 512 ∧ (∀ y ∈ acc, y.size ≤ maxLen) ∧ wr.ownsRow w.heap.size 9 1 v acc.length (strsV acc) ∧ Below w.heap.size w wr)
    (fun x _ _ => match x with | .string t => t.size | _ => 0)
  case atStart => exact ⟨s, [], s.size + 1, rfl, by omega, Nat.le_refl _, rfl, by simp, (fun y hy => by cases hy), World.ownsRow_made w #[] 0 (Nat.le_refl _) (by unfold maxLen; omega) (by simp), (Below.refl _ _).alloc (Nat.le_refl _) _⟩
  case round =>
    obtain ⟨t, acc, f, rfl, hf, hts, hR, hal, hay, hown, hb⟩ := hrel
    obtain ⟨f, rfl⟩ : ∃ f', f = f' + 1 := ⟨f - 1, by omega⟩
    have HY := Lib.hid hay
    clear hay
    have htm : t.size ≤ maxLen := by unfold maxLen; omega
    rw [looseF] at hR
    by_cases h0 : t.size = 0
    · rw [if_pos h0] at hR
      obtain ⟨a', c', rfl, hh⟩ := strs_of_own hown HY.out
      have HR := Lib.hid hR
      have HH := Lib.hid hh
      clear hR hh hown htm
      go_wp2
      go_ret2
      refine ⟨a', c', ?_, ?_, hb⟩
      · rw [← HR.out]; rfl
      · rw [← HR.out]; exact HH.out
    · rw [if_neg h0] at hR
      have hpos : 0 < t.size := by omega
      have hread := fun W => rread_any t W htm
      have hok := fun h => rd_ok (l := t.data.toList) h
      have htl : t.data.toList.length = t.size := (size_list t).symm
      rw [htl] at hok
      clear h0 htm htl
      generalize rd t.data.toList = D at *
      obtain ⟨N, U, E⟩ := D
      simp only [] at hR hread hok
      have HRD := Lib.hid hread
      clear hread
      by_cases hE : E = 0
      · subst hE
        rw [if_neg (by simp)] at hR
        obtain ⟨hU1, hU2, hN⟩ := hok rfl
        clear hok
        by_cases hbig : 8192 < N
        · rw [if_pos (.inl hbig)] at hR
          have HR := Lib.hid hR
          clear hR
          go_wp2_with (go_at_call 54; refine (HRD.out _).mono ?_; rintro e w3 ⟨rfl, hb3⟩)
          go_ret2
          exact loose_err HR.out ((bthen hb hb3).alloc (Nat.le_trans hb.size hb3.size) _)
        · by_cases hfull : acc.length = 512
          · rw [if_pos (.inr hfull)] at hR
            have hfull2 : ((acc.length : Int) == 512) = true := by rw [beq_iff_eq]; omega
            obtain ⟨a', c', rfl, hh⟩ := strs_of_own hown HY.out
            have HR := Lib.hid hR
            clear hR hh hown hfull
            go_wp2_with (go_at_call 54; refine (HRD.out _).mono ?_; rintro e w3 ⟨rfl, hb3⟩)
            go_ret2
            exact loose_err HR.out ((bthen hb hb3).alloc (Nat.le_trans hb.size hb3.size) _)
          · rw [if_neg (by omega), ByteArray.size_extract, Nat.min_self] at hR
            have hfull2 : ((acc.length : Int) == 512) = false := by rw [beq_eq_false_iff_ne]; omega
            have hlt5 : acc.length < 512 := by omega
            obtain ⟨a', c', rfl, hh⟩ := strs_of_own hown HY.out
            clear hh
            by_cases hsh : t.size - U < N
            · rw [if_pos hsh] at hR
              have HR := Lib.hid hR
              clear hR hown hfull
              go_wp2_with (go_at_call 54; refine (HRD.out _).mono ?_; rintro e w3 ⟨rfl, hb3⟩)
              go_ret2
              exact loose_err HR.out ((bthen hb hb3).alloc (Nat.le_trans hb.size hb3.size) _)
            · rw [if_neg hsh] at hR
              have HR := Lib.hid hR
              clear hR hfull
              go_wp2_with (first | (go_at_call 54; refine (HRD.out _).mono ?_; rintro e w3 ⟨rfl, hb3⟩; have hownq := (owns_call hown hb3).alloc (.cells #[.int .i64 N, .int .i64 U, .int .i64 0] 68)) | (at_builtin; refine wpList_push_at _ rfl _ _ 29 rfl w.heap.size 9 i0 (.string ⟨#[]⟩) 16 Tryd.underlying29 hi hz0 hz1 hz2 rfl _ _ _ rfl hownq _ _ rfl (by simp) rfl ?c1 ?c2 ?c3 ?_))
              case c1 => unfold maxLen; omega
              case c2 => omega
              case c3 => simp; exact Nat.le_succ_of_le (Nat.le_trans hb.size hb3.size)
              intro g c2 w2 hown2 hg2
              rw [strsV_push] at hown2
              have hown3 : w2.ownsRow w.heap.size 9 1 (.slice (some ⟨g, 0, none⟩) (acc.length + 1) c2) (acc ++ [(t.extract U t.size).extract 0 N]).length (strsV (acc ++ [(t.extract U t.size).extract 0 N])) := by
                rw [List.length_append]; exact hown2
              have hcN : w2.cell? ⟨w3.heap.size, 0, none⟩ = some (.int .i64 N) := by
                refine hg2.cell (World.cell?_alloc_mark w3 #[.int .i64 N, .int .i64 U, .int .i64 0] 68 (0, 0) 0) (fun h => ?_)
                have := ((owns_call hown hb3).lt _ h.symm).2
                exact Nat.lt_irrefl _ this
              have hb4 := ((bthen hb hb3).alloc (Nat.le_trans hb.size hb3.size) _).grown hg2 (by simp; exact Nat.le_succ_of_le (Nat.le_trans hb.size hb3.size)) (fun k hk => (hownq.lt k hk).1)
              clear hown hown2 hg2 hownq
              go_wp2
              have hsz : ((t.extract U t.size).extract N (t.size - U)).size < t.size := by simp [ByteArray.size_extract]; omega
              have hsz2 : ((t.extract U t.size).extract 0 N).size ≤ t.size := by simp [ByteArray.size_extract]; omega
              have hy3 : ∀ y ∈ acc ++ [(t.extract U t.size).extract 0 N], y.size ≤ maxLen := by
                intro y hy
                rcases List.mem_append.1 hy with h | h
                · exact HY.out y h
                · rw [List.mem_singleton.1 h]; unfold maxLen; omega
              refine ⟨⟨(t.extract U t.size).extract N (t.size - U), acc ++ [(t.extract U t.size).extract 0 N], f, rfl, by omega, by omega, HR.out, by rw [List.length_append, List.length_singleton]; omega, hy3, hown3, hb4⟩, ?_⟩
              exact hsz
      · rw [if_pos hE] at hR
        have hE2 : ((E : Int) == 0) = false := by rw [beq_eq_false_iff_ne]; omega
        have HR := Lib.hid hR
        clear hR hok hE
        go_wp2_with (go_at_call 54; refine (HRD.out _).mono ?_; rintro e w3 ⟨rfl, hb3⟩)
        go_quiet (fail)
        go_wp2
        go_ret2
        exact loose_err HR.out (below_drewN ((bthen hb hb3).alloc (Nat.le_trans hb.size hb3.size) _) _)
end Go.Proofs.YtkaojhgdhhkbjaaDoor
