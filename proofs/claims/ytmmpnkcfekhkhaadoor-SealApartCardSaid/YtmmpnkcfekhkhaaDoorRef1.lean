/- The contracts of the document's own answers of layer 1: numbers. -/
import Derived.Test.YtmmpnkcfekhkhaaDoorFrame
namespace Go.Proofs.YtmmpnkcfekhkhaaDoor
open Go.RowKit

set_option maxHeartbeats 800000 in
set_option maxRecDepth 100000 in
theorem rnumber_any (n : Nat) (w : World) (hn : n < 4611686018427387904) :
    Calls Tryd.prog 41 #[.int .i64 n] w fun e w' => e = .returned (.string ⟨(numB n).toArray⟩) ∧ Below w.heap.size w w' := by
  obtain ⟨i0, hi, hz0, hz1, hz2⟩ := info_parts Tryd.infoB
  have hL := numB_len9 (n := n) (by omega)
  go_enter Tryd.func41, Tryd.ntmps41
  go_wp2
  go_loopw [0, 3] (fun a v wr => ∃ (m : Nat) (xs : List UInt8), m ≤ n ∧ a = .int .i64 m ∧ xs ++ numB m = numB n ∧ wr.ownsRow w.heap.size 5 1 v xs.length (bytesV xs) ∧ Below w.heap.size w wr)
    (fun a _ _ => (intOf a).toNat)
  case atStart =>
    exact ⟨n, [], Nat.le_refl _, rfl, rfl, World.ownsRow_made w #[] 0 (Nat.le_refl _) (by unfold maxLen; omega) (by simp), (Below.refl _ _).alloc (Nat.le_refl _) _⟩
  case round =>
    obtain ⟨m, xs, hm, rfl, hx, hown, hb⟩ := hrel
    have hl : xs.length + (numB m).length ≤ 9 := by rw [← List.length_append, hx]; exact hL
    have hp := numB_pos m
    have HX := Lib.hid hx
    clear hx
    by_cases hlt : 128 ≤ m
    · go_wp2_with (at_builtin; refine wpList_push _ rfl _ _ 41 rfl w.heap.size 5 i0 (.int .u8 0) 1 Tryd.underlying41 hi hz0 hz1 hz2 rfl _ _ _ rfl hown _ rfl rfl ?c1 ?c2 ?c3 ?_)
      case c1 => unfold maxLen; omega
      case c2 => omega
      case c3 => exact hb.size
      intro g c w2 hown2 hg2
      go_wp2
      go_roundw
      case rel =>
        refine ⟨m / 128, xs ++ [UInt8.ofNat (m % 128 + 128)], by omega, by go_num, ?_, ?_, hb.grown hg2 hb.size (fun k hk => (hown.lt k hk).1)⟩
        · rw [← HX.out, numB_ge hlt]; simp
        · rw [← bytesV_push xs (m % 128 + 128) (128 + (m : Int) % 128) (by omega) (by omega)]; simpa using hown2
      case measure => first | (simp [intOf]; done) | (simp [intOf]; omega)
    · go_wp2_with (at_builtin; refine wpList_push _ rfl _ _ 41 rfl w.heap.size 5 i0 (.int .u8 0) 1 Tryd.underlying41 hi hz0 hz1 hz2 rfl _ _ _ rfl hown _ rfl rfl ?c1 ?c2 ?c3 ?_)
      case c1 => unfold maxLen; omega
      case c2 => omega
      case c3 => exact hb.size
      intro g c w2 hown2 hg2
      have hf : xs ++ [UInt8.ofNat m] = numB n := by rw [← HX.out, numB_lt (by omega)]
      have hcv := run_str_own (P := Tryd.prog) (src := 41) (dst := 9) (l := xs ++ [UInt8.ofNat m]) (w := w2) (g := g) (cap := c) (base := w.heap.size) Tryd.underlying41 Tryd.underlying5 Tryd.underlying9
        (by rw [← bytesV_push xs m _ rfl (by omega)]; simpa using hown2)
      rw [List.length_append, List.length_singleton] at hcv
      rw [hf] at hcv
      clear hf
      go_wp2
      go_ret
      exact ⟨rfl, hb.grown hg2 hb.size (fun k hk => (hown.lt k hk).1)⟩

set_option maxHeartbeats 800000 in
set_option maxRecDepth 100000 in
theorem rread_high (s : ByteArray) (w : World) (hs : s.size ≤ maxLen) (hall : ∀ k (hk : k < s.size), k < 9 → 128 ≤ s[k].toNat) (E : Int) (hE : E = if 9 ≤ s.size then 2 else 3) :
    Calls Tryd.prog 54 #[.string s] w fun e w' => e = .returned (.agg #[.int .i64 0, .int .i64 0, .int .i64 E]) ∧ Below w.heap.size w w' := by
  unfold maxLen at hs
  have HA := Lib.hid hall
  have HE := Lib.hid hE
  clear hall hE
  go_enter Tryd.func54, Tryd.ntmps54
  go_wp2
  go_loop [3, 4] (fun a v => ∃ i : Nat, i ≤ 9 ∧ i ≤ s.size ∧ v = .int .i64 i ∧ a = .int .i64 (-1)) (fun _ v => 9 - (intOf v).toNat)
  case atStart => exact ⟨0, by omega, by omega, rfl, rfl⟩
  case round =>
    obtain ⟨i, hi9, his, rfl, rfl⟩ := hrel
    by_cases h1 : i < s.size
    · by_cases h2 : i < 9
      · have hb := HA.out i h1 h2
        have hb2 := s[i].toNat_lt
        go_wp2
        go_round
        case rel => exact ⟨i + 1, by omega, by omega, by go_num, rfl⟩
        case measure => first | (simp [intOf]; done) | (simp [intOf]; omega)
      · have h9 : 9 ≤ s.size := by omega
        obtain rfl : E = 2 := by rw [HE.out, if_pos h9]
        clear HE
        go_wp2
        exact bodyPost_ret (v := .agg #[.int .i64 0, .int .i64 0, .int .i64 2]) (by simp [results, Tryd.results54, go_sem]) rfl ⟨rfl, (Below.refl _ _).alloc (Nat.le_refl _) _⟩
    · by_cases h9 : 9 ≤ s.size
      · obtain rfl : E = 2 := by rw [HE.out, if_pos h9]
        clear HE
        go_wp2
        exact bodyPost_ret (v := .agg #[.int .i64 0, .int .i64 0, .int .i64 2]) (by simp [results, Tryd.results54, go_sem]) rfl ⟨rfl, (Below.refl _ _).alloc (Nat.le_refl _) _⟩
      · obtain rfl : E = 3 := by rw [HE.out, if_neg h9]
        clear HE
        go_wp2
        exact bodyPost_ret (v := .agg #[.int .i64 0, .int .i64 0, .int .i64 3]) (by simp [results, Tryd.results54, go_sem]) rfl ⟨rfl, (Below.refl _ _).alloc (Nat.le_refl _) _⟩

set_option maxHeartbeats 1600000 in
set_option maxRecDepth 100000 in
theorem rread_low (s : ByteArray) (j : Nat) (w : World) (hs : s.size ≤ maxLen) (h9 : j < 9) (hj : j < s.size) (hall : ∀ k (hk : k < j), 128 ≤ s[k].toNat) (hlow : s[j].toNat < 128)
    (N U E : Nat) (hr : (N, U, E) = if s[j].toNat = 0 ∧ 0 < j then (0, 0, 6) else (rdv (s.data.toList.take (j + 1)), j + 1, 0)) :
    Calls Tryd.prog 54 #[.string s] w fun e w' => e = .returned (.agg #[.int .i64 N, .int .i64 U, .int .i64 E]) ∧ Below w.heap.size w w' := by
  unfold maxLen at hs
  have HA := Lib.hid hall
  have HR := Lib.hid hr
  clear hall hr
  go_enter Tryd.func54, Tryd.ntmps54
  go_wp2
  go_loop [3, 4] (fun a v => ∃ i : Nat, i ≤ 9 ∧ i ≤ s.size ∧ v = .int .i64 i ∧ ((i ≤ j ∧ a = .int .i64 (-1)) ∨ (j < i ∧ a = .int .i64 j))) (fun _ v => 9 - (intOf v).toNat)
  case atStart => exact ⟨0, by omega, by omega, rfl, .inl ⟨by omega, rfl⟩⟩
  case round =>
    obtain ⟨i, hi9, his, rfl, ⟨hij, rfl⟩ | ⟨hij, rfl⟩⟩ := hrel
    · have h1 : i < s.size := by omega
      have h2 : i < 9 := by omega
      by_cases e : i = j
      · subst e
        go_wp2
        go_round
        case rel => exact ⟨i + 1, by omega, by omega, by go_num, .inr ⟨by omega, rfl⟩⟩
        case measure => first | (simp [intOf]; done) | (simp [intOf]; omega)
      · have hb := HA.out i (by omega)
        go_wp2
        go_round
        case rel => exact ⟨i + 1, by omega, by omega, by go_num, .inl ⟨by omega, rfl⟩⟩
        case measure => first | (simp [intOf]; done) | (simp [intOf]; omega)
    · by_cases h1 : i < s.size ∧ i < 9
      · obtain ⟨h1, h2⟩ := h1
        go_wp2
        go_round
        case rel => exact ⟨i + 1, by omega, by omega, by go_num, .inr ⟨by omega, rfl⟩⟩
        case measure => first | (simp [intOf]; done) | (simp [intOf]; omega)
      · by_cases hz : s[j].toNat = 0 ∧ 0 < j
        · have hr := HR.out
          rw [if_pos hz] at hr
          simp only [Prod.mk.injEq] at hr
          obtain ⟨rfl, rfl, rfl⟩ := hr
          obtain ⟨hz1, hz2⟩ := hz
          have hz3 : ((s[j].toNat : Int) == 0) = true := by rw [beq_iff_eq]; omega
          clear HR hz1
          by_cases h1s : i < s.size
          all_goals
            go_wp2
            exact bodyPost_ret (v := .agg #[.int .i64 0, .int .i64 0, .int .i64 6]) (by simp [results, Tryd.results54, go_sem]) rfl ⟨rfl, (Below.refl _ _).alloc (Nat.le_refl _) _⟩
        · have hr := HR.out
          rw [if_neg hz] at hr
          simp only [Prod.mk.injEq] at hr
          obtain ⟨hN, rfl, rfl⟩ := hr
          have HN := Lib.hid hN
          clear HR hN
          by_cases hz0 : s[j].toNat = 0
          · have hz3 : ((s[j].toNat : Int) == 0) = true := by rw [beq_iff_eq]; omega
            have hz4 : ¬ 0 < j := by omega
            clear hz hz0
            by_cases h1s : i < s.size
            all_goals
              go_wp2
              go_loop [5, 6] (fun n v => (∃ k : Nat, k ≤ j ∧ v = .int .i64 k ∧ n = .int .i64 (rdv ((s.data.toList.take (j + 1)).drop (k + 1)) : Nat)) ∨ (v = .int .i64 (-1) ∧ n = .int .i64 (rdv (s.data.toList.take (j + 1)) : Nat))) (fun _ v => (intOf v + 1).toNat)
              case atStart => exact .inl ⟨j, Nat.le_refl _, rfl, by rw [List.drop_eq_nil_of_le (by simp; omega)]; rfl⟩
              case round =>
                rcases hrel with ⟨k, hk, rfl, rfl⟩ | ⟨rfl, rfl⟩
                · have hL : k < (s.data.toList.take (j + 1)).length := by simp; omega
                  have hd := rdv_drop hL
                  have hg : (s.data.toList.take (j + 1))[k] = s[k] := by rw [List.getElem_take]; rfl
                  rw [hg] at hd
                  have hbd := rdv_63 (l := (s.data.toList.take (j + 1)).drop k) (by simp; omega)
                  generalize hD : rdv ((s.data.toList.take (j + 1)).drop (k + 1)) = D at *
                  generalize hD2 : rdv ((s.data.toList.take (j + 1)).drop k) = D2 at *
                  have hs3 : 128 * (D : Int) + (s[k].toNat : Int) % 128 ≤ 9223372036854775807 := by omega
                  have hd2 : (D2 : Int) = 128 * (D : Int) + (s[k].toNat : Int) % 128 := by omega
                  have HD := Lib.hid hd2
                  have HD2 := Lib.hid hD2
                  have hkb := s[k].toNat_lt
                  clear hd hg hD hD2 hd2 hbd
                  go_wp2
                  go_round
                  case rel =>
                    by_cases e : k = 0
                    · subst e
                      exact .inr ⟨rfl, by rw [← HD.out, ← HD2.out]; rfl⟩
                    · exact .inl ⟨k - 1, by omega, by congr 1; omega, by rw [← HD.out, ← HD2.out, show k - 1 + 1 = k by omega]⟩
                  case measure => first | (simp [intOf]; done) | (simp [intOf]; omega)
                · have hn := HN.out
                  clear HN
                  subst hn
                  go_wp2
                  exact bodyPost_ret (v := .agg #[.int .i64 (rdv (s.data.toList.take (j + 1)) : Nat), .int .i64 ((j : Int) + 1), .int .i64 0]) (by simp [results, Tryd.results54, go_sem]) rfl ⟨rfl, (Below.refl _ _).alloc (Nat.le_refl _) _⟩
          · have hz3 : ((s[j].toNat : Int) == 0) = false := by rw [beq_eq_false_iff_ne]; omega
            clear hz hz0
            by_cases h1s : i < s.size
            all_goals
              go_wp2
              go_loop [5, 6] (fun n v => (∃ k : Nat, k ≤ j ∧ v = .int .i64 k ∧ n = .int .i64 (rdv ((s.data.toList.take (j + 1)).drop (k + 1)) : Nat)) ∨ (v = .int .i64 (-1) ∧ n = .int .i64 (rdv (s.data.toList.take (j + 1)) : Nat))) (fun _ v => (intOf v + 1).toNat)
              case atStart => exact .inl ⟨j, Nat.le_refl _, rfl, by rw [List.drop_eq_nil_of_le (by simp; omega)]; rfl⟩
              case round =>
                rcases hrel with ⟨k, hk, rfl, rfl⟩ | ⟨rfl, rfl⟩
                · have hL : k < (s.data.toList.take (j + 1)).length := by simp; omega
                  have hd := rdv_drop hL
                  have hg : (s.data.toList.take (j + 1))[k] = s[k] := by rw [List.getElem_take]; rfl
                  rw [hg] at hd
                  have hbd := rdv_63 (l := (s.data.toList.take (j + 1)).drop k) (by simp; omega)
                  generalize hD : rdv ((s.data.toList.take (j + 1)).drop (k + 1)) = D at *
                  generalize hD2 : rdv ((s.data.toList.take (j + 1)).drop k) = D2 at *
                  have hs3 : 128 * (D : Int) + (s[k].toNat : Int) % 128 ≤ 9223372036854775807 := by omega
                  have hd2 : (D2 : Int) = 128 * (D : Int) + (s[k].toNat : Int) % 128 := by omega
                  have HD := Lib.hid hd2
                  have HD2 := Lib.hid hD2
                  have hkb := s[k].toNat_lt
                  clear hd hg hD hD2 hd2 hbd
                  go_wp2
                  go_round
                  case rel =>
                    by_cases e : k = 0
                    · subst e
                      exact .inr ⟨rfl, by rw [← HD.out, ← HD2.out]; rfl⟩
                    · exact .inl ⟨k - 1, by omega, by congr 1; omega, by rw [← HD.out, ← HD2.out, show k - 1 + 1 = k by omega]⟩
                  case measure => first | (simp [intOf]; done) | (simp [intOf]; omega)
                · have hn := HN.out
                  clear HN
                  subst hn
                  go_wp2
                  exact bodyPost_ret (v := .agg #[.int .i64 (rdv (s.data.toList.take (j + 1)) : Nat), .int .i64 ((j : Int) + 1), .int .i64 0]) (by simp [results, Tryd.results54, go_sem]) rfl ⟨rfl, (Below.refl _ _).alloc (Nat.le_refl _) _⟩

theorem rread_any (s : ByteArray) (w : World) (hs : s.size ≤ maxLen) :
    Calls Tryd.prog 54 #[.string s] w fun e w' => e = .returned (.agg #[.int .i64 (rd s.data.toList).1, .int .i64 (rd s.data.toList).2.1, .int .i64 (rd s.data.toList).2.2]) ∧ Below w.heap.size w w' := by
  rcases low_or_high s.data.toList 9 with ⟨j, h9, hj, hall, hlow⟩ | hall
  · refine rread_low s j w hs h9 (by simpa using hj) (fun k hk => hall k hk) hlow _ _ _ ?_
    exact rd_low h9 hj hall hlow
  · have h := rd_high hall
    rw [h]
    have hsz : s.data.toList.length = s.size := by simp
    rw [hsz]
    refine (rread_high s w hs (fun k hk => hall k (by simpa using hk)) (if 9 ≤ s.size then 2 else 3) rfl).mono ?_
    rintro e w' ⟨rfl, hb⟩
    refine ⟨?_, hb⟩
    split <;> rfl
end Go.Proofs.YtmmpnkcfekhkhaaDoor
