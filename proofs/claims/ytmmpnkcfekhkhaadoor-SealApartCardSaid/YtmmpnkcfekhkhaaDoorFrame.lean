/- The contracts of package frame's functions. -/
import Derived.Test.YtmmpnkcfekhkhaaDoorRows
import Derived.Test.YtmmpnkcfekhkhaaDoorLib
import Derived.Test.YtmmpnkcfekhkhaaDoorMath
namespace Go.Proofs.YtmmpnkcfekhkhaaDoor
open Go.RowKit

theorem Tryd.infoB : (Tryd.prog.info? 5).map (fun i => (i.zero, i.size, i.bytes)) = some (some (.int .u8 0), 1, 1) := by kernel_rfl

set_option maxHeartbeats 800000 in
set_option maxRecDepth 100000 in
theorem number_any (n : Nat) (w : World) (hn : n < 4611686018427387904) :
    Calls Tryd.prog 51 #[.int .i64 n] w fun e w' => e = .returned (.tuple #[.string ⟨(numB n).toArray⟩, .int .i64 0]) ∧ Below w.heap.size w w' := by
  obtain ⟨i0, hi, hz0, hz1, hz2⟩ := info_parts Tryd.infoB
  have hL := numB_len9 (n := n) (by omega)
  go_enter Tryd.func51, Tryd.ntmps51
  go_wp2
  go_loopw [0, 4] (fun a v wr => ∃ (m : Nat) (xs : List UInt8), m ≤ n ∧ a = .int .i64 m ∧ xs ++ numB m = numB n ∧ wr.ownsRow w.heap.size 5 1 v xs.length (bytesV xs) ∧ Below w.heap.size w wr)
    (fun a _ _ => (intOf a).toNat)
  case atStart =>
    exact ⟨n, [], Nat.le_refl _, rfl, rfl, World.ownsRow_nil _ _ _ _, Below.refl _ _⟩
  case round =>
    obtain ⟨m, xs, hm, rfl, hx, hown, hb⟩ := hrel
    have hl : xs.length + (numB m).length ≤ 9 := by rw [← List.length_append, hx]; exact hL
    have hp := numB_pos m
    have HX := Lib.hid hx
    clear hx
    by_cases hlt : 128 ≤ m
    · go_wp2_with (at_builtin; refine wpList_push _ rfl _ _ 41 rfl w.heap.size 5 i0 (.int .u8 0) 1 Tryd.underlying41 hi hz0 hz1 hz2 rfl _ _ _ rfl hown _ rfl rfl ?c1 ?c2 ?c3 ?_)
      case c1 => unfold maxLen; omega
      case c2 => omega
      case c3 => exact hb.size
      intro g c w2 hown2 hg2
      go_wp2
      go_roundw
      case rel =>
        refine ⟨m / 128, xs ++ [UInt8.ofNat (m % 128 + 128)], by omega, by go_num, ?_, ?_, hb.grown hg2 hb.size (fun k hk => (hown.lt k hk).1)⟩
        · rw [← HX.out, numB_ge hlt]; simp
        · rw [← bytesV_push xs (m % 128 + 128) ((m : Int) % 128 + 128) (by omega) (by omega)]; simpa using hown2
      case measure => simp [intOf]; omega
    · go_wp2_with (at_builtin; refine wpList_push _ rfl _ _ 41 rfl w.heap.size 5 i0 (.int .u8 0) 1 Tryd.underlying41 hi hz0 hz1 hz2 rfl _ _ _ rfl hown _ rfl rfl ?c1 ?c2 ?c3 ?_)
      case c1 => unfold maxLen; omega
      case c2 => omega
      case c3 => exact hb.size
      intro g c w2 hown2 hg2
      have hf : xs ++ [UInt8.ofNat m] = numB n := by rw [← HX.out, numB_lt (by omega)]
      have hcv := run_str_own (P := Tryd.prog) (src := 41) (dst := 9) (l := xs ++ [UInt8.ofNat m]) (w := w2) (g := g) (cap := c) (base := w.heap.size) Tryd.underlying41 Tryd.underlying5 Tryd.underlying9
        (by rw [← bytesV_push xs m _ rfl (by omega)]; simpa using hown2)
      rw [List.length_append, List.length_singleton] at hcv
      rw [hf] at hcv
      clear hf
      go_wp2
      go_ret2
      exact ⟨rfl, hb.grown hg2 hb.size (fun k hk => (hown.lt k hk).1)⟩

theorem number_bad (n : Int) (w : World) (hn : n < 0 ∨ 4611686018427387904 ≤ n) :
    Calls Tryd.prog 51 #[.int .i64 n] w fun e w' => e = .returned (.tuple #[.string ⟨#[]⟩, .int .i64 1]) ∧ w = w' := by
  by_cases h0 : n < 0
  · go_enter Tryd.func51, Tryd.ntmps51
    go_wp2
    go_ret2
    exact ⟨rfl, rfl⟩
  · have h1 : 4611686018427387903 < n := by omega
    go_enter Tryd.func51, Tryd.ntmps51
    go_wp2
    go_ret2
    exact ⟨rfl, rfl⟩

set_option maxHeartbeats 800000 in
set_option maxRecDepth 100000 in
theorem read_any (s : ByteArray) (w : World) (hs : s.size ≤ maxLen) :
    Calls Tryd.prog 53 #[.string s] w fun e w' => e = .returned (.tuple #[.int .i64 (rd s.data.toList).1, .int .i64 (rd s.data.toList).2.1, .int .i64 (rd s.data.toList).2.2]) ∧ w = w' := by
  unfold maxLen at hs
  go_enter Tryd.func53, Tryd.ntmps53
  go_wp2
  go_loop [5, 6] (fun a v => ∃ (i acc : Nat), i ≤ 9 ∧ i ≤ s.size ∧ v = .int .i64 i ∧ a = .int .i64 acc ∧ acc < 2 ^ (7 * i) ∧ rdF (9 - i) i (s.data.toList.drop i) acc = rd s.data.toList)
    (fun _ v => 9 - (intOf v).toNat)
  case atStart =>
    exact ⟨0, 0, by omega, by omega, rfl, rfl, by omega, rfl⟩
  case round =>
    obtain ⟨i, acc, hi9, his, rfl, rfl, hacc, hx⟩ := hrel
    by_cases h1 : i < s.size
    · have hd := drop_cons s.data.toList i (by simpa using h1)
      rw [show s.data.toList[i]'(by simpa using h1) = s[i] from rfl] at hd
      have hb := s[i].toNat_lt
      by_cases h2 : i < 9
      · rw [hd, show 9 - i = (9 - (i + 1)) + 1 by omega] at hx
        clear hd
        by_cases h3 : 128 ≤ s[i].toNat
        · rw [rdF, if_pos h3] at hx
          have e0 : ((s[i].toNat - 128 : Nat) : Int) = (s[i].toNat : Int) - 128 := by omega
          have ha := rd_bd (b := s[i].toNat - 128) hacc (by omega)
          have hm := rd_63 (by omega) ha
          obtain ⟨e2, e1, e3⟩ := rd_int hm
          rw [e0] at e1 e2 e3
          have HX := Lib.hid hx
          have HB := Lib.hid ha
          have HE := Lib.hid e3
          clear hx hacc ha hm e0 e3
          go_wp2
          go_round
          case rel => exact ⟨i + 1, acc + (s[i].toNat - 128) * 2 ^ (7 * i), by omega, by omega, by go_num, by rw [HE.out], HB.out, HX.out⟩
          case measure => simp [intOf]; omega
        · rw [rdF, if_neg h3] at hx
          by_cases h4 : s[i].toNat = 0 ∧ 0 < i
          · obtain ⟨h4, h5⟩ := h4
            rw [if_pos ⟨h4, h5⟩] at hx
            have HX := Lib.hid hx
            have h6 : (s[i].toNat : Int) = 0 := by omega
            clear hx hacc h4
            go_wp2
            go_ret3
            rw [← HX.out]
            exact ⟨rfl, rfl⟩
          · rw [if_neg h4] at hx
            have ha := rd_bd (b := s[i].toNat) hacc (by omega)
            have hm := rd_63 (by omega) ha
            obtain ⟨e2, e1, e3⟩ := rd_int hm
            have HX := Lib.hid hx
            have HE := Lib.hid e3
            clear hx hacc ha hm e3
            by_cases h5 : s[i].toNat = 0
            · have h6 : ((s[i].toNat : Int) == 0) = true := by rw [beq_iff_eq]; omega
              have h7 : ¬ 0 < i := by omega
              clear h4 h5
              go_wp2
              go_ret3
              rw [← HX.out, HE.out]
              exact ⟨rfl, rfl⟩
            · have h6 : ((s[i].toNat : Int) == 0) = false := by rw [beq_eq_false_iff_ne]; omega
              go_wp2
              go_ret3
              rw [← HX.out, HE.out]
              exact ⟨rfl, rfl⟩
      · obtain rfl : i = 9 := by omega
        rw [hd, rdF] at hx
        have HX := Lib.hid hx
        clear hx hacc hd
        go_wp2
        go_ret3
        rw [← HX.out]
        exact ⟨rfl, rfl⟩
    · obtain rfl : i = s.size := by omega
      rw [List.drop_eq_nil_of_le (by simp)] at hx
      by_cases h9 : 9 ≤ s.size
      · rw [show 9 - s.size = 0 by omega, rdF] at hx
        have HX := Lib.hid hx
        clear hx hacc
        go_wp2
        go_ret3
        rw [← HX.out]
        exact ⟨rfl, rfl⟩
      · rw [show 9 - s.size = 9 - s.size - 1 + 1 by omega, rdF] at hx
        have HX := Lib.hid hx
        clear hx hacc
        go_wp2
        go_ret3
        rw [← HX.out]
        exact ⟨rfl, rfl⟩
end Go.Proofs.YtmmpnkcfekhkhaaDoor
