/- strings.IndexAny at the two signs that no name has: of whatever bytes, ASCII or not. -/
import Derived.Test.YtjkmnanadeffnaaDoorShelf
import Derived.Test.YtjkmnanadeffnaaDoorLib2
import Derived.Test.YtjkmnanadeffnaaDoorLabM
import Derived.WalkMore
import Derived.BigQuiet
import Derived.Deep.QuietTactic
import Derived.Laws.RangeAny
import Derived.Laws.Runes
import Derived.Shelf.Strings.IndexAnyAll
import Derived.Lib.OthersKept
import Derived.Deep.LoopGhost
namespace Go.Proofs.YtjkmnanadeffnaaDoor
open Go.RowKit

/-- a byte that is no ASCII byte: nor are those that its rune takes behind it -/
theorem decode_skip (s : ByteArray) (pos : Nat) (h : pos < s.size) (ha : 128 ≤ (s[pos]'h).toNat) :
    ∀ j, pos ≤ j → j < pos + (Utf8.decode s pos).2 → ∃ b, s.data.toList[j]? = some b ∧ 128 ≤ b.toNat := by
  have hk : ∀ k, (decide (pos + k < s.size) && ((s.get! (pos + k)).toNat / 64 == 2)) = true → ∃ b, s.data.toList[pos + k]? = some b ∧ 128 ≤ b.toNat := by
    intro k hb
    simp only [Bool.and_eq_true, decide_eq_true_eq, beq_iff_eq] at hb
    refine ⟨s[pos + k]'hb.1, Lib.data_getElem? s _ hb.1, ?_⟩
    have := get_at s (pos + k) hb.1
    simp only [Nat.add_zero] at this
    rw [this] at hb
    omega
  have h0 : ∃ b, s.data.toList[pos]? = some b ∧ 128 ≤ b.toNat := ⟨s[pos]'h, Lib.data_getElem? s _ h, ha⟩
  have hn : ¬ (s[pos]'h).toNat < 128 := by omega
  have one : ∀ j, pos ≤ j → j < pos + 1 → ∃ b, s.data.toList[j]? = some b ∧ 128 ≤ b.toNat := by
    intro j h1 h2
    obtain rfl : j = pos := by omega
    exact h0
  intro j h1
  simp only [Utf8.decode, get_at s pos h, hn, if_false]
  split
  · rename_i hc
    simp only [Bool.and_eq_true] at hc
    split
    · intro h2
      rcases Nat.lt_or_ge j (pos + 1) with hl | hl
      · exact one j h1 hl
      · obtain rfl : j = pos + 1 := by simp only at h2; omega
        exact hk 1 (by simpa using hc.2)
    · exact one j h1
  · split
    · rename_i hc
      simp only [Bool.and_eq_true] at hc
      split
      · intro h2
        rcases Nat.lt_or_ge j (pos + 1) with hl | hl
        · exact one j h1 hl
        · rcases Nat.lt_or_ge j (pos + 2) with hl2 | hl2
          · obtain rfl : j = pos + 1 := by omega
            exact hk 1 (by simpa using hc.1.2)
          · obtain rfl : j = pos + 2 := by simp only at h2; omega
            exact hk 2 (by simpa using hc.2)
      · exact one j h1
    · split
      · rename_i hc
        simp only [Bool.and_eq_true] at hc
        split
        · intro h2
          rcases Nat.lt_or_ge j (pos + 1) with hl | hl
          · exact one j h1 hl
          · rcases Nat.lt_or_ge j (pos + 2) with hl2 | hl2
            · obtain rfl : j = pos + 1 := by omega
              exact hk 1 (by simpa using hc.1.1.2)
            · rcases Nat.lt_or_ge j (pos + 3) with hl3 | hl3
              · obtain rfl : j = pos + 2 := by omega
                exact hk 2 (by simpa using hc.1.2)
              · obtain rfl : j = pos + 3 := by simp only at h2; omega
                exact hk 3 (by simpa using hc.2)
        · exact one j h1
      · exact one j h1

set_option maxHeartbeats 800000 in
theorem validRune_any (r : Int) (w : World) : Calls Tryd.prog 70 #[.int .i32 r] w fun e w' => e = .returned (.bool (validRune r)) ∧ w' = w := by
  by_cases h1 : 0 ≤ r
  · by_cases h2 : r < 55296
    · have hv : validRune r = true := decide_eq_true (.inl ⟨h1, h2⟩)
      rw [hv]
      go_enter Tryd.func70, Tryd.ntmps70
      go_wp2
      go_ret
      exact ⟨rfl, rfl⟩
    · by_cases h3 : 57343 < r
      · by_cases h4 : r ≤ 1114111
        · have hv : validRune r = true := decide_eq_true (.inr ⟨h3, h4⟩)
          rw [hv]
          go_enter Tryd.func70, Tryd.ntmps70
          go_wp2
          go_ret
          exact ⟨rfl, rfl⟩
        · have hv : validRune r = false := decide_eq_false (by omega)
          rw [hv]
          go_enter Tryd.func70, Tryd.ntmps70
          go_wp2
          go_ret
          exact ⟨rfl, rfl⟩
      · have hv : validRune r = false := decide_eq_false (by omega)
        rw [hv]
        go_enter Tryd.func70, Tryd.ntmps70
        go_wp2
        go_ret
        exact ⟨rfl, rfl⟩
  · have hv : validRune r = false := decide_eq_false (by omega)
    have h3 : ¬ 57343 < r := by omega
    rw [hv]
    go_enter Tryd.func70, Tryd.ntmps70
    go_wp2
    go_ret
    exact ⟨rfl, rfl⟩

theorem quiet_add_same {P : Program} {f : FuncId} {args : Array Value} {w : World} {a n : Nat} {v : Value}
    (h : Calls P f args (w.drewN (a + n)) fun e w' => e = .returned v ∧ w' = w.drewN (a + n)) :
    Calls P f args (w.drewN (a + n)) fun e w'' => e = .returned v ∧ ∃ m, w'' = w.drewN (a + m) :=
  h.mono fun _ _ ⟨he, hm⟩ => ⟨he, n, hm⟩
theorem byte_no (a b : UInt8) (h : a.toNat < 128) (g : 128 ≤ b.toNat) : (((a.toNat : Int) == (b.toNat : Int)) = false) ∧ (((a.toNat : Int) != (b.toNat : Int)) = true) := by
  have e : ((a.toNat : Int) == (b.toNat : Int)) = false := by rw [beq_eq_false_iff_ne]; omega
  exact ⟨e, by rw [bne, e]; rfl⟩

set_option maxHeartbeats 1600000 in
set_option maxRecDepth 100000 in
/-- a rune that is none of ASCII, sought in two ASCII bytes -/
theorem indexRune_high (s : ByteArray) (hs : s.size = 2) (ha : ∀ i (h : i < s.size), s[i].toNat < 128) (r : Int) (w : World) (h1 : 128 ≤ r) (h2 : r ≤ 2147483647) :
    Calls Tryd.prog 53 #[.string s, .int .i32 r] w fun e w' => e = .returned (.int .i64 (-1)) ∧ Below w.heap.size w w' := by
  have h0 : (0 : Int) ≤ r := by omega
  have h3 : ¬ r < 128 := by omega
  by_cases hr : r = 65533
  · subst hr
    have HA := Lib.hid ha
    clear ha h1 h2 h0 h3
    go_enter Tryd.func53, Tryd.ntmps53
    go_wp2
    go_loopg [5, 6] 2 (fun g _ _ wx => ∃ i : Nat, i + g = 2 ∧ wx = w.iter s i)
    case atStart => exact ⟨0, by omega, rfl⟩
    case round =>
      obtain ⟨i, hig, rfl⟩ := hrel
      cases gk with
      | zero =>
        have hi : ¬ i < s.size := by omega
        have hnx := fun ty => run_next_end (P := Tryd.prog) w s i ty hi
        go_wp2
        go_ret
        exact ⟨rfl, (Below.refl _ _).alloc (Nat.le_refl _) _⟩
      | succ g =>
        have hi : i < s.size := by omega
        have hb := HA.out i hi
        have hnx := fun ty => run_next_ascii (P := Tryd.prog) w s i ty hi hb
        have hne : (((s[i].toNat : Int)) == 65533) = false := by rw [beq_eq_false_iff_ne]; omega
        go_wp2
        go_roundg g
        case measure => omega
        case rel => exact ⟨i + 1, by omega, rfl⟩
  · have hr' : (r == 65533) = false := by rw [beq_eq_false_iff_ne]; exact hr
    by_cases hv : validRune r = true
    · have hf := encode_facts r (by rw [validRune_eq]; exact hv) h1
      obtain ⟨R, hR⟩ : ∃ R, Utf8.encode r = R := ⟨_, rfl⟩
      rw [hR] at hf
      obtain ⟨f1, f2, f3⟩ := hf
      have HR := Lib.hid hR
      have hcv : ∀ w, (convert 21 9 (.int .i32 r)).run Tryd.prog w = .ok (.string R) w := fun w => by rw [← HR.out]; exact run_convert_int_string w _ _ _ _ (by kernel_rfl) Tryd.underlying9
      have HV := Lib.hid hv
      clear hR hv
      by_cases f4 : R.size = 2
      · have hR1 := f3 (by omega)
        have hb1 := ha 1 (by omega)
        obtain ⟨R1, hR1'⟩ : ∃ b : UInt8, R[1]'(by omega) = b := ⟨_, rfl⟩
        obtain ⟨s1, hs1'⟩ : ∃ b : UInt8, s[1]'(by omega) = b := ⟨_, rfl⟩
        have hR1 : 128 ≤ R1.toNat := by
          have e : ∀ k (h : k < R.size), k = 1 → R[k]'h = R1 := by rintro k h rfl; exact hR1'
          rw [← e (R.size - 1) (by omega) (by omega)]; exact f3 _
        rw [hs1'] at hb1
        obtain ⟨n1, n2⟩ := byte_no s1 R1 hb1 hR1
        have hx : s.extract 2 s.size = ⟨#[]⟩ := by rw [hs]; apply ByteArray.ext; simp
        have hIB : ∀ W, Calls Tryd.prog 69 #[.string ⟨#[]⟩, .int .u8 (R1.toNat : Int)] W fun e w' => e = .returned (.int .i64 (-1)) ∧ w' = W := fun W => (Tryd.strings_IndexByte _ _ _).mono fun e w' ⟨he, hw⟩ => ⟨by rw [he]; rfl, hw⟩
        clear f1 f2 f3 hr h2 h1
        go_enter Tryd.func53, Tryd.ntmps53
        go_wp2_with (go_at_call 70; refine (validRune_any _ _).mono ?_; rintro e w' ⟨rfl, hw⟩; rw [hw, HV.out])
        go_step3
        go_wp2_with fail
        go_loopg [9] 1 (fun g u9 wx => u9 = .int .i64 1 ∧ wx = w)
        case atStart => exact ⟨rfl, rfl⟩
        case round =>
          obtain ⟨rfl, rfl⟩ := hrel
          go_wp2_with fail
          go_step3
          go_wp2_with fail
          go_quiet ((fail))
          go_wp2_with fail
          go_quiet ((go_at_call 69; exact quiet_add_same (hIB _)))
          go_wp2_with fail
          rw [Exit.noGoto_ret]
          go_wp2_with fail
          (try rw [Exit.noGoto_ret])
          (try go_wp2_with fail)
          go_ret
          exact ⟨rfl, ⟨rfl, rfl, rfl, Nat.le_refl _, fun _ _ => rfl⟩⟩
      · go_enter Tryd.func53, Tryd.ntmps53
        go_wp2_with (go_at_call 70; refine (validRune_any _ _).mono ?_; rintro e w' ⟨rfl, hw⟩; rw [hw, HV.out])
        go_step3
        go_wp2_with fail
        go_loopg [9] 1 (fun g u9 wx => u9 = .int .i64 (↑R.size - 1) ∧ wx = w)
        case atStart => exact ⟨rfl, rfl⟩
        case round =>
          obtain ⟨rfl, rfl⟩ := hrel
          have hlt : ¬ (↑R.size - 1 : Int) < (s.size : Int) := by omega
          go_wp2_with fail
          (repeat rw [Exit.noGoto_ret])
          go_ret
          exact ⟨rfl, Below.refl _ _⟩
    · have HV := Lib.hid (Bool.eq_false_iff.2 hv)
      clear hv
      go_enter Tryd.func53, Tryd.ntmps53
      go_wp2_with (go_at_call 70; refine (validRune_any _ _).mono ?_; rintro e w' ⟨rfl, hw⟩; rw [hw, HV.out])
      go_ret
      exact ⟨rfl, Below.refl _ _⟩

theorem two_high (b : UInt8) (h : 128 ≤ b.toNat) : ([61, 33] : Bs).contains b = false := by
  have h1 : ¬ b = 61 := fun e => by subst e; revert h; decide
  have h2 : ¬ b = 33 := fun e => by subst e; revert h; decide
  simp [h1, h2]
theorem noAny_skip {l : Bs} {i k : Nat} (h : Lib.NoAny l [61, 33] i) (hs : ∀ j, i ≤ j → j < k → ∃ b, l[j]? = some b ∧ 128 ≤ b.toNat) : Lib.NoAny l [61, 33] k := fun j b hj hb => by
  by_cases hi : j < i
  · exact h j b hi hb
  · obtain ⟨c, hc, h128⟩ := hs j (by omega) hj
    rw [hc] at hb; cases hb
    exact two_high _ h128

set_option maxHeartbeats 8000000 in
set_option maxRecDepth 1000000 in
/-- s of at most 8 bytes, ASCII or not -/
theorem indexAny_short (s chars : ByteArray) (hch : chars.data.toList = [61, 33]) (w : World) (h8 : s.size ≤ 8) :
    Calls Tryd.prog 38 #[.string s, .string chars] w fun e w' => e = .returned (.int .i64 (Lib.indexAny s.data.toList chars.data.toList)) ∧ Below w.heap.size w w' := by
  have hcz : chars.size = 2 := by rw [Lib.size_eq, hch]; rfl
  have hca : ∀ i (h : i < chars.size), chars[i].toNat < 128 := fun i h => by
    have e := Lib.data_getElem? chars i h
    rw [hch] at e
    have hm := List.mem_of_getElem? e
    simp only [List.mem_cons, List.not_mem_nil, or_false] at hm
    rcases hm with hm | hm <;> rw [hm] <;> decide
  have hemp : chars.toList.isEmpty = false := by rw [Lib.toList_data, hch]; rfl
  have hn1 : ((chars.size : Int) == 1) = false := beq_eq_false_iff_ne.2 (by omega)
  have h8z : decide ((8 : Int) < (s.size : Int)) = false := decide_eq_false (by omega)
  have HCH := Lib.hid hch
  have HCA := Lib.hid hca
  clear hca
  rw [hch]
  clear hch
  go_enter Tryd.func38, Tryd.ntmps38
  go_wp2_with (go_at_call 54; refine (Tryd.strings_shouldUseASCIISet _ _).mono ?_; rintro e w' ⟨rfl, hw⟩; rw [hw, h8z])
  go_loopg [9, 10] s.size (fun g _ _ wx => ∃ i : Nat, s.size ≤ i + g ∧ i ≤ s.size ∧ wx.heap[w.heap.size]? = some (.stringIter s i) ∧ Below w.heap.size w wx ∧ Lib.NoAny s.data.toList [61, 33] i)
  case atStart => exact ⟨0, by omega, by omega, World.iter_heap w s 0, (Below.refl _ w).alloc (Nat.le_refl _) _, Lib.NoAny.zero _ _⟩
  case round =>
    obtain ⟨i, hig, his, hit, hbw, hno⟩ := hrel
    have HN := Lib.hid hno
    clear hno
    by_cases hi : i < s.size
    · cases gk with
      | zero => omega
      | succ g =>
        obtain ⟨x, hx⟩ : ∃ x : UInt8, s[i]'hi = x := ⟨_, rfl⟩
        have hxl : s.data.toList[i]? = some x := by rw [← hx]; exact Lib.data_getElem? s i hi
        have Hx := Lib.hid hxl
        by_cases hx128 : x.toNat < 128
        · have hnx : ∀ ty, (Instr.next (.pointer (some ⟨w.heap.size, 0, none⟩)) true ty).run Tryd.prog wr = _ := fun ty => Lib.run_next_ascii_at wr w.heap.size s i ty hit hi (by rw [hx]; exact hx128)
          rw [hx] at hnx
          have hit2 := Lib.iterAt_heap wr w.heap.size s i (i + 1) hit
          have hbw2 := Lib.below_iterAt hbw (k := w.heap.size) (Nat.le_refl _) s (i + 1)
          obtain ⟨W, hWd⟩ : ∃ W, wr.iterAt w.heap.size s (i + 1) = W := ⟨_, rfl⟩
          rw [hWd] at hnx hit2 hbw2
          have HIT := Lib.hid hit2
          have HBW := Lib.hid hbw2
          clear hxl hx hWd hit hbw hit2 hbw2
          have hcon := Lib.contains_iff_indexByte [61, 33] x
          have hback : ((x.toNat : Int)).toNat.toUInt8 = x := by simp
          have hIR : ∀ W, Calls Tryd.prog 53 #[.string chars, .int .i32 (x.toNat : Int)] W fun e w' => e = .returned (.int .i64 (Lib.indexByte [61, 33] x)) ∧ w' = W := fun W => by
            have := Tryd.strings_IndexRune_ascii chars (x.toNat : Int) W (by omega) (by omega)
            rw [HCH.out, hback] at this
            exact this
          have HIR := Lib.hid hIR
          clear hIR hback
          cases hin : ([61, 33] : Bs).contains x
          · rw [hin] at hcon
            have hlt : ¬ ((0 : Int) ≤ Lib.indexByte [61, 33] x) := of_decide_eq_false hcon.symm
            clear hcon
            have HIN := Lib.hid hin
            clear hin
            generalize Lib.indexByte [61, 33] x = IB at *
            go_wp2_with (go_at_call 53; refine (HIR.out _).mono ?_; rintro e w' ⟨rfl, hw⟩; rw [hw])
            go_roundg g
            case measure => omega
            case rel => exact ⟨i + 1, by omega, by omega, HIT.out, HBW.out, HN.out.succ Hx.out HIN.out⟩
          · rw [hin] at hcon
            have hge : (0 : Int) ≤ Lib.indexByte [61, 33] x := of_decide_eq_true hcon.symm
            clear hcon
            have HIN := Lib.hid hin
            clear hin
            generalize Lib.indexByte [61, 33] x = IB at *
            go_wp2_with (go_at_call 53; refine (HIR.out _).mono ?_; rintro e w' ⟨rfl, hw⟩; rw [hw])
            go_ret
            exact ⟨by rw [Lib.indexAny_hit HN.out Hx.out HIN.out]; rfl, HBW.out⟩
        · have hsk := decode_skip s i hi (by rw [hx]; omega)
          have hwd := decode_high s i hi (by rw [hx]; omega)
          have hle := decode_le s i
          have hns := noAny_skip HN.out hsk
          have hend : i + (Utf8.decode s i).2 ≤ s.size := by
            obtain ⟨b, hb, _⟩ := hsk (i + (Utf8.decode s i).2 - 1) (by omega) (by omega)
            have := (List.getElem?_eq_some_iff.1 hb).1
            rw [← Lib.size_eq] at this
            omega
          have hnx : ∀ ty, (Instr.next (.pointer (some ⟨w.heap.size, 0, none⟩)) true ty).run Tryd.prog wr = _ := fun ty => Lib.run_next_any_at wr w.heap.size s i ty hit hi
          generalize (Utf8.decode s i).1 = c at *
          generalize (Utf8.decode s i).2 = k at *
          have hit2 := Lib.iterAt_heap wr w.heap.size s i (i + k) hit
          have hbw2 := Lib.below_iterAt hbw (k := w.heap.size) (Nat.le_refl _) s (i + k)
          obtain ⟨W, hWd⟩ : ∃ W, wr.iterAt w.heap.size s (i + k) = W := ⟨_, rfl⟩
          rw [hWd] at hnx hit2 hbw2
          have hltW : w.heap.size < W.heap.size := (Array.getElem?_eq_some_iff.1 hit2).1
          have HIT := Lib.hid hit2
          have HBW := Lib.hid hbw2
          have HLT := Lib.hid hltW
          have hc1 : (128 : Int) ≤ (c : Int) := by omega
          have hc2 : (c : Int) ≤ 2147483647 := by omega
          have HIR := Lib.hid (fun W => indexRune_high chars hcz HCA.out (c : Int) W hc1 hc2)
          have HNS := Lib.hid hns
          clear hsk hns hxl hx Hx hle hc1 hc2 hWd hit hbw hit2 hbw2 hltW
          have hneg : ¬ ((0 : Int) ≤ -1) := by omega
          go_wp2_with (go_at_call 53; refine (HIR.out _).mono ?_; rintro e w' ⟨rfl, hbx⟩)
          go_roundg g
          case measure => omega
          case rel => exact ⟨i + k, by omega, hend, (hbx.block _ HLT.out).trans HIT.out, HBW.out.trans (hbx.mono HBW.out.size), HNS.out⟩
    · obtain rfl : i = s.size := by omega
      have hnx : ∀ ty, (Instr.next (.pointer (some ⟨w.heap.size, 0, none⟩)) true ty).run Tryd.prog wr = _ := fun ty => Lib.run_next_end_at wr w.heap.size s s.size ty hit hi
      have HBW := Lib.hid hbw
      clear hit hbw
      go_wp2
      go_ret
      exact ⟨by rw [Lib.indexAny_none (by rw [← Lib.size_eq]; exact HN.out)]; rfl, HBW.out⟩

/-- whatever the text -/
theorem indexAny_any (s : ByteArray) (w : World) (hs : s.size ≤ 1000000) :
    Calls Tryd.prog 38 #[.string s, .string ⟨#[61, 33]⟩] w fun e w' => e = .returned (.int .i64 (Lib.indexAny s.data.toList [61, 33])) ∧ Below w.heap.size w w' := by
  by_cases h8 : s.size ≤ 8
  · exact indexAny_short s ⟨#[61, 33]⟩ rfl w h8
  · refine (Tryd.strings_IndexAny_long (fun w => (zero_of_info (n := 256) (by kernel_rfl)).1 w) s ⟨#[61, 33]⟩ w (by decide) (by omega) (by omega) (by decide) (fun j b hb => ?_)).mono fun e w' ⟨h1, h2⟩ => ⟨h1, ?_⟩
    · have hm : b ∈ ([61, 33] : Bs) := List.mem_of_getElem? hb
      simp only [List.mem_cons, List.not_mem_nil, or_false] at hm
      rcases hm with rfl | rfl <;> decide
    · rw [h2]
      exact ((Below.refl _ _).alloc (Nat.le_refl _) _).alloc (by simp) _
end Go.Proofs.YtjkmnanadeffnaaDoor
