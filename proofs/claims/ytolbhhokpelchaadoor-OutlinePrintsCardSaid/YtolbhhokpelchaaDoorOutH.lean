/- The contracts of outline.quoted and flat. -/
import Derived.Test.YtolbhhokpelchaaDoorOutG
import Derived.Test.YtolbhhokpelchaaDoorOwn
namespace Go.Proofs.YtolbhhokpelchaaDoor
open Go.RowKit

theorem Tryd.infoQ : (Tryd.prog.info? 5).map (fun i => (i.zero, i.size, i.bytes)) = some (some (.int .u8 0), 1, 1) := by kernel_rfl
theorem info_partsQ {x : Option TypeInfo} (h : x.map (fun i => (i.zero, i.size, i.bytes)) = some (some (.int .u8 0), 1, 1)) : ∃ i, x = some i ∧ i.zero = some (.int .u8 0) ∧ i.size = 1 ∧ i.bytes = 1 := by
  cases x with
  | none => cases h
  | some i => simp at h; exact ⟨i, rfl, h.1, h.2.1, h.2.2⟩

theorem take_byte (s : ByteArray) (k : Nat) (h : k < s.size) : s.data.toList.take (k + 1) = s.data.toList.take k ++ [s[k]] := by
  rw [List.take_succ_eq_append_getElem (by simpa using h)]; rfl
theorem quoteL_snoc (v : List UInt8) (c : UInt8) : quoteL (v ++ [c]) = quoteL v ++ (if c = 34 ∨ c = 92 then [92, c] else [c]) := by simp [quoteL]
theorem quoteL_take (s : ByteArray) (k : Nat) (h : k < s.size) : quoteL (s.data.toList.take (k + 1)) = quoteL (s.data.toList.take k) ++ (if s[k] = 34 ∨ s[k] = 92 then [92, s[k]] else [s[k]]) := by
  rw [take_byte s k h, quoteL_snoc]
theorem is34_iff (c : UInt8) : c = 34 ↔ c.toNat = 34 := ⟨fun h => by subst h; rfl, fun h => UInt8.toNat_inj.1 h⟩
theorem is92_iff (c : UInt8) : c = 92 ↔ c.toNat = 92 := ⟨fun h => by subst h; rfl, fun h => UInt8.toNat_inj.1 h⟩

def OwnPostQ (T base : Nat) (l : List UInt8) (w : World) (e : Ending) (w' : World) : Prop := ∃ v, e = .returned v ∧ OwnB T w' base v l ∧ Below base w w' ∧ base ≤ w'.heap.size

def quoteS (s : ByteArray) : ByteArray := ⟨(34 :: (quoteL s.data.toList ++ [34])).toArray⟩
def StrB (s : ByteArray) (w : World) (e : Ending) (w' : World) : Prop := e = .returned (.string s) ∧ Below w.heap.size w w'

set_option maxHeartbeats 1600000 in
set_option maxRecDepth 100000 in
theorem quoted_any (s : ByteArray) (w : World) (hs : s.size ≤ 1000000) :
    Calls Tryd.prog 93 #[.string s] w (StrB (quoteS s) w) := by
  obtain ⟨i0, hi, hz0, hz1, hz2⟩ := info_partsQ Tryd.infoQ
  have hown1 := OwnB.made 5 w [34] (by simp)
  have hb1 : Below w.heap.size w (w.alloc (.cells (bytesV [34]).toArray 5)) := (Below.refl _ _).alloc (Nat.le_refl _) _
  have hz1' := hb1.size
  go_enter Tryd.func93, Tryd.ntmps93
  go_wp2_with fail
  go_loopw [3, 4] (fun u i wr => ∃ k : Nat, k ≤ s.size ∧ i = .int .i64 k ∧ OwnB 5 wr w.heap.size u ([34] ++ quoteL (s.data.toList.take k)) ∧ Below w.heap.size w wr ∧ w.heap.size ≤ wr.heap.size) (fun _ i _ => s.size - (intOf i).toNat)
  case atStart => exact ⟨0, Nat.zero_le _, rfl, by rw [show ([34] ++ quoteL (s.data.toList.take 0) : List UInt8) = [34] by simp [quoteL]]; exact hown1, hb1, hz1'⟩
  case round =>
    clear hown1 hb1 hz1'
    obtain ⟨k, hk, rfl, hown, hb, hz⟩ := hrel
    have hql := quoteL_len (s.data.toList.take k)
    have htl : (s.data.toList.take k).length ≤ k := List.length_take_le _ _
    have hlen : ([34] ++ quoteL (s.data.toList.take k)).length ≤ 4000000 := by simp only [List.length_append, List.length_cons, List.length_nil]; omega
    by_cases hks : k < s.size
    · have hq := quoteL_take s k hks
      obtain ⟨L, hL⟩ : ∃ L, [34] ++ quoteL (s.data.toList.take k) = L := ⟨_, rfl⟩
      rw [hL] at hown hlen
      by_cases h34 : s[k] = 34 ∨ s[k] = 92
      · rw [if_pos h34] at hq
        have h34b : s[k].toNat = 34 ∨ s[k].toNat = 92 := by rw [is34_iff, is92_iff] at h34; exact h34
        have HQ : Hid (L ++ [92] ++ [s[k]] = [34] ++ quoteL (s.data.toList.take (k + 1))) := Lib.hid (by rw [hq, ← hL]; simp)
        clear hq h34 hql htl hL
        have t1 : ((s[k].toNat : Int) == 34) = true ∨ ((s[k].toNat : Int) == 34) = false ∧ ((s[k].toNat : Int) == 92) = true := by
          rcases h34b with h | h
          · exact .inl (by rw [beq_iff_eq]; omega)
          · exact .inr ⟨by rw [beq_eq_false_iff_ne]; omega, by rw [beq_iff_eq]; omega⟩
        clear h34b
        rcases t1 with t1 | ⟨t1, t2⟩
        all_goals
          go_wp2_with (at_builtin; refine (wpList_pushB wr rfl _ _ 48 rfl w.heap.size 5 i0 (.int .u8 0) Tryd.underlying48 hi hz0 hz1 hz2 rfl _ L [92] rfl (by assumption) [.int .u8 92] 1 rfl rfl rfl (by simp; omega) (by assumption) ?_))
          intro v2 w2 hown2 hg2
          have hb2 : Below w.heap.size w w2 := hown.grown hb hz hg2
          have hz2' := Nat.le_trans hz hg2.size
          have hlen2 : (L ++ [92]).length ≤ 4000001 := by simp; omega
          clear hown hg2 hb hz
          go_wp2_with (at_builtin; refine (wpList_pushB w2 rfl _ _ 48 rfl w.heap.size 5 i0 (.int .u8 0) Tryd.underlying48 hi hz0 hz1 hz2 rfl _ (L ++ [92]) [s[k]] rfl (by assumption) [.int .u8 (s[k].toNat : Int)] 1 rfl rfl rfl (by simp; omega) (by assumption) ?_))
          intro v3 w3 hown3 hg3
          have hb3 : Below w.heap.size w w3 := hown2.grown hb2 hz2' hg3
          have hz3' := Nat.le_trans hz2' hg3.size
          clear hown2 hg3 hb2 hz2'
          go_wp2
          go_roundw
          case rel => exact ⟨k + 1, by omega, by go_num, by rw [← HQ.out]; simpa using hown3, hb3, hz3'⟩
          case measure => simp [intOf]; omega
      · rw [if_neg h34] at hq
        rw [is34_iff, is92_iff] at h34
        have t1 : ((s[k].toNat : Int) == 34) = false := by rw [beq_eq_false_iff_ne]; omega
        have t2 : ((s[k].toNat : Int) == 92) = false := by rw [beq_eq_false_iff_ne]; omega
        have HQ : Hid (L ++ [s[k]] = [34] ++ quoteL (s.data.toList.take (k + 1))) := Lib.hid (by rw [hq, ← hL]; simp)
        clear hq h34 hql htl hL
        go_wp2_with (at_builtin; refine (wpList_pushB wr rfl _ _ 48 rfl w.heap.size 5 i0 (.int .u8 0) Tryd.underlying48 hi hz0 hz1 hz2 rfl _ L [s[k]] rfl (by assumption) [.int .u8 (s[k].toNat : Int)] 1 rfl rfl rfl (by simp; omega) (by assumption) ?_))
        intro v3 w3 hown3 hg3
        have hb3 : Below w.heap.size w w3 := hown.grown hb hz hg3
        have hz3' := Nat.le_trans hz hg3.size
        clear hown hg3 hb hz
        go_wp2
        go_roundw
        case rel => exact ⟨k + 1, by omega, by go_num, by rw [← HQ.out]; exact hown3, hb3, hz3'⟩
        case measure => simp [intOf]; omega
    · have hq : s.data.toList.take k = s.data.toList := List.take_of_length_le (by simp; omega)
      obtain ⟨L, hL⟩ : ∃ L, [34] ++ quoteL (s.data.toList.take k) = L := ⟨_, rfl⟩
      rw [hL] at hown hlen
      have HQ : Hid (L ++ [34] = 34 :: (quoteL s.data.toList ++ [34])) := Lib.hid (by rw [← hL, hq]; simp)
      clear hq hL hql htl
      go_wp2_with (at_builtin; refine (wpList_pushB wr rfl _ _ 48 rfl w.heap.size 5 i0 (.int .u8 0) Tryd.underlying48 hi hz0 hz1 hz2 rfl _ L [34] rfl (by assumption) [.int .u8 34] 1 rfl rfl rfl (by simp; omega) (by assumption) ?_))
      intro v3 w3 hown3 hg3
      have hb3 : Below w.heap.size w w3 := hown.grown hb hz hg3
      have hst := OwnB.str hown3 Tryd.underlying48 Tryd.underlying5 Tryd.underlying9
      clear hown hg3 hb hz hown3
      go_wp2
      go_ret
      exact ⟨by rw [HQ.out]; rfl, hb3⟩
end Go.Proofs.YtolbhhokpelchaaDoor
