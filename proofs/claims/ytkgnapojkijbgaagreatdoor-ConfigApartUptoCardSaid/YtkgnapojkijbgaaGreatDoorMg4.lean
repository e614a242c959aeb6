/- The contracts of what writes a set: label.appendQuoted, label.Text. -/
import Derived.Test.YtkgnapojkijbgaaGreatDoorLabC
import Derived.Test.YtkgnapojkijbgaaGreatDoorOwn
import Derived.Test.YtkgnapojkijbgaaGreatDoorMg3
import Derived.Test.YtkgnapojkijbgaaGreatDoorLater
import Derived.BigQuiet
import Derived.Deep.RegionHeld3
import Derived.Test.YtkgnapojkijbgaaGreatDoorStrs
import Derived.Test.YtkgnapojkijbgaaGreatDoorShelf
import Derived.Lib.LaidTab
import Derived.Test.YtkgnapojkijbgaaGreatDoorOwnS
import Derived.Test.YtkgnapojkijbgaaGreatDoorAppend
import Derived.Test.YtkgnapojkijbgaaGreatDoorMg1
import Derived.Test.YtkgnapojkijbgaaGreatDoorHrsA
import Derived.Outline
import Derived.Test.YtkgnapojkijbgaaGreatDoorMatD0
import Derived.Test.YtkgnapojkijbgaaGreatDoorMatM
import Derived.Lib.Strings
import Derived.Lib.IndexAny
import Derived.Lib.IndexMore
import Derived.Lib.Split
import Derived.Laws.Rows
import Derived.Laws.Tables
import Derived.Test.YtkgnapojkijbgaaGreatDoorMg2
namespace Go.Proofs.YtkgnapojkijbgaaGreatDoor
open Go.RowKit

theorem Tryz.infoBT : (Tryz.prog.info? 5).map (fun i => (i.zero, i.size, i.bytes)) = some (some (.int .u8 0), 1, 1) := by kernel_rfl
theorem info_partsB {x : Option TypeInfo} (h : x.map (fun i => (i.zero, i.size, i.bytes)) = some (some (.int .u8 0), 1, 1)) : ∃ i, x = some i ∧ i.zero = some (.int .u8 0) ∧ i.size = 1 ∧ i.bytes = 1 := by
  cases x with
  | none => cases h
  | some i => simp at h; exact ⟨i, rfl, h.1, h.2.1, h.2.2⟩

theorem quoteL_snoc (v : List UInt8) (c : UInt8) : quoteL (v ++ [c]) = quoteL v ++ (if c = 34 ∨ c = 92 then [92, c] else [c]) := by simp [quoteL]
theorem quoteL_take (s : ByteArray) (k : Nat) (h : k < s.size) : quoteL (s.data.toList.take (k + 1)) = quoteL (s.data.toList.take k) ++ (if s[k] = 34 ∨ s[k] = 92 then [92, s[k]] else [s[k]]) := by
  rw [take_byte s k h, quoteL_snoc]
theorem is34_iff (c : UInt8) : c = 34 ↔ c.toNat = 34 := ⟨fun h => by subst h; rfl, fun h => UInt8.toNat_inj.1 h⟩
theorem is92_iff (c : UInt8) : c = 92 ↔ c.toNat = 92 := ⟨fun h => by subst h; rfl, fun h => UInt8.toNat_inj.1 h⟩

def OwnPost (T base : Nat) (l : List UInt8) (w : World) (e : Ending) (w' : World) : Prop := ∃ v, e = .returned v ∧ OwnB T w' base v l ∧ Below base w w' ∧ base ≤ w'.heap.size

set_option maxHeartbeats 1600000 in
set_option maxRecDepth 100000 in
theorem appendQuoted_any (v : Value) (l : List UInt8) (s : ByteArray) (base : Nat) (w : World) (hown : OwnB 5 w base v l) (hbase : base ≤ w.heap.size) (hl : l.length ≤ 1000000) (hs : s.size ≤ 1000000) :
    Calls Tryz.prog 189 #[v, .string s] w (OwnPost 5 base (l ++ 34 :: (quoteL s.data.toList ++ [34])) w) := by
  obtain ⟨i0, hi, hz0, hz1, hz2⟩ := info_partsB Tryz.infoBT
  go_enter Tryz.func189, Tryz.ntmps189
  go_wp2_with (at_builtin; refine (wpList_pushB w rfl _ _ 79 rfl base 5 i0 (.int .u8 0) Tryz.underlying79 hi hz0 hz1 hz2 rfl v l [34] rfl hown [.int .u8 34] 1 rfl rfl rfl (by simp; omega) hbase ?_))
  intro v1 w1 hown1 hg1
  have hb1 : Below base w w1 := hown.grown (Below.refl _ _) hbase hg1
  have hz1' := Nat.le_trans hbase hg1.size
  go_wp2_with fail
  go_loopw [0, 5] (fun u i wr => ∃ k : Nat, k ≤ s.size ∧ i = .int .i64 k ∧ OwnB 5 wr base u (l ++ [34] ++ quoteL (s.data.toList.take k)) ∧ Below base w wr ∧ base ≤ wr.heap.size) (fun _ i _ => s.size - (intOf i).toNat)
  case atStart => exact ⟨0, Nat.zero_le _, rfl, by simpa [quoteL] using hown1, hb1, hz1'⟩
  case round =>
    clear hown1 hb1 hz1' hg1 hown
    obtain ⟨k, hk, rfl, hown, hb, hz⟩ := hrel
    have hql := quoteL_len (s.data.toList.take k)
    have htl : (s.data.toList.take k).length ≤ k := List.length_take_le _ _
    have hlen : (l ++ [34] ++ quoteL (s.data.toList.take k)).length ≤ 4000000 := by simp only [List.length_append, List.length_cons, List.length_nil]; omega
    by_cases hks : k < s.size
    · have hq := quoteL_take s k hks
      obtain ⟨L, hL⟩ : ∃ L, l ++ [34] ++ quoteL (s.data.toList.take k) = L := ⟨_, rfl⟩
      rw [hL] at hown hlen
      by_cases h34 : s[k] = 34 ∨ s[k] = 92
      · rw [if_pos h34] at hq
        have h34b : s[k].toNat = 34 ∨ s[k].toNat = 92 := by rw [is34_iff, is92_iff] at h34; exact h34
        have HQ : Hid (L ++ [92] ++ [s[k]] = l ++ [34] ++ quoteL (s.data.toList.take (k + 1))) := Lib.hid (by rw [hq, ← hL]; simp)
        clear hq h34 hql htl hL
        have t1 : ((s[k].toNat : Int) == 34) = true ∨ ((s[k].toNat : Int) == 34) = false ∧ ((s[k].toNat : Int) == 92) = true := by
          rcases h34b with h | h
          · exact .inl (by rw [beq_iff_eq]; omega)
          · exact .inr ⟨by rw [beq_eq_false_iff_ne]; omega, by rw [beq_iff_eq]; omega⟩
        clear h34b
        rcases t1 with t1 | ⟨t1, t2⟩
        all_goals
          go_wp2_with (at_builtin; refine (wpList_pushB wr rfl _ _ 79 rfl base 5 i0 (.int .u8 0) Tryz.underlying79 hi hz0 hz1 hz2 rfl _ L [92] rfl (by assumption) [.int .u8 92] 1 rfl rfl rfl (by simp; omega) (by assumption) ?_))
          intro v2 w2 hown2 hg2
          have hb2 : Below base w w2 := hown.grown hb hz hg2
          have hz2' := Nat.le_trans hz hg2.size
          have hlen2 : (L ++ [92]).length ≤ 4000001 := by simp; omega
          clear hown hg2 hb hz
          go_wp2_with (at_builtin; refine (wpList_pushB w2 rfl _ _ 79 rfl base 5 i0 (.int .u8 0) Tryz.underlying79 hi hz0 hz1 hz2 rfl _ (L ++ [92]) [s[k]] rfl (by assumption) [.int .u8 (s[k].toNat : Int)] 1 rfl rfl rfl (by simp; omega) (by assumption) ?_))
          intro v3 w3 hown3 hg3
          have hb3 : Below base w w3 := hown2.grown hb2 hz2' hg3
          have hz3' := Nat.le_trans hz2' hg3.size
          clear hown2 hg3 hb2 hz2'
          go_wp2
          go_roundw
          case rel => exact ⟨k + 1, by omega, by go_num, by rw [← HQ.out]; simpa using hown3, hb3, hz3'⟩
          case measure => simp [intOf]; omega
      · rw [if_neg h34] at hq
        rw [is34_iff, is92_iff] at h34
        have t1 : ((s[k].toNat : Int) == 34) = false := by rw [beq_eq_false_iff_ne]; omega
        have t2 : ((s[k].toNat : Int) == 92) = false := by rw [beq_eq_false_iff_ne]; omega
        have HQ : Hid (L ++ [s[k]] = l ++ [34] ++ quoteL (s.data.toList.take (k + 1))) := Lib.hid (by rw [hq, ← hL]; simp)
        clear hq h34 hql htl hL
        go_wp2_with (at_builtin; refine (wpList_pushB wr rfl _ _ 79 rfl base 5 i0 (.int .u8 0) Tryz.underlying79 hi hz0 hz1 hz2 rfl _ L [s[k]] rfl (by assumption) [.int .u8 (s[k].toNat : Int)] 1 rfl rfl rfl (by simp; omega) (by assumption) ?_))
        intro v3 w3 hown3 hg3
        have hb3 : Below base w w3 := hown.grown hb hz hg3
        have hz3' := Nat.le_trans hz hg3.size
        clear hown hg3 hb hz
        go_wp2
        go_roundw
        case rel => exact ⟨k + 1, by omega, by go_num, by rw [← HQ.out]; exact hown3, hb3, hz3'⟩
        case measure => simp [intOf]; omega
    · have hq : s.data.toList.take k = s.data.toList := List.take_of_length_le (by simp; omega)
      obtain ⟨L, hL⟩ : ∃ L, l ++ [34] ++ quoteL (s.data.toList.take k) = L := ⟨_, rfl⟩
      rw [hL] at hown hlen
      have HQ : Hid (L ++ [34] = l ++ 34 :: (quoteL s.data.toList ++ [34])) := Lib.hid (by rw [← hL, hq]; simp)
      clear hq hL hql htl
      go_wp2_with (at_builtin; refine (wpList_pushB wr rfl _ _ 79 rfl base 5 i0 (.int .u8 0) Tryz.underlying79 hi hz0 hz1 hz2 rfl _ L [34] rfl (by assumption) [.int .u8 34] 1 rfl rfl rfl (by simp; omega) (by assumption) ?_))
      intro v3 w3 hown3 hg3
      have hb3 : Below base w w3 := hown.grown hb hz hg3
      have hz3' := Nat.le_trans hz hg3.size
      clear hown hg3 hb hz
      go_wp2
      go_ret
      exact ⟨v3, rfl, by rw [← HQ.out]; exact hown3, hb3, hz3'⟩

theorem bodyT_take (ls : List Lab) (k : Nat) (h : k < ls.length) : bodyT (ls.take (k + 1)) = bodyT (ls.take k) ++ (if k = 0 then [] else [44]) ++ labT ls[k] := by
  rw [List.take_succ_eq_append_getElem h, bodyT_snoc]
  congr 2
  by_cases hk : k = 0
  · subst hk; simp
  · rw [if_neg hk, if_neg]
    intro e
    have : (ls.take k).length = 0 := by rw [e]; rfl
    rw [List.length_take] at this
    omega
theorem bodyT_le (ls : List Lab) (h : rightC ls = true) (k : Nat) : (bodyT (ls.take k)).length ≤ 1568 := by
  obtain ⟨h1, h2, _⟩ := (rightC_iff ls).1 h
  have := bodyT_len (ls.take k) (fun l hl => h2 l (List.mem_of_mem_take hl))
  have h3 : (ls.take k).length ≤ 8 := by rw [List.length_take]; omega
  have : (ls.take k).length * 196 ≤ 8 * 196 := Nat.mul_le_mul_right _ h3
  omega
theorem lab_sizes {l : Lab} (h : labC l = true) : l.1.size ≤ 64 ∧ l.2.size ≤ 64 := by
  simp only [labC, nameC, valC, Bool.and_eq_true, decide_eq_true_eq, Array.length_toList, ByteArray.size_data] at h
  omega

def textS (ls : List Lab) : ByteArray := ⟨(textL ls).toArray⟩
def TextPostL (s : ByteArray) (n : Int) (w : World) (e : Ending) (w' : World) : Prop := e = .returned (.tuple #[.string s, .int .i64 n]) ∧ Below w.heap.size w w'

set_option maxHeartbeats 3200000 in
set_option maxRecDepth 100000 in
theorem text_ok (a : Option Addr) (c : Nat) (ls : List Lab) (w : World) (h : HasLabs w a c ls) (hr : rightC ls = true) :
    Calls Tryz.prog 146 #[.slice a ls.length c] w (TextPostL (textS ls) 0 w) := by
  obtain ⟨i0, hi, hz0, hz1, hz2⟩ := info_partsB Tryz.infoBT
  have hri := fun W (hW : HasLabs W a c ls) => right_any a c ls W hW
  rw [hr] at hri
  have HRI := Lib.hid hri
  have HL := Lib.hid h
  have HR := Lib.hid hr
  have h2 := h.2.1
  have h1 := h.1
  unfold maxLen at h2
  clear hri h hr
  go_enter Tryz.func146, Tryz.ntmps146
  go_upto_region 3 with (go_at_call 164; refine (HRI.out _ HL.out).mono ?_; rintro e w1 ⟨rfl, hb1⟩)
  have hown1 := OwnB.made 5 w1 [123] (by simp)
  have hbA : Below w.heap.size w (w1.alloc (.cells (bytesV [123]).toArray 5)) := hb1.alloc hb1.size _
  have hzA := hbA.size
  go_wp2_with fail
  go_loopw [4, 13, 5] (fun v i _ wr => ∃ k : Nat, k ≤ ls.length ∧ i = .int .i64 k ∧ OwnB 5 wr w.heap.size v (123 :: bodyT (ls.take k)) ∧ Below w.heap.size w wr ∧ w.heap.size ≤ wr.heap.size) (fun _ i _ _ => ls.length - (intOf i).toNat)
  case atStart => exact ⟨0, Nat.zero_le _, rfl, hown1.base hb1.size, hbA, hzA⟩
  case round =>
    clear hown1 hbA hzA hb1
    obtain ⟨k, hk, rfl, hown, hb, hz⟩ := hrel
    have hlen0 := bodyT_le ls HR.out k
    have hlen : (123 :: bodyT (ls.take k)).length ≤ 1600 := by simp; omega
    obtain ⟨L, hL⟩ : ∃ L, 123 :: bodyT (ls.take k) = L := ⟨_, rfl⟩
    rw [hL] at hown hlen
    by_cases hkl : k < ls.length
    · have hls := HL.out.call hb
      obtain ⟨_, _, _, h4⟩ := hls
      obtain ⟨b, off, rfl, hbb, hcell⟩ : ∃ b off, a = some ⟨b, off, none⟩ ∧ b < wr.heap.size ∧ ∀ i (h : i < ls.length), wr.cell? ⟨b, off + i * 2, none⟩ = some (.string ls[i].1) ∧ wr.cell? ⟨b, off + i * 2 + 1, none⟩ = some (.string ls[i].2) := by
        rcases h4 with rfl | h4
        · exact absurd hkl (by simp)
        · exact h4
      obtain ⟨hc1, hc2⟩ := hcell k hkl
      obtain ⟨hs1, hs2⟩ := lab_sizes (((rightC_iff ls).1 HR.out).2.1 _ (List.getElem_mem hkl))
      have htk := bodyT_take ls k hkl
      obtain ⟨X, hX⟩ : ∃ X, ls[k] = X := ⟨_, rfl⟩
      rw [hX] at hc1 hc2 hs1 hs2 htk
      have HTK := Lib.hid htk
      clear hX htk hcell
      have hbx := Blk.new wr 152 #[.string X.1, .string X.2]
      have hownW := hown.alloc (.cells #[.string X.1, .string X.2] 152)
      have hbW := hb.alloc hz (.cells #[.string X.1, .string X.2] 152)
      have hzW := hbW.size
      clear hown hb
      go_upto_region 7 with fail
      generalize wr.alloc (.cells #[.string X.1, .string X.2] 152) = W at *
      generalize wr.heap.size = B at *
      rcases Nat.eq_zero_or_pos k with hk0 | hk1
      · have e0 : ∃ M, M = L ∧ 123 :: bodyT (ls.take (k + 1)) = M ++ labT X ∧ M.length ≤ 1602 := ⟨_, rfl, by rw [HTK.out, ← hL, if_pos hk0]; simp, by omega⟩
        obtain ⟨M, hM, hM2, hMl⟩ := e0
        have HM : Hid (M ++ labT X = 123 :: bodyT (ls.take (k + 1))) := Lib.hid hM2.symm
        have hown := hownW
        rw [← hM] at hown
        have hb := hbW
        have hz := hzW
        clear hM hM2 hownW hbW hzW hL hlen
        have hk2 : (0 < k) = False := by simp [hk0]
        have hk1 : decide (0 < k) = false := by simp [hk0]
        clear hk0
        have q1 := hbx.cell 0
        have q2 := hbx.cell 1
        go_wp2_with (at_builtin; refine (wpList_appB _ rfl _ _ 79 9 rfl w.heap.size 5 i0 (.int .u8 0) Tryz.underlying79 Tryz.underlying9 hi hz0 hz1 hz2 rfl _ M rfl (by assumption) X.1 rfl (by omega) (by assumption) ?_))
        intro v2 w2 hown2 hg2
        have hb2 : Below w.heap.size w w2 := hown.grown hb hz hg2
        have hz2' := Nat.le_trans hz hg2.size
        have hbx2 := hbx.pushB hown (by decide) hg2
        have hl2 : (M ++ X.1.data.toList).length ≤ 1700 := by simp; omega
        obtain ⟨M2, HM2⟩ : ∃ M2, Hid (M ++ X.1.data.toList = M2) := ⟨_, Lib.hid rfl⟩
        rw [HM2.out] at hown2 hl2
        clear hown hg2 hb hz hbx q1 q2
        have q1 := hbx2.cell 0
        have q2 := hbx2.cell 1
        go_wp2_with (at_builtin; refine (wpList_pushB w2 rfl _ _ 79 rfl w.heap.size 5 i0 (.int .u8 0) Tryz.underlying79 hi hz0 hz1 hz2 rfl _ M2 [61] rfl (by assumption) [.int .u8 61] 1 rfl rfl rfl (by simp; omega) (by assumption) ?_))
        intro v3 w3 hown3 hg3
        have hb3 : Below w.heap.size w w3 := hown2.grown hb2 hz2' hg3
        have hz3' := Nat.le_trans hz2' hg3.size
        have hbx3 := hbx2.pushB hown2 (by decide) hg3
        have hl3 : (M2 ++ [61]).length ≤ 1701 := by rw [List.length_append]; simp only [List.length_cons, List.length_nil]; omega
        obtain ⟨M3, HM3⟩ : ∃ M3, Hid (M2 ++ [61] = M3) := ⟨_, Lib.hid rfl⟩
        rw [HM3.out] at hown3 hl3
        have hl4 := Nat.le_trans hl3 (show 1701 ≤ 1000000 by omega)
        clear hown2 hg3 hb2 hz2' hbx2 q1 q2 hl3
        have q1 := hbx3.cell 0
        have q2 := hbx3.cell 1
        go_wp2_with (go_at_call 189; (with_reducible refine (appendQuoted_any _ _ X.2 _ _ (by assumption) hz3' hl4 (by omega)).mono ?_); rintro e w4 ⟨v4, rfl, hown4, hb4, hz4⟩)
        have hb5 := hb3.trans hb4
        clear hb3 hb4 hbx3 q1 q2 hown3
        go_roundw
        case rel => exact ⟨k + 1, by omega, by go_num, by have h9 := hown4; rw [← HM3.out, ← HM2.out] at h9; rw [← HM.out]; simpa [labT] using h9, hb5, hz4⟩
        case measure => simp [intOf]; omega
      · have e0 : 123 :: bodyT (ls.take (k + 1)) = L ++ [44] ++ labT X := by rw [HTK.out, ← hL, if_neg (by omega)]; simp
        have E0 := Lib.hid e0
        clear e0 hL
        go_wp2_with (at_builtin; refine (wpList_pushB W rfl _ _ 79 rfl w.heap.size 5 i0 (.int .u8 0) Tryz.underlying79 hi hz0 hz1 hz2 rfl _ L [44] rfl (by assumption) [.int .u8 44] 1 rfl rfl rfl (by simp; omega) (by assumption) ?_))
        intro v1 w1 hown hg
        have hb : Below w.heap.size w w1 := hownW.grown hbW hzW hg
        have hz := Nat.le_trans hzW hg.size
        have hbx' := hbx.pushB hownW (by decide) hg
        clear hbx hownW hbW hzW hg
        have hbx := hbx'
        clear hbx'
        obtain ⟨M, hM⟩ : ∃ M, L ++ [44] = M := ⟨_, rfl⟩
        have hMl : M.length ≤ 1602 := by rw [← hM]; simp; omega
        rw [hM] at hown
        have HM : Hid (M ++ labT X = 123 :: bodyT (ls.take (k + 1))) := Lib.hid (by rw [E0.out, ← hM])
        clear hM hlen
        have q1 := hbx.cell 0
        have q2 := hbx.cell 1
        go_wp2_with (at_builtin; refine (wpList_appB _ rfl _ _ 79 9 rfl w.heap.size 5 i0 (.int .u8 0) Tryz.underlying79 Tryz.underlying9 hi hz0 hz1 hz2 rfl _ M rfl (by assumption) X.1 rfl (by omega) (by assumption) ?_))
        intro v2 w2 hown2 hg2
        have hb2 : Below w.heap.size w w2 := hown.grown hb hz hg2
        have hz2' := Nat.le_trans hz hg2.size
        have hbx2 := hbx.pushB hown (by decide) hg2
        have hl2 : (M ++ X.1.data.toList).length ≤ 1700 := by simp; omega
        obtain ⟨M2, HM2⟩ : ∃ M2, Hid (M ++ X.1.data.toList = M2) := ⟨_, Lib.hid rfl⟩
        rw [HM2.out] at hown2 hl2
        clear hown hg2 hb hz hbx q1 q2
        have q1 := hbx2.cell 0
        have q2 := hbx2.cell 1
        go_wp2_with (at_builtin; refine (wpList_pushB w2 rfl _ _ 79 rfl w.heap.size 5 i0 (.int .u8 0) Tryz.underlying79 hi hz0 hz1 hz2 rfl _ M2 [61] rfl (by assumption) [.int .u8 61] 1 rfl rfl rfl (by simp; omega) (by assumption) ?_))
        intro v3 w3 hown3 hg3
        have hb3 : Below w.heap.size w w3 := hown2.grown hb2 hz2' hg3
        have hz3' := Nat.le_trans hz2' hg3.size
        have hbx3 := hbx2.pushB hown2 (by decide) hg3
        have hl3 : (M2 ++ [61]).length ≤ 1701 := by rw [List.length_append]; simp only [List.length_cons, List.length_nil]; omega
        obtain ⟨M3, HM3⟩ : ∃ M3, Hid (M2 ++ [61] = M3) := ⟨_, Lib.hid rfl⟩
        rw [HM3.out] at hown3 hl3
        have hl4 := Nat.le_trans hl3 (show 1701 ≤ 1000000 by omega)
        clear hown2 hg3 hb2 hz2' hbx2 q1 q2 hl3
        have q1 := hbx3.cell 0
        have q2 := hbx3.cell 1
        go_wp2_with (go_at_call 189; (with_reducible refine (appendQuoted_any _ _ X.2 _ _ (by assumption) hz3' hl4 (by omega)).mono ?_); rintro e w4 ⟨v4, rfl, hown4, hb4, hz4⟩)
        have hb5 := hb3.trans hb4
        clear hb3 hb4 hbx3 q1 q2 hown3
        go_roundw
        case rel => exact ⟨k + 1, by omega, by go_num, by have h9 := hown4; rw [← HM3.out, ← HM2.out] at h9; rw [← HM.out]; simpa [labT] using h9, hb5, hz4⟩
        case measure => simp [intOf]; omega
    · have hend : L ++ [125] = textL ls := by rw [← hL, List.take_of_length_le (by omega)]; simp [textL]
      have HE := Lib.hid hend
      clear hL hend
      go_upto_region 13 with fail
      go_wp2_with (at_builtin; refine (wpList_pushB wr rfl _ _ 79 rfl w.heap.size 5 i0 (.int .u8 0) Tryz.underlying79 hi hz0 hz1 hz2 rfl _ L [125] rfl (by assumption) [.int .u8 125] 1 rfl rfl rfl (by simp; omega) (by assumption) ?_))
      intro v2 w2 hown2 hg2
      have hb2 : Below w.heap.size w w2 := hown.grown hb hz hg2
      have hcv := OwnB.str (P := Tryz.prog) (src := 79) (dst := 9) hown2 Tryz.underlying79 Tryz.underlying5 Tryz.underlying9
      clear hown hown2 hg2 hb hz
      go_wp2
      go_ret2
      exact ⟨by rw [HE.out]; rfl, hb2⟩

theorem text_bad (a : Option Addr) (c : Nat) (ls : List Lab) (w : World) (h : HasLabs w a c ls) (hr : rightC ls = false) :
    Calls Tryz.prog 146 #[.slice a ls.length c] w (TextPostL ⟨#[]⟩ 1 w) := by
  have hri := fun W (hW : HasLabs W a c ls) => right_any a c ls W hW
  rw [hr] at hri
  have HRI := Lib.hid hri
  have HL := Lib.hid h
  clear hri h hr
  go_enter Tryz.func146, Tryz.ntmps146
  go_wp2_with (go_at_call 164; refine (HRI.out _ HL.out).mono ?_; rintro e w1 ⟨rfl, hb1⟩)
  go_ret2
  exact ⟨rfl, hb1⟩
def textP (ls : List Lab) : ByteArray × Int := if rightC ls = true then (textS ls, 0) else (⟨#[]⟩, 1)
theorem text_any (a : Option Addr) (c : Nat) (ls : List Lab) (w : World) (h : HasLabs w a c ls) :
    Calls Tryz.prog 146 #[.slice a ls.length c] w (TextPostL (textP ls).1 (textP ls).2 w) := by
  cases hr : rightC ls with
  | true =>
    have e : textP ls = (textS ls, 0) := by rw [textP, if_pos hr]
    rw [e]; exact text_ok a c ls w h hr
  | false =>
    have e : textP ls = (⟨#[]⟩, 1) := by rw [textP, if_neg (by rw [hr]; simp)]
    rw [e]; exact text_bad a c ls w h hr
end Go.Proofs.YtkgnapojkijbgaaGreatDoor
/- The contract of rules.Words. -/
namespace Go.Proofs.YtkgnapojkijbgaaGreatDoor
open Go.RowKit

/-- the powers of ten, as the library has them -/
def TabW (w : World) : Prop := Lib.TabIs Tryz.prog w "internal/strconv.uint64pow10" .u64 Lib.pow10Tab
theorem TabW.call {w w1 : World} (h : TabW w) (hb : Below w.heap.size w w1) : TabW w1 := by
  unfold TabW Lib.TabIs World.var? at *
  have hg : Tryz.prog.globalNamed "internal/strconv.uint64pow10" = some 4 := by kernel_rfl
  rw [hg] at h ⊢
  simp only [Option.bind_some] at h ⊢
  have hlt : 4 < w.heap.size := by
    rcases Nat.lt_or_ge 4 w.heap.size with h1 | h1
    · exact h1
    · rw [Array.getElem?_eq_none h1] at h; cases h
  rw [hb.block _ hlt]
  exact h
def StrZ (s : ByteArray) (w : World) (e : Ending) (w' : World) : Prop := e = .returned (.string s) ∧ Below w.heap.size w w'
theorem itoa_any (n : Int) (h0 : -9223372036854775808 ≤ n) (h1 : n ≤ 9223372036854775807) (w : World) (hT : TabW w) : Calls Tryz.prog 95 #[.int .i64 n] w (StrZ (itoaS n) w) := by
  refine (Tryz.strconv_Itoa n h0 h1 w hT).mono ?_
  rintro e w' ⟨rfl, k, os, rfl⟩
  exact ⟨rfl, (below_drewN (Below.refl _ w) k).trans (below_grow (w.drewN k) os)⟩

def WordsE (ss : List ByteArray) (n : Int) (w : World) (e : Ending) (w' : World) : Prop :=
  ∃ a c, e = .returned (.tuple #[.slice a ss.length c, .int .i64 n]) ∧ HasStrs w' a c ss ∧ Below w.heap.size w w'

theorem strs8 (w : World) (s0 s1 s2 s3 s4 s5 s6 s7 : ByteArray) (h0 : s0.size ≤ maxLen) (h1 : s1.size ≤ maxLen) (h2 : s2.size ≤ maxLen) (h3 : s3.size ≤ maxLen) (h4 : s4.size ≤ maxLen) (h5 : s5.size ≤ maxLen) (h6 : s6.size ≤ maxLen) (h7 : s7.size ≤ maxLen) :
    HasStrs (w.alloc (.cells #[.string s0, .string s1, .string s2, .string s3, .string s4, .string s5, .string s6, .string s7] 9)) (some ⟨w.heap.size, 0, none⟩) 8 [s0, s1, s2, s3, s4, s5, s6, s7] := by
  have hB := Blk.new w 9 #[.string s0, .string s1, .string s2, .string s3, .string s4, .string s5, .string s6, .string s7]
  refine ⟨Nat.le_refl _, by unfold maxLen; omega, fun s hs => ?_, .inr ⟨_, _, rfl, hB.lt, fun i hi => ?_⟩⟩
  · simp only [List.mem_cons, List.not_mem_nil, or_false] at hs
    rcases hs with rfl | rfl | rfl | rfl | rfl | rfl | rfl | rfl <;> assumption
  · have : i = 0 ∨ i = 1 ∨ i = 2 ∨ i = 3 ∨ i = 4 ∨ i = 5 ∨ i = 6 ∨ i = 7 := by simp at hi; omega
    rcases this with rfl | rfl | rfl | rfl | rfl | rfl | rfl | rfl
    · exact hB.cell 0
    · exact hB.cell 1
    · exact hB.cell 2
    · exact hB.cell 3
    · exact hB.cell 4
    · exact hB.cell 5
    · exact hB.cell 6
    · exact hB.cell 7
theorem dec_len (u : Nat) : (Lib.decDigits u).length ≤ u + 1 := by
  induction u using Nat.strongRecOn with
  | _ u ih =>
    rw [Lib.decDigits]
    split
    · simp
    · have := ih (u / 10) (by omega)
      rw [List.length_append]
      simp only [List.length_cons, List.length_nil]
      omega
theorem itoa_len (n : Int) (h0 : -1099511627776 ≤ n) (h1 : n ≤ 1099511627776) : (itoaS n).size ≤ maxLen := by
  have h : (itoaS n).size = (Lib.itoa n).length := by simp [itoaS, ByteArray.size]
  rw [h]
  unfold Lib.itoa maxLen
  split
  · have := dec_len n.natAbs
    simp only [List.length_cons]
    omega
  · have := dec_len n.toNat
    omega
theorem text_len {ls : List Lab} (h : rightC ls = true) : (textS ls).size ≤ maxLen := by
  have h1 : (textS ls).size = (textL ls).length := by simp [textS, ByteArray.size]
  have h2 := bodyT_le ls h ls.length
  rw [List.take_length] at h2
  rw [h1]
  unfold textL maxLen
  simp only [List.length_cons, List.length_append, List.length_nil]
  omega

set_option maxHeartbeats 6400000 in
set_option maxRecDepth 100000 in
theorem words_any (r : Rul) (a : Option Addr) (c : Nat) (w : World) (h : RulAt w r a c) (hT : TabW w) : Calls Tryz.prog 81 #[.agg (rCells r a c)] w (WordsE (wordsP r).1 (wordsP r).2 w) := by
  have HR := Lib.hid (fun W (h : RulAt W r a c) => rulRight_any r a c W h)
  have hb := (Below.refl w.heap.size w).alloc (Nat.le_refl _) (.cells (rCells r a c) 44)
  have hB := Blk.new w 44 (rCells r a c)
  have hA := h.call hb
  have hT1 := hT.call hb
  have hX := fun W (h : HasLabs W a c r.labels) (hr : rightC r.labels = true) => text_ok a c r.labels W h hr
  have hszn := h.2
  clear h hT
  cases hr : rulC r with
  | false =>
    have e : wordsP r = ([], 1) := by rw [wordsP, if_neg (by rw [hr]; simp)]
    rw [e]
    rw [hr] at HR
    have HB := Lib.hid hb
    have HA := Lib.hid hA
    clear hr e hX hb hA
    obtain ⟨c0, c1, c2, c3, c4, c5, c6, c7⟩ := hB.cells8
    simp only [rCells] at *
    go_enter Tryz.func81, Tryz.ntmps81
    go_wp2_with (go_at_call 50; refine (HR.out _ HA.out).mono ?_; rintro e w2 ⟨rfl, hb2⟩)
    go_ret2
    exact ⟨none, 0, rfl, HasStrs.nil _ _ _ (Nat.zero_le _), bthen HB.out hb2⟩
  | true =>
    have e : wordsP r = (wordsL r, 0) := by rw [wordsP, if_pos hr]
    rw [e]
    rw [hr] at HR
    obtain ⟨_, _, ⟨g1, g2⟩, ⟨g3, g4⟩, ⟨g5, g6⟩, ⟨g7, g8⟩, ⟨g9, g10⟩, g11⟩ := (rulC_iff r).1 hr
    have hrl := ((rlabsC_iff _).1 g11).2.1
    have hts := text_len hrl
    have hz1 := itoa_len r.limit g3 g4
    have hz2 := itoa_len r.fr (by omega) g6
    have hz3 := itoa_len r.keep (by omega) g8
    have hz4 := itoa_len r.tries (by omega) (by omega)
    have hk : r.how = 1 ∨ r.how = 2 ∨ r.how = 3 ∨ r.how = 4 ∨ r.how = 5 := by omega
    have hI1 := fun W (hW : TabW W) => itoa_any r.limit (by omega) (by omega) W hW
    have hI2 := fun W (hW : TabW W) => itoa_any r.fr (by omega) (by omega) W hW
    have hI3 := fun W (hW : TabW W) => itoa_any r.keep (by omega) (by omega) W hW
    have hI4 := fun W (hW : TabW W) => itoa_any r.tries (by omega) (by omega) W hW
    have HI1 := Lib.hid hI1
    have HI2 := Lib.hid hI2
    have HI3 := Lib.hid hI3
    have HI4 := Lib.hid hI4
    have HX := Lib.hid (fun W (h : HasLabs W a c r.labels) => hX W h hrl)
    clear hI1 hI2 hI3 hI4 hX hrl g3 g4 g5 g6 g7 g8 g9 g10 g11 hr e
    have HSZ := Lib.hid (And.intro hszn (And.intro hz1 (And.intro hz2 (And.intro hz3 (And.intro hz4 hts)))))
    clear hz1 hz2 hz3 hz4 hts hszn g1 g2
    obtain ⟨n, m, k, l, f, p, t, ls⟩ := r
    simp only [rCells, wordsL] at *
    generalize itoaS l = S1 at *
    generalize itoaS f = S2 at *
    generalize itoaS p = S3 at *
    generalize itoaS t = S4 at *
    have hTX : textB ls = textS ls := rfl
    rw [hTX]
    clear hTX
    generalize textS ls = TX at *
    obtain ⟨c0, c1, c2, c3, c4, c5, c6, c7⟩ := hB.cells8
    go_enter Tryz.func81, Tryz.ntmps81
    go_upto_region 4 with (first
      | (go_at_call 50; refine (HR.out _ hA).mono ?_; rintro e w2 ⟨rfl, hb2⟩; have hB2 := hB.call hb2; have hA2 := hA.call hb2; have hT2 := hT1.call hb2; have hq2 := bthen hb hb2; obtain ⟨d0, d1, d2, d3, d4, d5, d6, d7⟩ := hB2.cells8)
      | (go_at_call 146; refine (HX.out _ hA2.1).mono ?_; rintro e w3 ⟨rfl, hb3⟩; have hB3 := hB2.call hb3; have hT3 := hT2.call hb3; have hq3 := bthen hq2 hb3))
    have HCS := Lib.hid (fun W (hW : Below w3.heap.size w3 W) => (hB3.call hW).cells8)
    have HT := Lib.hid (fun W (hW : Below w3.heap.size w3 W) => hT3.call hW)
    have HQ := Lib.hid hq3
    clear hB hB2 hB3 hA hA2 hT1 hT2 hT3 hb hb2 hb3 hq2 hq3 c0 c1 c2 c3 c4 c5 c6 c7 d0 d1 d2 d3 d4 d5 d6 d7 HR HX
    rcases hk with rfl | rfl | rfl | rfl | rfl
    · have i1 := fun (x y : Nat) (W : World) => (show (Instr.index 163 (.agg (howsV x y)) (.int .i64 1)).run Tryz.prog W = .ok (.agg #[.string ⟨#[62]⟩, .func (.func 190) #[] #[]]) W by kernel_rfl)
      have i2 := fun (W : World) => (show (Instr.field 162 (.agg #[.string ⟨#[62]⟩, .func (.func 190) #[] #[]]) 0).run Tryz.prog W = .ok (.string ⟨#[62]⟩) W by kernel_rfl)
      go_region_held3 (fun w' => w'.cell? ⟨w.heap.size, 0, none⟩ = some (.string n) ∧ w'.cell? ⟨w.heap.size, 1, none⟩ = some (.string m) ∧ w'.cell? ⟨w.heap.size, 2, none⟩ = some (.int .i64 1) ∧ w'.cell? ⟨w.heap.size, 3, none⟩ = some (.int .i64 l) ∧ w'.cell? ⟨w.heap.size, 4, none⟩ = some (.int .i64 f) ∧ w'.cell? ⟨w.heap.size, 5, none⟩ = some (.int .i64 p) ∧ w'.cell? ⟨w.heap.size, 6, none⟩ = some (.int .i64 t) ∧ w'.cell? ⟨w.heap.size, 7, none⟩ = some (.slice a ls.length c))
        (first | exact HCS.out _ (Below.refl _ _).drew | exact HCS.out _ hq8 | exact HCS.out _ hq7 | exact HCS.out _ hq6 | exact HCS.out _ hq5 | exact HCS.out _ hq4 | exact HCS.out _ (hq8.alloc hz8 _))
        (first
          | (go_at_call 147; refine (hows_any _).mono ?_; rintro e w4 ⟨x, y, rfl, hx, hy, hb4⟩; have hq4 := bthen (Below.refl _ _).drew hb4)
          | (go_at_call 95; (with_reducible refine (HI1.out _ (HT.out _ hq4)).mono ?_); rintro e w5 ⟨rfl, hb5⟩; have hq5 := bthen hq4 hb5)
          | (go_at_call 95; (with_reducible refine (HI2.out _ (HT.out _ hq5)).mono ?_); rintro e w6 ⟨rfl, hb6⟩; have hq6 := bthen hq5 hb6)
          | (go_at_call 95; (with_reducible refine (HI3.out _ (HT.out _ hq6)).mono ?_); rintro e w7 ⟨rfl, hb7⟩; have hq7 := bthen hq6 hb7)
          | (go_at_call 95; (with_reducible refine (HI4.out _ (HT.out _ hq7)).mono ?_); rintro e w8 ⟨rfl, hb8⟩; have hq8 := bthen hq7 hb8; have hz8 := hq8.size))
      all_goals
        obtain ⟨⟨s1, s2⟩, s3, s4, s5, s6, s7⟩ := HSZ.out
        have hfin := strs8 w8 n m ⟨#[62]⟩ S1 S2 S3 S4 TX s1 s2 (by unfold maxLen; decide) s3 s4 s5 s6 s7
        have hbf := bthen HQ.out (hq8.alloc hz8 (.cells #[.string n, .string m, .string ⟨#[62]⟩, .string S1, .string S2, .string S3, .string S4, .string TX] 9))
        go_wp2_with fail
        go_ret2
        exact ⟨_, _, rfl, hfin, hbf⟩
    · have i1 := fun (x y : Nat) (W : World) => (show (Instr.index 163 (.agg (howsV x y)) (.int .i64 2)).run Tryz.prog W = .ok (.agg #[.string ⟨#[62, 61]⟩, .func (.func 260) #[] #[.pointer (some ⟨x, 0, none⟩)]]) W by kernel_rfl)
      have i2 := fun (x : Nat) (W : World) => (show (Instr.field 162 (.agg #[.string ⟨#[62, 61]⟩, .func (.func 260) #[] #[.pointer (some ⟨x, 0, none⟩)]]) 0).run Tryz.prog W = .ok (.string ⟨#[62, 61]⟩) W by kernel_rfl)
      go_region_held3 (fun w' => w'.cell? ⟨w.heap.size, 0, none⟩ = some (.string n) ∧ w'.cell? ⟨w.heap.size, 1, none⟩ = some (.string m) ∧ w'.cell? ⟨w.heap.size, 2, none⟩ = some (.int .i64 2) ∧ w'.cell? ⟨w.heap.size, 3, none⟩ = some (.int .i64 l) ∧ w'.cell? ⟨w.heap.size, 4, none⟩ = some (.int .i64 f) ∧ w'.cell? ⟨w.heap.size, 5, none⟩ = some (.int .i64 p) ∧ w'.cell? ⟨w.heap.size, 6, none⟩ = some (.int .i64 t) ∧ w'.cell? ⟨w.heap.size, 7, none⟩ = some (.slice a ls.length c))
        (first | exact HCS.out _ (Below.refl _ _).drew | exact HCS.out _ hq8 | exact HCS.out _ hq7 | exact HCS.out _ hq6 | exact HCS.out _ hq5 | exact HCS.out _ hq4 | exact HCS.out _ (hq8.alloc hz8 _))
        (first
          | (go_at_call 147; refine (hows_any _).mono ?_; rintro e w4 ⟨x, y, rfl, hx, hy, hb4⟩; have hq4 := bthen (Below.refl _ _).drew hb4)
          | (go_at_call 95; (with_reducible refine (HI1.out _ (HT.out _ hq4)).mono ?_); rintro e w5 ⟨rfl, hb5⟩; have hq5 := bthen hq4 hb5)
          | (go_at_call 95; (with_reducible refine (HI2.out _ (HT.out _ hq5)).mono ?_); rintro e w6 ⟨rfl, hb6⟩; have hq6 := bthen hq5 hb6)
          | (go_at_call 95; (with_reducible refine (HI3.out _ (HT.out _ hq6)).mono ?_); rintro e w7 ⟨rfl, hb7⟩; have hq7 := bthen hq6 hb7)
          | (go_at_call 95; (with_reducible refine (HI4.out _ (HT.out _ hq7)).mono ?_); rintro e w8 ⟨rfl, hb8⟩; have hq8 := bthen hq7 hb8; have hz8 := hq8.size))
      all_goals
        obtain ⟨⟨s1, s2⟩, s3, s4, s5, s6, s7⟩ := HSZ.out
        have hfin := strs8 w8 n m ⟨#[62, 61]⟩ S1 S2 S3 S4 TX s1 s2 (by unfold maxLen; decide) s3 s4 s5 s6 s7
        have hbf := bthen HQ.out (hq8.alloc hz8 (.cells #[.string n, .string m, .string ⟨#[62, 61]⟩, .string S1, .string S2, .string S3, .string S4, .string TX] 9))
        go_wp2_with fail
        go_ret2
        exact ⟨_, _, rfl, hfin, hbf⟩
    · have i1 := fun (x y : Nat) (W : World) => (show (Instr.index 163 (.agg (howsV x y)) (.int .i64 3)).run Tryz.prog W = .ok (.agg #[.string ⟨#[60]⟩, .func (.func 191) #[] #[]]) W by kernel_rfl)
      have i2 := fun (W : World) => (show (Instr.field 162 (.agg #[.string ⟨#[60]⟩, .func (.func 191) #[] #[]]) 0).run Tryz.prog W = .ok (.string ⟨#[60]⟩) W by kernel_rfl)
      go_region_held3 (fun w' => w'.cell? ⟨w.heap.size, 0, none⟩ = some (.string n) ∧ w'.cell? ⟨w.heap.size, 1, none⟩ = some (.string m) ∧ w'.cell? ⟨w.heap.size, 2, none⟩ = some (.int .i64 3) ∧ w'.cell? ⟨w.heap.size, 3, none⟩ = some (.int .i64 l) ∧ w'.cell? ⟨w.heap.size, 4, none⟩ = some (.int .i64 f) ∧ w'.cell? ⟨w.heap.size, 5, none⟩ = some (.int .i64 p) ∧ w'.cell? ⟨w.heap.size, 6, none⟩ = some (.int .i64 t) ∧ w'.cell? ⟨w.heap.size, 7, none⟩ = some (.slice a ls.length c))
        (first | exact HCS.out _ (Below.refl _ _).drew | exact HCS.out _ hq8 | exact HCS.out _ hq7 | exact HCS.out _ hq6 | exact HCS.out _ hq5 | exact HCS.out _ hq4 | exact HCS.out _ (hq8.alloc hz8 _))
        (first
          | (go_at_call 147; refine (hows_any _).mono ?_; rintro e w4 ⟨x, y, rfl, hx, hy, hb4⟩; have hq4 := bthen (Below.refl _ _).drew hb4)
          | (go_at_call 95; (with_reducible refine (HI1.out _ (HT.out _ hq4)).mono ?_); rintro e w5 ⟨rfl, hb5⟩; have hq5 := bthen hq4 hb5)
          | (go_at_call 95; (with_reducible refine (HI2.out _ (HT.out _ hq5)).mono ?_); rintro e w6 ⟨rfl, hb6⟩; have hq6 := bthen hq5 hb6)
          | (go_at_call 95; (with_reducible refine (HI3.out _ (HT.out _ hq6)).mono ?_); rintro e w7 ⟨rfl, hb7⟩; have hq7 := bthen hq6 hb7)
          | (go_at_call 95; (with_reducible refine (HI4.out _ (HT.out _ hq7)).mono ?_); rintro e w8 ⟨rfl, hb8⟩; have hq8 := bthen hq7 hb8; have hz8 := hq8.size))
      all_goals
        obtain ⟨⟨s1, s2⟩, s3, s4, s5, s6, s7⟩ := HSZ.out
        have hfin := strs8 w8 n m ⟨#[60]⟩ S1 S2 S3 S4 TX s1 s2 (by unfold maxLen; decide) s3 s4 s5 s6 s7
        have hbf := bthen HQ.out (hq8.alloc hz8 (.cells #[.string n, .string m, .string ⟨#[60]⟩, .string S1, .string S2, .string S3, .string S4, .string TX] 9))
        go_wp2_with fail
        go_ret2
        exact ⟨_, _, rfl, hfin, hbf⟩
    · have i1 := fun (x y : Nat) (W : World) => (show (Instr.index 163 (.agg (howsV x y)) (.int .i64 4)).run Tryz.prog W = .ok (.agg #[.string ⟨#[60, 61]⟩, .func (.func 260) #[] #[.pointer (some ⟨y, 0, none⟩)]]) W by kernel_rfl)
      have i2 := fun (y : Nat) (W : World) => (show (Instr.field 162 (.agg #[.string ⟨#[60, 61]⟩, .func (.func 260) #[] #[.pointer (some ⟨y, 0, none⟩)]]) 0).run Tryz.prog W = .ok (.string ⟨#[60, 61]⟩) W by kernel_rfl)
      go_region_held3 (fun w' => w'.cell? ⟨w.heap.size, 0, none⟩ = some (.string n) ∧ w'.cell? ⟨w.heap.size, 1, none⟩ = some (.string m) ∧ w'.cell? ⟨w.heap.size, 2, none⟩ = some (.int .i64 4) ∧ w'.cell? ⟨w.heap.size, 3, none⟩ = some (.int .i64 l) ∧ w'.cell? ⟨w.heap.size, 4, none⟩ = some (.int .i64 f) ∧ w'.cell? ⟨w.heap.size, 5, none⟩ = some (.int .i64 p) ∧ w'.cell? ⟨w.heap.size, 6, none⟩ = some (.int .i64 t) ∧ w'.cell? ⟨w.heap.size, 7, none⟩ = some (.slice a ls.length c))
        (first | exact HCS.out _ (Below.refl _ _).drew | exact HCS.out _ hq8 | exact HCS.out _ hq7 | exact HCS.out _ hq6 | exact HCS.out _ hq5 | exact HCS.out _ hq4 | exact HCS.out _ (hq8.alloc hz8 _))
        (first
          | (go_at_call 147; refine (hows_any _).mono ?_; rintro e w4 ⟨x, y, rfl, hx, hy, hb4⟩; have hq4 := bthen (Below.refl _ _).drew hb4)
          | (go_at_call 95; (with_reducible refine (HI1.out _ (HT.out _ hq4)).mono ?_); rintro e w5 ⟨rfl, hb5⟩; have hq5 := bthen hq4 hb5)
          | (go_at_call 95; (with_reducible refine (HI2.out _ (HT.out _ hq5)).mono ?_); rintro e w6 ⟨rfl, hb6⟩; have hq6 := bthen hq5 hb6)
          | (go_at_call 95; (with_reducible refine (HI3.out _ (HT.out _ hq6)).mono ?_); rintro e w7 ⟨rfl, hb7⟩; have hq7 := bthen hq6 hb7)
          | (go_at_call 95; (with_reducible refine (HI4.out _ (HT.out _ hq7)).mono ?_); rintro e w8 ⟨rfl, hb8⟩; have hq8 := bthen hq7 hb8; have hz8 := hq8.size))
      all_goals
        obtain ⟨⟨s1, s2⟩, s3, s4, s5, s6, s7⟩ := HSZ.out
        have hfin := strs8 w8 n m ⟨#[60, 61]⟩ S1 S2 S3 S4 TX s1 s2 (by unfold maxLen; decide) s3 s4 s5 s6 s7
        have hbf := bthen HQ.out (hq8.alloc hz8 (.cells #[.string n, .string m, .string ⟨#[60, 61]⟩, .string S1, .string S2, .string S3, .string S4, .string TX] 9))
        go_wp2_with fail
        go_ret2
        exact ⟨_, _, rfl, hfin, hbf⟩
    · have i1 := fun (x y : Nat) (W : World) => (show (Instr.index 163 (.agg (howsV x y)) (.int .i64 5)).run Tryz.prog W = .ok (.agg #[.string ⟨#[61, 61]⟩, .func (.func 192) #[] #[]]) W by kernel_rfl)
      have i2 := fun (W : World) => (show (Instr.field 162 (.agg #[.string ⟨#[61, 61]⟩, .func (.func 192) #[] #[]]) 0).run Tryz.prog W = .ok (.string ⟨#[61, 61]⟩) W by kernel_rfl)
      go_region_held3 (fun w' => w'.cell? ⟨w.heap.size, 0, none⟩ = some (.string n) ∧ w'.cell? ⟨w.heap.size, 1, none⟩ = some (.string m) ∧ w'.cell? ⟨w.heap.size, 2, none⟩ = some (.int .i64 5) ∧ w'.cell? ⟨w.heap.size, 3, none⟩ = some (.int .i64 l) ∧ w'.cell? ⟨w.heap.size, 4, none⟩ = some (.int .i64 f) ∧ w'.cell? ⟨w.heap.size, 5, none⟩ = some (.int .i64 p) ∧ w'.cell? ⟨w.heap.size, 6, none⟩ = some (.int .i64 t) ∧ w'.cell? ⟨w.heap.size, 7, none⟩ = some (.slice a ls.length c))
        (first | exact HCS.out _ (Below.refl _ _).drew | exact HCS.out _ hq8 | exact HCS.out _ hq7 | exact HCS.out _ hq6 | exact HCS.out _ hq5 | exact HCS.out _ hq4 | exact HCS.out _ (hq8.alloc hz8 _))
        (first
          | (go_at_call 147; refine (hows_any _).mono ?_; rintro e w4 ⟨x, y, rfl, hx, hy, hb4⟩; have hq4 := bthen (Below.refl _ _).drew hb4)
          | (go_at_call 95; (with_reducible refine (HI1.out _ (HT.out _ hq4)).mono ?_); rintro e w5 ⟨rfl, hb5⟩; have hq5 := bthen hq4 hb5)
          | (go_at_call 95; (with_reducible refine (HI2.out _ (HT.out _ hq5)).mono ?_); rintro e w6 ⟨rfl, hb6⟩; have hq6 := bthen hq5 hb6)
          | (go_at_call 95; (with_reducible refine (HI3.out _ (HT.out _ hq6)).mono ?_); rintro e w7 ⟨rfl, hb7⟩; have hq7 := bthen hq6 hb7)
          | (go_at_call 95; (with_reducible refine (HI4.out _ (HT.out _ hq7)).mono ?_); rintro e w8 ⟨rfl, hb8⟩; have hq8 := bthen hq7 hb8; have hz8 := hq8.size))
      all_goals
        obtain ⟨⟨s1, s2⟩, s3, s4, s5, s6, s7⟩ := HSZ.out
        have hfin := strs8 w8 n m ⟨#[61, 61]⟩ S1 S2 S3 S4 TX s1 s2 (by unfold maxLen; decide) s3 s4 s5 s6 s7
        have hbf := bthen HQ.out (hq8.alloc hz8 (.cells #[.string n, .string m, .string ⟨#[61, 61]⟩, .string S1, .string S2, .string S3, .string S4, .string TX] 9))
        go_wp2_with fail
        go_ret2
        exact ⟨_, _, rfl, hfin, hbf⟩
end Go.Proofs.YtkgnapojkijbgaaGreatDoor
/- In a region that draws its order: an append of a row of texts to a slice of texts of the call's own. It speaks of no one program. -/
namespace Go.Proofs.YtkgnapojkijbgaaGreatDoor
open Go.RowKit

/-- a row of texts, as what an append is handed -/
theorem src_texts {P : Program} {t e : Nat} {w : World} {a : Option Addr} {c : Nat} {ss : List ByteArray} (hk : P.underlying t = some (.slice e)) (h : HasStrs w a c ss) : Src P 1 t (.slice a ss.length c) ss.length (strsV ss) w := by
  obtain ⟨h1, h2, h3, h4⟩ := h
  rcases h4 with rfl | ⟨b, off, rfl, hb, hc⟩
  · cases a with
    | none => exact Src.ofNil w hk c
    | some a => exact Src.ofSlice w hk a 0 c [] (by simp) (fun j u hu => by simp at hu) (fun u hu => by cases hu)
  · refine Src.ofSlice w hk ⟨b, off, none⟩ ss.length c (strsV ss) (by simp [strsV]) (fun j u hu => ?_) (fun u hu => ?_)
    · have hj : j < ss.length := by
        have := (List.getElem?_eq_some_iff.1 hu).1
        simpa [strsV] using this
      have e0 : (⟨b, off, none⟩ : Addr).add j = ⟨b, off + j, none⟩ := by unfold Addr.add; split <;> simp_all
      rw [e0, hc j hj]
      simpa [strsV, hj] using hu
    · obtain ⟨_, _, rfl⟩ := List.mem_map.1 hu
      rfl
theorem strsV_app (a b : List ByteArray) : strsV (a ++ b) = strsV a ++ strsV b := by simp [strsV]
theorem step_appS {P : Program} (W : World) {ops : Array Oper} {o : Oper} {a : Act} {K : Act → World → Prop} {Q : Exit → Act → World → Prop} {E : Prop} (hgd : o.guard = none) (s x : Operand) (t : TypeId)
    (ho : o.op = .call { callee := .builtin .append, args := #[s, x], argTypes := #[t, t] })
    (base : Nat) (e : TypeId) (i : TypeInfo) (z : Value) (ht : P.underlying t = some (.slice e)) (hi : P.info? e = some i) (hz : i.zero = some z) (hsize : i.size = 1) (hby : i.bytes = 16) (hzs : z.cells.size = 1)
    (v : Value) (ss : List ByteArray) (hs : a.eval s = v) (hown : OwnS e W base v ss) (xa : Option Addr) (xn xc : Nat) (us : List ByteArray)
    (hx : a.eval x = .slice xa xn xc) (hxn : xn = us.length) (hsrc : HasStrs W xa xc us) (h63 : ss.length + us.length ≤ 1000000) (hbase : base ≤ W.heap.size)
    (h : ∀ (v' : Value) (w' : World), OwnS e w' base v' (ss ++ us) → W.grownBy w' v.ownBlock → K (a.put o.dst v') w') :
    if Region.wanted o (yielded ops a.tmps) = true then Oper.wp P o a W K Q else E := by
  have hw : Region.wanted o (yielded ops a.tmps) = true := by simp [Region.wanted, hgd]
  rw [if_pos hw]
  subst hxn
  have hsr := src_texts (P := P) ht hsrc
  unfold OwnS at hown
  rw [← hsize] at hown hsr
  obtain ⟨v', w', hr, h2, h3⟩ := run_append_src (P := P) W base t t o.type e i z 16 ht hi hz hby (by rw [hsize]; exact hzs) v ss.length (strsV ss) hown _ us.length (strsV us) hsr (by unfold maxLen; omega) (by omega) hbase
  rw [hsize] at h2
  unfold Oper.wp execOp
  simp only [ho, resolve, invoke, builtin, Sem.run_bind, Sem.run_pure, Result.andThen_ok, List.map_toArray, List.map_cons, List.map_nil, hs, hx, hr]
  refine h v' w' ?_ h3
  unfold OwnS
  rw [strsV_app, List.length_append]
  exact h2
/-- the first texts of a row, and those behind -/
theorem hasStrs_take {w : World} {a : Option Addr} {c : Nat} {ss : List ByteArray} (h : HasStrs w a c ss) (k : Nat) (hk : k ≤ ss.length) : HasStrs w a c (ss.take k) := by
  obtain ⟨h1, h2, h3, h4⟩ := h
  refine ⟨by rw [List.length_take]; omega, h2, fun s hs => h3 s (List.mem_of_mem_take hs), ?_⟩
  rcases h4 with rfl | ⟨b, off, rfl, hb, hc⟩
  · exact .inl (by simp)
  · refine .inr ⟨b, off, rfl, hb, fun i hi => ?_⟩
    have hi' : i < ss.length := by rw [List.length_take] at hi; omega
    rw [hc i hi']; simp
theorem hasStrs_drop {w : World} {b off c c' : Nat} {ss : List ByteArray} (h : HasStrs w (some ⟨b, off, none⟩) c ss) (k : Nat) (hk : k ≤ ss.length) (hc : c' = c - k) : HasStrs w (some ⟨b, off + k, none⟩) c' (ss.drop k) := by
  obtain ⟨h1, h2, h3, h4⟩ := h
  refine ⟨by rw [List.length_drop]; omega, by omega, fun s hs => h3 s (List.mem_of_mem_drop hs), ?_⟩
  rcases h4 with rfl | ⟨b2, o2, e, hb, hc⟩
  · exact .inl (by simp)
  · cases e
    refine .inr ⟨b, off + k, rfl, hb, fun i hi => ?_⟩
    have hi' : k + i < ss.length := by rw [List.length_drop] at hi; omega
    rw [Nat.add_assoc, hc (k + i) hi']; simp
theorem OwnS.made (T : TypeId) (w : World) : OwnS T (w.alloc (.cells #[] T)) w.heap.size (.slice (some ⟨w.heap.size, 0, none⟩) 0 0) [] := by
  refine ⟨rfl, .inr ⟨w.heap.size, 0, #[], rfl, Nat.le_refl _, ?_, Nat.le_refl _, by unfold maxLen; omega, rfl, rfl⟩⟩
  show (w.heap.push _)[w.heap.size]? = _; simp
end Go.Proofs.YtkgnapojkijbgaaGreatDoor
/- An append of texts to a slice of texts of the call's own, of whatever source: it is told where the row lies then; two such rows side by side. -/
namespace Go.Proofs.YtkgnapojkijbgaaGreatDoor
open Go.RowKit

theorem run_append_lie {P : Program} (w : World) (base : Nat) (t tx ty e : TypeId) (i : TypeInfo) (z : Value) (bytes : Nat) (ht : P.underlying t = some (.slice e)) (hi : P.info? e = some i) (hz : i.zero = some z)
    (hby : i.bytes = bytes) (hzs : z.cells.size = i.size) (v : Value) (n : Nat) (xs : List Value) (hown : w.ownsRow base e i.size v n xs) (x : Value) (m : Nat) (news : List Value) (hs : Src P i.size tx x m news w)
    (h63 : n + m ≤ maxLen) (hbytes : (n + m) * bytes ≤ 140737488355328) (hbase : base ≤ w.heap.size) :
    ∃ v' w', (Builtin.append_ #[t, tx] ty #[v, x]).run P w = .ok v' w' ∧ w'.ownsRow base e i.size v' (n + m) (xs ++ news) ∧ w.grownBy w' v.ownBlock ∧ (v'.ownBlock = v.ownBlock ∨ ∃ g, v'.ownBlock = some g ∧ w.heap.size ≤ g) := by
  subst hby
  have h63' : ((n + m : Nat) : Int) ≤ 9223372036854775807 := by simp only [maxLen] at h63; omega
  rcases hown.2 with ⟨rfl, rfl⟩ | ⟨g, cap, cur, rfl, hbg, hg, hnc, hcm, hcs, htake⟩
  · obtain rfl : xs = [] := List.eq_nil_of_length_eq_zero (by simpa using hown.1)
    by_cases hm : m = 0
    · subst hm
      obtain rfl : news = [] := List.eq_nil_of_length_eq_zero (by simpa using hs.newsLen)
      refine ⟨.slice none 0 0, w, ?_, World.ownsRow_nil w base e i.size, ⟨rfl, rfl, rfl, Nat.le_refl _, fun _ _ _ => rfl⟩, .inl rfl⟩
      have hc := hs.cells
      rcases hs.kind with ⟨e', hk⟩ | hk <;> simp [Builtin.append_, run_underlying ht, run_underlying hk, sizeOf, typeInfo, hi, hs.len, hc]
    · have hr := run_append_grow_src (P := P) w t tx ty e i z ht hi hz none 0 0 [] (by simp [Builtin.firstCells]) x m news hs (by omega) (by omega) (growslice_fits (by omega) (by omega))
      have ho := owns_grow (w := w) (base := base) (n := 0) (m := m) (c := grownCap w (0 + m) 0 e) (e := e) (xs := []) hbase (by simp) hs.newsLen hzs (grownCap_ge w (0 + m) 0 e) (grownCap_le_maxLen w (0 + m) 0 e h63) (Value.ownBlock (.slice none 0 0))
      exact ⟨_, _, hr, ho.1, ho.2, .inr ⟨_, rfl, Nat.le_refl _⟩⟩
  · by_cases hroom : n + m ≤ cap
    · have ho := owns_room (w := w) hg hbg hown.1 hs.newsLen hroom hcm hcs htake
      have hfit : n * i.size + news.length ≤ cur.size := by rw [hs.newsLen, hcs, ← Nat.add_mul]; exact Nat.mul_le_mul_right _ hroom
      have hst := run_storeCells_at P g (n * i.size) e news 0 cur w hg (by simpa using hfit) hs.one
      simp only [Nat.add_zero] at hst
      refine ⟨_, _, ?_, ho.1, ho.2, .inl rfl⟩
      rcases hs.kind with ⟨e', hk⟩ | hk <;> simp [Builtin.append_, run_underlying ht, run_underlying hk, sizeOf, typeInfo, hi, hs.len, hroom, hs.cells, Addr.add_lit, hst]
    · have holds : (Builtin.firstCells i.size n (.slice (some ⟨g, 0, none⟩) n cap)).run P w.drew = .ok xs.toArray w.drew :=
        run_firstCells_some w.drew i.size n ⟨g, 0, none⟩ n cap xs hown.1 (by simpa using hown.cells (g := g) rfl)
      have hr := run_append_grow_src (P := P) w t tx ty e i z ht hi hz (some ⟨g, 0, none⟩) n cap xs holds x m news hs (by omega) h63' (growslice_fits (by omega) hbytes)
      have ho := owns_grow (w := w) (base := base) (n := n) (m := m) (c := grownCap w (n + m) cap e) (e := e) hbase hown.1 hs.newsLen hzs (grownCap_ge w (n + m) cap e) (grownCap_le_maxLen w (n + m) cap e h63) (Value.ownBlock (.slice (some ⟨g, 0, none⟩) n cap))
      exact ⟨_, _, hr, ho.1, ho.2, .inr ⟨_, rfl, Nat.le_refl _⟩⟩


/-- where a row that was appended to lies: where it lay, or in a new block -/
def RowLie (v v' : Value) (B : Nat) : Prop := v'.ownBlock = v.ownBlock ∨ ∃ g, v'.ownBlock = some g ∧ B ≤ g
theorem wpList_appL {P : Program} (W : World) {ops : Array Oper} {rest : List Oper} {o : Oper} {a : Act} {Q : Exit → Act → World → Prop} (hgd : o.guard = none) (s x : Operand) (t : TypeId)
    (ho : o.op = .call { callee := .builtin .append, args := #[s, x], argTypes := #[t, t] })
    (base : Nat) (e : TypeId) (i : TypeInfo) (z : Value) (ht : P.underlying t = some (.slice e)) (hi : P.info? e = some i) (hz : i.zero = some z) (hsize : i.size = 1) (hby : i.bytes = 16) (hzs : z.cells.size = 1)
    (v : Value) (ss : List ByteArray) (hs : a.eval s = v) (hown : OwnS e W base v ss) (xa : Option Addr) (xn xc : Nat) (us : List ByteArray)
    (hx : a.eval x = .slice xa xn xc) (hxn : xn = us.length) (hsrc : HasStrs W xa xc us) (h63 : ss.length + us.length ≤ 1000000000) (hbase : base ≤ W.heap.size)
    (h : ∀ (na : Option Addr) (nn nc : Nat) (w' : World), nn = (ss ++ us).length → OwnS e w' base (.slice na nn nc) (ss ++ us) → W.grownBy w' v.ownBlock → RowLie v (.slice na nn nc) W.heap.size → wpList P ops Q rest (a.put o.dst (.slice na nn nc)) w') :
    wpList P ops Q (o :: rest) a W := by
  refine wpList_plain hgd fun K hK => ?_
  subst hxn
  have hsr := src_texts (P := P) ht hsrc
  unfold OwnS at hown
  rw [← hsize] at hown hsr
  obtain ⟨v', w', hr, h2, h3, h4⟩ := run_append_lie (P := P) W base t t o.type e i z 16 ht hi hz hby (by rw [hsize]; exact hzs) v ss.length (strsV ss) hown _ us.length (strsV us) hsr (by unfold maxLen; omega) (by omega) hbase
  rw [hsize] at h2
  have h5 : OwnS e w' base v' (ss ++ us) := by
    unfold OwnS
    rw [strsV_app, List.length_append]
    exact h2
  obtain ⟨na, nc, rfl, _, _⟩ := h5.form
  unfold Oper.wp execOp
  simp only [ho, resolve, invoke, builtin, Sem.run_bind, Sem.run_pure, Result.andThen_ok, List.map_toArray, List.map_cons, List.map_nil, hs, hx, hr]
  exact hK _ _ (h na _ nc w' rfl h5 h3 h4)
/-- two rows of texts that lie apart -/
def TwoS (T : TypeId) (w : World) (base : Nat) (v1 v2 : Value) (a b : List ByteArray) : Prop := OwnS T w base v1 a ∧ OwnS T w base v2 b ∧ ∀ x, v1.ownBlock = some x → v2.ownBlock ≠ some x
theorem TwoS.call {T : TypeId} {w w1 : World} {base : Nat} {v1 v2 : Value} {a b : List ByteArray} (h : TwoS T w base v1 v2 a b) (hb : Below w.heap.size w w1) : TwoS T w1 base v1 v2 a b := ⟨h.1.call hb, h.2.1.call hb, h.2.2⟩
theorem TwoS.swap {T : TypeId} {w : World} {base : Nat} {v1 v2 : Value} {a b : List ByteArray} (h : TwoS T w base v1 v2 a b) : TwoS T w base v2 v1 b a := ⟨h.2.1, h.1, fun x h2 h1 => h.2.2 x h1 h2⟩
theorem TwoS.grow {T : TypeId} {w w1 : World} {base : Nat} {v1 v2 v' : Value} {a b a' : List ByteArray} (h : TwoS T w base v1 v2 a b) (ho : OwnS T w1 base v' a') (hg : w.grownBy w1 v1.ownBlock) (hl : RowLie v1 v' w.heap.size) : TwoS T w1 base v' v2 a' b := by
  refine ⟨ho, World.ownsRow.kept h.2.1 hg ?_, fun x hx => ?_⟩
  · cases hb : v2.ownBlock with
    | none => exact .inl rfl
    | some x => exact .inr (fun e => h.2.2 x e.symm hb)
  · rcases hl with hl | ⟨g, hl, hgb⟩
    · exact h.2.2 x (hl.symm.trans hx)
    · intro h2
      have := (World.ownsRow.lt h.2.1 x h2).2
      rw [hl] at hx
      have := Option.some.inj hx
      omega
theorem TwoS.nil (T : TypeId) (w : World) (base : Nat) : TwoS T w base (.slice none 0 0) (.slice none 0 0) [] [] := ⟨OwnS.nil _ _ _, OwnS.nil _ _ _, fun x h => by cases h⟩
end Go.Proofs.YtkgnapojkijbgaaGreatDoor
/- The contracts of config.number, of config.each of inhibits, of config.ruleWords, and of binder.bind, that tells of faults. -/
namespace Go.Proofs.YtkgnapojkijbgaaGreatDoor
open Go.RowKit

/-- a number's bytes -/
def numS (n : Int) : ByteArray := if n < 0 ∨ 4611686018427387904 ≤ n then ⟨#[]⟩ else ⟨(numB n.toNat).toArray⟩
set_option maxHeartbeats 1600000 in
set_option maxRecDepth 100000 in
theorem cfgNumber_any (n : Int) (w : World) : Calls Tryz.prog 85 #[.int .i64 n] w (StrB (numS n) w) := by
  have HN : ∀ W, Calls Tryz.prog 145 #[.int .i64 n] W (fun e w' => ∃ E : Int, e = .returned (.tuple #[.string (numS n), .int .i64 E]) ∧ Below W.heap.size W w') := by
    intro W
    unfold numS
    by_cases h : n < 0 ∨ 4611686018427387904 ≤ n
    · rw [if_pos h]
      exact (number_bad n W h).mono fun e w' hh => ⟨_, hh.1, hh.2 ▸ Below.refl _ _⟩
    · rw [if_neg h]
      have h0 : ((n.toNat : Nat) : Int) = n := by omega
      have := number_any n.toNat W (by omega)
      rw [h0] at this
      exact this.mono fun e w' hh => ⟨_, hh.1, hh.2⟩
  generalize numS n = V at *
  go_enter Tryz.func85, Tryz.ntmps85
  go_wp2_with (go_at_call 145; refine (HN _).mono ?_; rintro e w2 ⟨E, rfl, hb2⟩)
  go_ret
  exact ⟨rfl, hb2⟩
theorem numS_max (n : Int) : (numS n).size ≤ maxLen := by
  unfold numS
  split
  · show 0 ≤ maxLen
    omega
  · have := numB_len9 (n := n.toNat) (by omega)
    show (List.toArray _).size ≤ maxLen
    rw [List.size_toArray]
    unfold maxLen
    omega
theorem inhT_max (x : InA) : (inhT x).size ≤ maxLen := bindS_max _
set_option maxHeartbeats 3200000 in
set_option maxRecDepth 100000 in
theorem eachI_any (a : Option Addr) (c : Nat) (xs : List InA) (w : World) (h : HasInhs w a c xs) (h8 : xs.length ≤ 1000000) (hs : ∀ x ∈ xs, x.s.length ≤ 1000000 ∧ x.t.length ≤ 1000000) :
    Calls Tryz.prog 30 #[.slice a xs.length c, .func (.func 31) #[] #[]] w (fun e w' => ∃ v, e = .returned v ∧ OwnS 9 w' w.heap.size v (xs.map inhT) ∧ Below w.heap.size w w') := by
  obtain ⟨i0, hi, hz0, hz1, hz2⟩ := info_parts Tryz.infoS
  have HH := Lib.hid h
  have HS := Lib.hid hs
  have h1 := h.1
  have h2 := h.2.1
  unfold maxLen at h2
  clear h hs
  go_enter Tryz.func30, Tryz.ntmps30
  go_wp2_with fail
  go_loopg [10, 5, 7] xs.length (fun gg iv v _ wr => ∃ (V : Value) (k : Nat), V = v ∧ k + gg = xs.length ∧ iv = .int .i64 (k : Int) ∧ OwnS 9 wr w.heap.size V ((xs.take k).map inhT) ∧ Below w.heap.size w wr ∧ w.heap.size ≤ wr.heap.size)
  case atStart => exact ⟨_, 0, rfl, by omega, rfl, OwnS.nil _ _ _, Below.refl _ _, Nat.le_refl _⟩
  case round =>
    obtain ⟨V, k, rfl, hkg, rfl, hown, hbr, hzr⟩ := hrel
    cases gk with
    | zero =>
      obtain rfl : k = xs.length := by omega
      rw [List.take_length] at hown
      have HO := Lib.hid hown
      have HBR := Lib.hid hbr
      clear hown hbr
      go_wp2_with fail
      go_ret
      exact ⟨V, rfl, HO.out, HBR.out⟩
    | succ gg =>
      have hkl : k < xs.length := by omega
      obtain ⟨b, off, rfl, _, hc⟩ := HasRow.place HH.out k hkl
      have e0 := cellL hbr (hc 0 _ rfl)
      have e1 := cellL hbr (hc 1 _ rfl)
      have e2 := cellL hbr (hc 2 _ rfl)
      rw [Nat.add_zero] at e0
      clear hc
      have hts : (xs.take (k + 1)).map inhT = (xs.take k).map inhT ++ [inhT xs[k]] := by
        rw [List.take_succ_eq_append_getElem hkl, List.map_append]; rfl
      have hll : ((xs.take k).map inhT).length ≤ 1000000 := by simp; omega
      have hok := HH.out.2.2.1 xs[k] (List.getElem_mem _)
      have hsx := HS.out xs[k] (List.getElem_mem _)
      have HTS := Lib.hid hts
      clear hts
      obtain ⟨x, hx⟩ : ∃ x, xs[k] = x := ⟨_, rfl⟩
      rw [hx] at HTS hok hsx
      simp only [hx] at e0 e1 e2
      clear hx
      have hbn := (Below.refl wr.heap.size wr).alloc (Nat.le_refl _) (.cells #[.slice x.sa x.s.length x.sc, .slice x.ta x.t.length x.tc, .slice x.ea x.e.length x.ec] 48)
      have hN := Blk.new wr 48 #[.slice x.sa x.s.length x.sc, .slice x.ta x.t.length x.tc, .slice x.ea x.e.length x.ec]
      have f0 := hN.cell 0
      have f1 := hN.cell 1
      have f2 := hN.cell 2
      have hownn := hown.call hbn
      have hbrn := hbr.trans (hbn.mono hzr)
      have hzn := Nat.le_trans hzr hbn.size
      have hcall := inhText_any x _ (hok.call (bthen hbr hbn)) hsx.1 hsx.2
      have HCA := Lib.hid hcall
      generalize (xs.take k).map inhT = M at *
      clear hN hbn hown hbr hcall hok hsx
      go_upto_region 5 with fail
      generalize wr.alloc (.cells #[.slice x.sa x.s.length x.sc, .slice x.ta x.t.length x.tc, .slice x.ea x.e.length x.ec] 48) = wn at *
      clear e0 e1 e2
      generalize inhT x = Y at *
      go_wp2_with (first
        | (go_at_call 31; refine HCA.out.mono ?_; rintro e w3 ⟨rfl, hb3⟩; have ho3 := hownn.call hb3; have hz3 := Nat.le_trans hzn hb3.size)
        | (refine wpList_pushStr w3 (by rfl) (.tmp 14) (.tmp 18) 24 (by rfl) w.heap.size 9 i0 (.string ⟨#[]⟩) Tryz.underlying24 hi hz0 hz1 hz2 rfl V M Y (by rfl) ho3 (by rfl) hll hz3 ?_; intro v4 w4 ho4 hg4))
      have hb4 := ho3.grown (hbrn.trans (hb3.mono hzn)) (Nat.le_refl _) hz3 hg4
      go_roundg gg
      case measure => omega
      case rel => exact ⟨v4, k + 1, rfl, by omega, by go_num, by rw [HTS.out]; exact ho4, hb4, Nat.le_trans hz3 hg4.size⟩
/-- the words of rules, rule by rule -/
def ruW (xs : List RuA) : List ByteArray := xs.flatMap fun x => (wordsP x.r).1
theorem wordsP_len (r : Rul) : (wordsP r).1.length ≤ 8 := by
  unfold wordsP
  split
  · simp [wordsL]
  · simp
theorem ruW_snoc (xs : List RuA) (x : RuA) : ruW (xs ++ [x]) = ruW xs ++ (wordsP x.r).1 := by
  simp [ruW]
theorem ruW_len (xs : List RuA) : (ruW xs).length ≤ 8 * xs.length := by
  induction xs with
  | nil => simp [ruW]
  | cons x xs ih =>
    have := wordsP_len x.r
    simp only [ruW, List.flatMap_cons, List.length_append, List.length_cons] at *
    omega
set_option maxHeartbeats 3200000 in
set_option maxRecDepth 100000 in
theorem ruleWords_any (a : Option Addr) (c : Nat) (xs : List RuA) (w : World) (h : HasRules w a c xs) (h8 : xs.length ≤ 100000) (hT : TabW w) :
    Calls Tryz.prog 28 #[.slice a xs.length c] w (fun e w' => ∃ v, e = .returned v ∧ OwnS 9 w' w.heap.size v (ruW xs) ∧ (∀ s ∈ ruW xs, s.size ≤ maxLen) ∧ Below w.heap.size w w') := by
  obtain ⟨i0, hi, hz0, hz1, hz2⟩ := info_parts Tryz.infoS
  have HH := Lib.hid h
  have HT := Lib.hid hT
  have h1 := h.1
  have h2 := h.2.1
  unfold maxLen at h2
  clear h hT
  go_enter Tryz.func28, Tryz.ntmps28
  go_wp2_with fail
  go_loopg [10, 3, 5, 6, 7] xs.length (fun gg iv v _ _ _ wr => ∃ (V : Value) (k : Nat), V = v ∧ k + gg = xs.length ∧ iv = .int .i64 (k : Int) ∧ OwnS 9 wr w.heap.size V (ruW (xs.take k)) ∧ (∀ s ∈ ruW (xs.take k), s.size ≤ maxLen) ∧ Below w.heap.size w wr ∧ w.heap.size ≤ wr.heap.size)
  case atStart => exact ⟨_, 0, rfl, by omega, rfl, OwnS.nil _ _ _, (fun s hs => by cases hs), Below.refl _ _, Nat.le_refl _⟩
  case round =>
    obtain ⟨V, k, rfl, hkg, rfl, hown, hsz, hbr, hzr⟩ := hrel
    cases gk with
    | zero =>
      obtain rfl : k = xs.length := by omega
      rw [List.take_length] at hown hsz
      have HO := Lib.hid hown
      have HBR := Lib.hid hbr
      have HSZ := Lib.hid hsz
      clear hown hbr hsz
      go_wp2_with fail
      go_ret
      exact ⟨V, rfl, HO.out, HSZ.out, HBR.out⟩
    | succ gg =>
      have hkl : k < xs.length := by omega
      obtain ⟨b, off, rfl, _, hc⟩ := HasRow.place HH.out k hkl
      have e0 := cellL hbr (hc 0 _ rfl)
      have e1 := cellL hbr (hc 1 _ rfl)
      have e2 := cellL hbr (hc 2 _ rfl)
      have e3 := cellL hbr (hc 3 _ rfl)
      have e4 := cellL hbr (hc 4 _ rfl)
      have e5 := cellL hbr (hc 5 _ rfl)
      have e6 := cellL hbr (hc 6 _ rfl)
      have e7 := cellL hbr (hc 7 _ rfl)
      rw [Nat.add_zero] at e0
      clear hc
      have hts : ruW (xs.take (k + 1)) = ruW (xs.take k) ++ (wordsP xs[k].r).1 := by
        rw [List.take_succ_eq_append_getElem hkl, ruW_snoc]
      have hll := ruW_len (xs.take k)
      rw [List.length_take] at hll
      have hok := HH.out.2.2.1 xs[k] (List.getElem_mem _)
      have HTS := Lib.hid hts
      clear hts
      obtain ⟨x, hx⟩ : ∃ x, xs[k] = x := ⟨_, rfl⟩
      rw [hx] at HTS hok
      simp only [hx] at e0 e1 e2 e3 e4 e5 e6 e7
      clear hx
      have hxl := wordsP_len x.r
      have hbn := (Below.refl wr.heap.size wr).alloc (Nat.le_refl _) (.cells (rCells x.r x.a x.c) 44)
      have hN := Blk.new wr 44 (rCells x.r x.a x.c)
      have hownn := hown.call hbn
      have hbrn := hbr.trans (hbn.mono hzr)
      have hzn := Nat.le_trans hzr hbn.size
      have hcall := words_any x.r x.a x.c _ (RulAt.call (show RulAt w x.r x.a x.c from hok) (bthen hbr hbn)) (HT.out.call (bthen hbr hbn))
      have HCA := Lib.hid hcall
      have HSZ := Lib.hid hsz
      have hlen : (ruW (xs.take k)).length + (wordsP x.r).1.length ≤ 1000000000 := by omega
      generalize ruW (xs.take k) = M at *
      generalize (wordsP x.r).1 = Y at *
      generalize (wordsP x.r).2 = E at *
      simp only [rCells] at *
      obtain ⟨f0, f1, f2, f3, f4, f5, f6, f7⟩ := hN.cells8
      clear hN hbn hown hbr hcall hok hsz hll hxl
      go_upto_region 5 with fail
      generalize wr.alloc (.cells #[.string x.r.name, .string x.r.metric, .int .i64 x.r.how, .int .i64 x.r.limit, .int .i64 x.r.fr, .int .i64 x.r.keep, .int .i64 x.r.tries, .slice x.a x.r.labels.length x.c] 44) = wn at *
      clear e0 e1 e2 e3 e4 e5 e6 e7
      go_wp2_with (first
        | (go_at_call 81; refine HCA.out.mono ?_; rintro e w3 ⟨ya, yc, rfl, hy3, hb3⟩; have ho3 := hownn.call hb3; have hz3 := Nat.le_trans hzn hb3.size)
        | (refine wpList_appL w3 (by rfl) (.tmp 19) (.tmp 20) 24 (by rfl) w.heap.size 9 i0 (.string ⟨#[]⟩) Tryz.underlying24 hi hz0 hz1 hz2 rfl V M (by rfl) ho3 ya Y.length yc Y (by rfl) rfl hy3 hlen hz3 ?_; intro na nn nc w4 hnn ho4 hg4 hl4))
      rw [List.length_append] at hnn
      rw [hnn] at ho4
      have hb4 := ho3.grown (hbrn.trans (hb3.mono hzn)) (Nat.le_refl _) hz3 hg4
      go_roundg gg
      case measure => omega
      case rel => exact ⟨_, k + 1, rfl, by omega, by go_num, by rw [HTS.out]; exact ho4, (by rw [HTS.out]; intro s hs; exact (List.mem_append.1 hs).elim (HSZ.out s) (hy3.2.2.1 s)), hb4, Nat.le_trans hz3 hg4.size⟩
end Go.Proofs.YtkgnapojkijbgaaGreatDoor
/- The contract of hours.hasDay. -/
namespace Go.Proofs.YtkgnapojkijbgaaGreatDoor
open Go.RowKit

/-- the cells of hours that have just been laid, behind a call -/
theorem box4 {w w2 : World} {T : TypeId} {a b c d : Value} (hb : Below (w.alloc (.cells #[a, b, c, d] T)).heap.size (w.alloc (.cells #[a, b, c, d] T)) w2) :
    w2.cell? ⟨w.heap.size, 0, none⟩ = some a ∧ w2.cell? ⟨w.heap.size, 1, none⟩ = some b ∧ w2.cell? ⟨w.heap.size, 2, none⟩ = some c ∧ w2.cell? ⟨w.heap.size, 3, none⟩ = some d := by
  have h : ∀ i, w2.cell? ⟨w.heap.size, i, none⟩ = #[a, b, c, d][i]? := fun i => by
    have e : w2.cell? ⟨w.heap.size, i, none⟩ = (w.alloc (.cells #[a, b, c, d] T)).cell? ⟨w.heap.size, i, none⟩ := by unfold World.cell?; rw [hb.block w.heap.size (by simp)]
    rw [e]
    exact World.cell?_alloc_mark w #[a, b, c, d] T (0, 0) i
  exact ⟨h 0, h 1, h 2, h 3⟩
theorem tick_q1 (x A : Nat) (hx : x ≤ 1099511627776) (hA : x / 60000 = A) : wrap64 ((x : Int) / 60000) = (A : Int) := by
  rw [IntWalk.wrap64_in ((x : Int) / 60000) (by omega)]; omega
theorem tick_q2 (A m : Nat) (hm : A % 10080 = m) : ((A : Int)).tmod 10080 = (m : Int) := by
  rw [Int.tmod_eq_emod_of_nonneg (by omega)]; omega
theorem tick_q3 (A m : Nat) (hm : A % 10080 = m) : ((A : Int)).tmod 1440 = ((m % 1440 : Nat) : Int) := by
  rw [Int.tmod_eq_emod_of_nonneg (by omega)]; omega
theorem tick_q4 (m : Nat) (hm : m / 1440 < 7) : wrap64 (((m : Int)).tdiv 1440) = ((m / 1440 : Nat) : Int) := by
  rw [Int.tdiv_eq_ediv_of_nonneg (by omega), IntWalk.wrap64_in _ (by omega)]; omega
theorem bit_hasT : ∀ d : Nat, d < 128 → ∀ k : Nat, k < 7 → (bits BinOp.and IntKind.i64 ((d : Int) / 2 ^ k) 1 == 1) = hasT d k := by decide +kernel
theorem hDay_any (n : ByteArray) (d k : Nat) (f t : Int) (w : World) (hd : d < 128) (hk : k < 7) :
    Calls Tryz.prog 148 #[.agg #[.string n, .int .i64 (d : Int), .int .i64 f, .int .i64 t], .int .i64 (k : Int)] w (BoolW (hasT d k) w) := by
  have h := bit_hasT d hd k hk
  go_enter Tryz.func148, Tryz.ntmps148
  go_wp2
  go_ret
  exact ⟨rfl, (Below.refl _ _).alloc (Nat.le_refl _) _⟩
end Go.Proofs.YtkgnapojkijbgaaGreatDoor
/- Texts of two digits and of clocks: the contracts of hours.twoDigits and hours.clock; what the table of the days' names holds. -/
namespace Go.Proofs.YtkgnapojkijbgaaGreatDoor
open Go.RowKit

/-- the names of the days -/
def DayW (w : World) : Prop := ∀ k, k < 7 → w.cell? ⟨1, k, none⟩ = some (.string ⟨(nameT k).toArray⟩)
theorem DayW.call {w w1 : World} (h : DayW w) (hb : Below w.heap.size w w1) : DayW w1 := fun i hi => (hb.cell (World.block_lt_of_cell? _ _ (h i hi))).trans (h i hi)
def bytA (l : Bs) : ByteArray := ⟨l.toArray⟩
theorem bytA_size (l : Bs) : (bytA l).size = l.length := by simp [bytA, ByteArray.size]
theorem bytA_list (l : Bs) : (bytA l).data.toList = l := by simp [bytA]
theorem bytA_app (a b : Bs) : bytA (a ++ b) = bytA a ++ bytA b := by apply bytes_ext; simp [bytA, ByteArray.data_append]
def StrW (l : Bs) (w : World) (e : Ending) (w' : World) : Prop := e = .returned (.string (bytA l)) ∧ Below w.heap.size w w'
theorem twoT_len (n : Nat) : (twoT n).length = 2 := rfl
theorem run_two (w : World) (n : Nat) (hn : n < 100) : (convert 79 9 (.slice (some ⟨w.heap.size, 0, none⟩) 2 2)).run Tryz.prog (w.alloc (.cells #[.int .u8 (48 + (n : Int) / 10), .int .u8 (48 + (n : Int) % 10)] 5)) =
    .ok (.string (bytA (twoT n))) (w.alloc (.cells #[.int .u8 (48 + (n : Int) / 10), .int .u8 (48 + (n : Int) % 10)] 5)) := by
  refine run_convert_bytes_back _ 79 9 5 ⟨w.heap.size, 0, none⟩ 2 (twoT n) Tryz.underlying79 Tryz.underlying5 Tryz.underlying9 ?_
  intro j hj
  have e0 : (⟨w.heap.size, 0, none⟩ : Addr).add j = ⟨w.heap.size, j, none⟩ := by unfold Addr.add; split <;> simp_all
  rw [e0, World.cell?_alloc_mark w #[.int .u8 (48 + (n : Int) / 10), .int .u8 (48 + (n : Int) % 10)] 5 (0, 0) j]
  have h2 : j = 0 ∨ j = 1 := by rw [twoT_len] at hj; omega
  rcases h2 with rfl | rfl
  · have : (48 + n / 10) % 256 = 48 + n / 10 := by omega
    simp [twoT, this]
  · have : (48 + n % 10) % 256 = 48 + n % 10 := by omega
    simp [twoT, this]
set_option maxRecDepth 100000 in
theorem twoD_any (n : Nat) (w : World) (hn : n < 100) : Calls Tryz.prog 197 #[.int .i64 (n : Int)] w (StrW (twoT n) w) := by
  have hc := run_two w n hn
  go_enter Tryz.func197, Tryz.ntmps197
  go_wp2_with fail
  go_ret
  exact ⟨rfl, (Below.refl _ _).alloc (Nat.le_refl _) _⟩
set_option maxRecDepth 100000 in
theorem clock_any (m : Nat) (w : World) (hm : m < 1441) : Calls Tryz.prog 150 #[.int .i64 (m : Int)] w (StrW (clockT m) w) := by
  have h1 := fun W => twoD_any (m / 60) W (by omega)
  have h2 := fun W => twoD_any (m % 60) W (by omega)
  rw [show ((m / 60 : Nat) : Int) = (m : Int) / 60 by omega] at h1
  rw [show ((m % 60 : Nat) : Int) = (m : Int) % 60 by omega] at h2
  unfold clockT
  unfold StrW at h1 h2 ⊢
  rw [bytA_app, bytA_app]
  have s1 := bytA_size (twoT (m / 60))
  have s2 := bytA_size (twoT (m % 60))
  rw [twoT_len] at s1 s2
  generalize bytA (twoT (m / 60)) = X at *
  generalize bytA (twoT (m % 60)) = Y at *
  have p1 : ¬ 9223372036854775807 < X.size + 1 := by omega
  have p2 : ¬ 9223372036854775807 < X.size + 1 + Y.size := by omega
  clear s1 s2
  go_enter Tryz.func150, Tryz.ntmps150
  go_wp2_with (go_at_call 197; first | ((with_reducible refine (h1 _).mono ?_); rintro e w2 ⟨rfl, hb2⟩) | ((with_reducible refine (h2 _).mono ?_); rintro e w3 ⟨rfl, hb3⟩))
  go_ret
  exact ⟨by rw [← ByteArray.append_assoc]; rfl, bthen hb2 hb3⟩
end Go.Proofs.YtkgnapojkijbgaaGreatDoor
/- The days' names, one by one. -/
namespace Go.Proofs.YtkgnapojkijbgaaGreatDoor
open Go.RowKit

def nameB (k : Nat) : ByteArray := bytA (nameT k)
theorem names7D {w : World} (hw : DayW w) : w.cell? ⟨1, 0, none⟩ = some (.string (nameB 0)) ∧ w.cell? ⟨1, 1, none⟩ = some (.string (nameB 1)) ∧ w.cell? ⟨1, 2, none⟩ = some (.string (nameB 2)) ∧ w.cell? ⟨1, 3, none⟩ = some (.string (nameB 3)) ∧ w.cell? ⟨1, 4, none⟩ = some (.string (nameB 4)) ∧ w.cell? ⟨1, 5, none⟩ = some (.string (nameB 5)) ∧ w.cell? ⟨1, 6, none⟩ = some (.string (nameB 6)) :=
  ⟨hw 0 (by omega), hw 1 (by omega), hw 2 (by omega), hw 3 (by omega), hw 4 (by omega), hw 5 (by omega), hw 6 (by omega)⟩
theorem index7 (k : Nat) (hk : k < 7) (W : World) : (Instr.index 165 (.agg #[.string (nameB 0), .string (nameB 1), .string (nameB 2), .string (nameB 3), .string (nameB 4), .string (nameB 5), .string (nameB 6)]) (.int .i64 (k : Int))).run Tryz.prog W = .ok (.string (nameB k)) W := by
  refine run_indexV (P := Tryz.prog) W 165 9 7 _ k k _ Tryz.underlying165 rfl hk ?_ sizeStr aggStr
  have h : k = 0 ∨ k = 1 ∨ k = 2 ∨ k = 3 ∨ k = 4 ∨ k = 5 ∨ k = 6 := by omega
  rcases h with rfl | rfl | rfl | rfl | rfl | rfl | rfl <;> rfl
end Go.Proofs.YtkgnapojkijbgaaGreatDoor
/- The contract of hours.Text. -/
namespace Go.Proofs.YtkgnapojkijbgaaGreatDoor
open Go.RowKit

theorem namesT_succ (d k : Nat) : namesT d (k + 1) = if hasT d k then namesT d k ++ [nameT k] else namesT d k := by
  unfold namesT
  rw [List.range_succ, List.filter_append, List.map_append]
  cases h : hasT d k <;> simp [h]
theorem namesT_len (d : Nat) : ∀ k, (namesT d k).length ≤ k := by
  intro k
  unfold namesT
  rw [List.length_map]
  exact Nat.le_trans (List.length_filter_le _ _) (by simp)
theorem namesT_ne : ∀ d, d < 128 → 1 ≤ d → namesT d 7 ≠ [] := by decide +kernel
theorem joinH_any (xs : List Bs) (W : World) (a : Option Addr) (c : Nat) (h : HasStrs W a c (xs.map bytA)) (hne : xs ≠ []) (hlen : (Lib.join xs [44]).length ≤ 100) (hx : xs.length ≤ 7) :
    Calls Tryz.prog 149 #[.slice a xs.length c, .string ⟨#[44]⟩] W (StrW (Lib.join xs [44]) W) := by
  obtain ⟨h1, h2, h3, h4⟩ := h
  have hm : (xs.map bytA).map (·.data.toList) = xs := by rw [List.map_map]; exact (List.map_congr_left fun x _ => bytA_list x).trans (List.map_id _)
  have hl : (xs.map bytA).length = xs.length := by simp
  rcases h4 with h4 | ⟨b, off, rfl, hb, hc⟩
  · exact absurd (List.map_eq_nil_iff.1 h4) hne
  · have := Tryz.strings_Join b off c (xs.map bytA) ⟨#[44]⟩ W (fun j x hj => by
      obtain ⟨hl, rfl⟩ := List.getElem?_eq_some_iff.1 hj
      exact hc j hl) hb (by rw [hl]; omega) h1 (by rw [hm]; exact Nat.le_trans hlen (by omega))
    rw [hm, hl] at this
    exact this
def TextP (r : Bs × Int) (w : World) (e : Ending) (w' : World) : Prop := e = .returned (.tuple #[.string (bytA r.1), .int .i64 r.2]) ∧ Below w.heap.size w w'
def textI (n : Bs) (d f t : Int) : Bs × Int := if bwC n && spanC d f t then (textT d.toNat f.toNat t.toNat, 0) else ([], 1)

set_option maxHeartbeats 3200000 in
set_option maxRecDepth 100000 in
theorem hTextD_any (n : ByteArray) (d f t : Int) (w : World) (hn : n.size ≤ maxLen) (hw : DayW w) :
    Calls Tryz.prog 82 #[.agg #[.string n, .int .i64 d, .int .i64 f, .int .i64 t]] w (TextP (textI n.data.toList d f t) w) := by
  have hR := fun W => hRight_any n d f t W hn
  have hb0 := (Below.refl w.heap.size w).alloc (Nat.le_refl _) (.cells #[.string n, .int .i64 d, .int .i64 f, .int .i64 t] 51)
  unfold textI
  cases hr : bwC n.data.toList && spanC d f t with
  | false =>
    rw [hr] at hR
    rw [if_neg (by simp)]
    clear hr
    go_enter Tryz.func82, Tryz.ntmps82
    go_wp2_with (go_at_call 59; refine (hR _).mono ?_; rintro e w2 ⟨rfl, hb2⟩)
    go_ret2
    exact ⟨rfl, bthen hb0 hb2⟩
  | true =>
    rw [hr] at hR
    rw [Bool.and_eq_true] at hr
    have hs := hr.2
    unfold spanC at hs
    rw [decide_eq_true_eq] at hs
    rw [if_pos rfl]
    obtain ⟨d, rfl⟩ := Int.eq_ofNat_of_zero_le (show 0 ≤ d by omega)
    obtain ⟨f, rfl⟩ := Int.eq_ofNat_of_zero_le (show 0 ≤ f by omega)
    obtain ⟨t, rfl⟩ := Int.eq_ofNat_of_zero_le (show 0 ≤ t by omega)
    simp only [Int.toNat_natCast]
    have hd : d < 128 := by omega
    have hd1 : 1 ≤ d := by omega
    have hK := fun W => clock_any f W (by omega)
    have hK2 := fun W => clock_any t W (by omega)
    have hD := fun W k hk => hDay_any n d k f t W hd hk
    obtain ⟨-, -, -, hjl⟩ := days_back d hd
    obtain ⟨-, -, fl⟩ := clock_back f (by omega)
    obtain ⟨-, -, tl⟩ := clock_back t (by omega)
    have HK := Lib.hid hK
    have HK2 := Lib.hid hK2
    have HD := Lib.hid hD
    have HL := Lib.hid (And.intro hjl (And.intro fl tl))
    clear hr hs hK hK2 hD hjl fl tl
    obtain ⟨i0, hi, hz0, hz1, hz2⟩ := info_parts Tryz.infoS
    go_enter Tryz.func82, Tryz.ntmps82
    go_upto_region 4 with (go_at_call 59; refine (hR _).mono ?_; rintro e w2 ⟨rfl, hb2⟩)
    obtain ⟨c0, c1, c2, c3, c4, c5, c6⟩ := names7D (hw.call (bthen hb0 hb2))
    go_upto_region 5 with fail
    clear c0 c1 c2 c3 c4 c5 c6 hR
    obtain ⟨B, hB⟩ : ∃ B, (w.alloc (.cells #[.string n, .int .i64 (d : Int), .int .i64 (f : Int), .int .i64 (t : Int)] 51)).heap.size = B := ⟨_, rfl⟩
    have hBw : w.heap.size ≤ B := by rw [← hB]; simp
    go_loopg [11, 4, 5, 6] 7 (fun gg iv u _ _ wr => ∃ (k : Nat) (u' : Value), u' = u ∧ k + gg = 7 ∧ iv = .int .i64 (k : Int) ∧ OwnS 9 wr B u' ((namesT d k).map bytA) ∧ Below (w.alloc (.cells #[.string n, .int .i64 (d : Int), .int .i64 (f : Int), .int .i64 (t : Int)] 51)).heap.size (w.alloc (.cells #[.string n, .int .i64 (d : Int), .int .i64 (f : Int), .int .i64 (t : Int)] 51)) wr)
    case atStart => exact ⟨0, _, rfl, rfl, rfl, OwnS.nil _ _ _, hb2⟩
    case round =>
      obtain ⟨k, u, rfl, hkg, rfl, hown, hwr⟩ := hrel
      obtain ⟨k0, k1, k2, k3⟩ := box4 hwr
      have hnl := namesT_len d k
      cases gk with
      | zero =>
        obtain rfl : k = 7 := by omega
        obtain ⟨a, c, rfl, hS⟩ := hown.strs (fun s hs => by
          obtain ⟨x, hx, rfl⟩ := List.mem_map.1 hs
          obtain ⟨i, _, rfl⟩ := List.mem_map.1 hx
          rw [bytA_size]
          unfold nameT maxLen
          rw [List.getD_eq_getElem?_getD]
          have : ∀ y ∈ ([[109, 111, 110], [116, 117, 101], [119, 101, 100], [116, 104, 117], [102, 114, 105], [115, 97, 116], [115, 117, 110]] : List Bs), y.length ≤ 3 := by decide
          cases hg : ([[109, 111, 110], [116, 117, 101], [119, 101, 100], [116, 104, 117], [102, 114, 105], [115, 97, 116], [115, 117, 110]] : List Bs)[i]? with
          | none => simp
          | some y => have := this y (List.mem_of_getElem? hg); simp; omega)
        obtain ⟨l1, l2, l3⟩ := HL.out
        have hJ := fun xq => calls_later (joinH_any (namesT d 7) (later wr xq) a c (hS.call (later_below wr xq)) (namesT_ne d hd hd1) (by unfold daysT at l1; omega) hnl)
        have hK := fun xq => calls_later (HK.out (later wr xq))
        have hK2 := fun xq => calls_later (HK2.out (later wr xq))
        have hfin : bytA (textT d f t) = bytA (daysT d) ++ ⟨#[32]⟩ ++ bytA (clockT f) ++ ⟨#[45]⟩ ++ bytA (clockT t) := by
          unfold textT
          simp only [bytA_app, ByteArray.append_assoc]
          rfl
        rw [List.length_map]
        have e1 : Lib.join (namesT d 7) [44] = daysT d := rfl
        rw [e1] at hJ
        have s1 := bytA_size (daysT d)
        have s2 := bytA_size (clockT f)
        have s3 := bytA_size (clockT t)
        have HF := Lib.hid hfin
        clear hfin e1 hown hnl hS
        generalize bytA (daysT d) = X at *
        generalize bytA (clockT f) = Y at *
        generalize bytA (clockT t) = Z at *
        generalize (namesT d 7).length = N at *
        have p1 : ¬ 9223372036854775807 < X.size + 1 := by omega
        have p2 : ¬ 9223372036854775807 < X.size + 1 + Y.size := by omega
        have p3 : ¬ 9223372036854775807 < X.size + 1 + Y.size + 1 := by omega
        have p4 : ¬ 9223372036854775807 < X.size + 1 + Y.size + 1 + Z.size := by omega
        have HJ := Lib.hid hJ
        have HKK := Lib.hid hK
        have HKK2 := Lib.hid hK2
        have q1 := fun xq => later_cell k0 xq
        have q2 := fun xq => later_cell k1 xq
        have q3 := fun xq => later_cell k2 xq
        have q4 := fun xq => later_cell k3 xq
        clear s1 s2 s3 l1 l2 l3 hJ hK hK2 HK HK2 k0 k1 k2 k3
        go_upto_region 10 with fail
        refine wp_region_later (by kernel_rfl) (by kernel_rfl) ?_
        repeat (go_big_quiet_step (first | (go_at_call 149; with_reducible exact HJ.out _) | (go_at_call 150; first | (with_reducible exact HKK.out _) | (with_reducible exact HKK2.out _))))
        refine wpQuiet_nil ?_
        rintro _ ⟨xq, rfl⟩
        have hbx := bthen hb0 (hwr.trans ((later_below wr xq).mono hwr.size))
        clear q1 q2 q3 q4 HJ HKK HKK2
        generalize later wr xq = w5 at *
        go_wp2_with fail
        go_ret2
        exact ⟨by rw [HF.out]; rfl, hbx⟩
      | succ g =>
        have hk : k < 7 := by omega
        have hx := index7 k hk
        have hns := namesT_succ d k
        have hD := fun W => HD.out W k hk
        have hBr : B ≤ wr.heap.size := by rw [← hB]; exact hwr.size
        have HOW := Lib.hid hown
        generalize hX : nameB k = X at *
        cases hc : hasT d k with
        | false =>
          rw [hc] at hD hns
          rw [if_neg (by simp)] at hns
          have HNS := Lib.hid hns
          clear hns hc hnl hown hX
          go_wp2_with (go_at_call 148; (with_reducible refine (hD _).mono ?_); rintro e w3 ⟨rfl, hb3⟩)
          go_roundg g
          case measure => omega
          case rel => exact ⟨k + 1, _, rfl, by omega, by go_num, by rw [HNS.out]; exact HOW.out.call hb3, bthen hwr hb3⟩
        | true =>
          rw [hc] at hD hns
          rw [if_pos rfl] at hns
          have HNS := Lib.hid hns
          have HX := Lib.hid hX
          have hnl2 : ((namesT d k).map bytA).length ≤ 7 := by rw [List.length_map]; omega
          clear hns hc hnl hown hX
          generalize hZ : (namesT d k).map bytA = Z at *
          have HZ := Lib.hid hZ
          clear hZ
          go_upto_region 8 with (go_at_call 148; (with_reducible refine (hD _).mono ?_); rintro e w3 ⟨rfl, hb3⟩)
          have hB3 : B ≤ w3.heap.size := Nat.le_trans hBr hb3.size
          have hw3 := bthen hwr hb3
          go_wp2_with (at_builtin; refine (wpList_push w3 rfl _ _ 24 rfl B 9 i0 (.string ⟨#[]⟩) 16 Tryz.underlying24 hi hz0 hz1 hz2 rfl u Z.length (strsV Z) rfl (HOW.out.call hb3) (.string X) rfl rfl (by unfold maxLen; omega) (by omega) hB3 ?_); intro g3 c3 w4 hown4 hg4)
          go_roundg g
          case measure => omega
          case rel => exact ⟨k + 1, _, rfl, by omega, by go_num, by rw [HNS.out, List.map_append, HZ.out]; unfold OwnS; rw [List.map_cons, List.map_nil, ← strsV_push, List.length_append, ← HX.out] at *; exact hown4, hw3.grown hg4 hw3.size (fun q hq => by have := (World.ownsRow.lt HOW.out q hq).1; omega)⟩
end Go.Proofs.YtkgnapojkijbgaaGreatDoor
/- The contracts of config.hoursTexts, of binder.bind, that tells of its fault, of config.each of routes, and of binder.route. -/
namespace Go.Proofs.YtkgnapojkijbgaaGreatDoor
open Go.RowKit

/-- the names and texts of hours, one behind the other -/
def hrW (xs : List HrA) : List ByteArray := xs.flatMap fun x => [x.n, bytA (textI x.n.data.toList x.d x.f x.t).1]
theorem hrW_snoc (xs : List HrA) (x : HrA) : hrW (xs ++ [x]) = hrW xs ++ [x.n, bytA (textI x.n.data.toList x.d x.f x.t).1] := by
  simp [hrW]
theorem hrW_len (xs : List HrA) : (hrW xs).length = 2 * xs.length := by
  induction xs with
  | nil => simp [hrW]
  | cons x xs ih =>
    simp only [hrW, List.flatMap_cons, List.length_append, List.length_cons, List.length_nil] at *
    omega
theorem textI_max (n : Bs) (d f t : Int) : (bytA (textI n d f t).1).size ≤ maxLen := by
  rw [bytA_size]
  unfold textI
  split
  · rename_i h
    rw [Bool.and_eq_true] at h
    have hs := h.2
    unfold spanC at hs
    rw [decide_eq_true_eq] at hs
    obtain ⟨-, -, -, hjl⟩ := days_back d.toNat (by omega)
    obtain ⟨-, -, fl⟩ := clock_back f.toNat (by omega)
    obtain ⟨-, -, tl⟩ := clock_back t.toNat (by omega)
    simp only [textT, List.length_append, List.length_cons, List.length_nil]
    unfold maxLen
    omega
  · simp only [List.length_nil]
    omega
theorem strs2T (W : World) (a b : ByteArray) (ha : a.size ≤ maxLen) (hb : b.size ≤ maxLen) : HasStrs (W.alloc (.cells #[.string a, .string b] 9)) (some ⟨W.heap.size, 0, none⟩) 2 [a, b] := by
  have hB := Blk.new W 9 #[.string a, .string b]
  refine ⟨Nat.le_refl _, by unfold maxLen; omega, fun s hs => ?_, .inr ⟨_, 0, rfl, hB.lt, fun i hi => ?_⟩⟩
  · simp only [List.mem_cons, List.not_mem_nil, or_false] at hs
    rcases hs with rfl | rfl
    · exact ha
    · exact hb
  · have hi' : i < 2 := hi
    rcases (by omega : i = 0 ∨ i = 1) with rfl | rfl
    · exact hB.cell 0
    · exact hB.cell 1
set_option maxHeartbeats 3200000 in
set_option maxRecDepth 100000 in
theorem hoursTexts_any (a : Option Addr) (c : Nat) (xs : List HrA) (w : World) (h : HasHours w a c xs) (h8 : xs.length ≤ 100000) (hT : DayW w) :
    Calls Tryz.prog 29 #[.slice a xs.length c] w (fun e w' => ∃ v, e = .returned v ∧ OwnS 9 w' w.heap.size v (hrW xs) ∧ (∀ s ∈ hrW xs, s.size ≤ maxLen) ∧ Below w.heap.size w w') := by
  obtain ⟨i0, hi, hz0, hz1, hz2⟩ := info_parts Tryz.infoS
  have HH := Lib.hid h
  have HT := Lib.hid hT
  have h1 := h.1
  have h2 := h.2.1
  unfold maxLen at h2
  clear h hT
  go_enter Tryz.func29, Tryz.ntmps29
  go_wp2_with fail
  go_loopg [10, 3, 5, 6, 7] xs.length (fun gg iv v _ _ _ wr => ∃ (V : Value) (k : Nat), V = v ∧ k + gg = xs.length ∧ iv = .int .i64 (k : Int) ∧ OwnS 9 wr w.heap.size V (hrW (xs.take k)) ∧ (∀ s ∈ hrW (xs.take k), s.size ≤ maxLen) ∧ Below w.heap.size w wr ∧ w.heap.size ≤ wr.heap.size)
  case atStart => exact ⟨_, 0, rfl, by omega, rfl, OwnS.nil _ _ _, (fun s hs => by cases hs), Below.refl _ _, Nat.le_refl _⟩
  case round =>
    obtain ⟨V, k, rfl, hkg, rfl, hown, hsz, hbr, hzr⟩ := hrel
    cases gk with
    | zero =>
      obtain rfl : k = xs.length := by omega
      rw [List.take_length] at hown hsz
      have HO := Lib.hid hown
      have HBR := Lib.hid hbr
      have HSZ := Lib.hid hsz
      clear hown hbr hsz
      go_wp2_with fail
      go_ret
      exact ⟨V, rfl, HO.out, HSZ.out, HBR.out⟩
    | succ gg =>
      have hkl : k < xs.length := by omega
      obtain ⟨b, off, rfl, _, hc⟩ := HasRow.place HH.out k hkl
      have e0 := cellL hbr (hc 0 _ rfl)
      have e1 := cellL hbr (hc 1 _ rfl)
      have e2 := cellL hbr (hc 2 _ rfl)
      have e3 := cellL hbr (hc 3 _ rfl)
      rw [Nat.add_zero] at e0
      clear hc
      have hts : hrW (xs.take (k + 1)) = hrW (xs.take k) ++ [xs[k].n, bytA (textI xs[k].n.data.toList xs[k].d xs[k].f xs[k].t).1] := by
        rw [List.take_succ_eq_append_getElem hkl, hrW_snoc]
      have hll := hrW_len (xs.take k)
      rw [List.length_take] at hll
      have hok := HH.out.2.2.1 xs[k] (List.getElem_mem _)
      have HTS := Lib.hid hts
      clear hts
      obtain ⟨x, hx⟩ : ∃ x, xs[k] = x := ⟨_, rfl⟩
      rw [hx] at HTS hok
      simp only [hx] at e0 e1 e2 e3
      clear hx
      have hbn := (Below.refl wr.heap.size wr).alloc (Nat.le_refl _) (.cells #[.string x.n, .int .i64 x.d, .int .i64 x.f, .int .i64 x.t] 51)
      have hN := Blk.new wr 51 #[.string x.n, .int .i64 x.d, .int .i64 x.f, .int .i64 x.t]
      have hownn := hown.call hbn
      have hbrn := hbr.trans (hbn.mono hzr)
      have hzn := Nat.le_trans hzr hbn.size
      have hcall := hTextD_any x.n x.d x.f x.t _ hok.1 (HT.out.call (bthen hbr hbn))
      unfold TextP at hcall
      have HCA := Lib.hid hcall
      have HSZ := Lib.hid hsz
      have hym := textI_max x.n.data.toList x.d x.f x.t
      have HYM := Lib.hid (And.intro hok.1 hym)
      have hlen : (hrW (xs.take k)).length + 2 ≤ 1000000000 := by omega
      generalize hrW (xs.take k) = M at *
      generalize bytA (textI x.n.data.toList x.d x.f x.t).1 = Y at *
      generalize (textI x.n.data.toList x.d x.f x.t).2 = E at *
      have HNB := Lib.hid (fun W (hW : Below (wr.alloc (.cells #[.string x.n, .int .i64 x.d, .int .i64 x.f, .int .i64 x.t] 51)).heap.size (wr.alloc (.cells #[.string x.n, .int .i64 x.d, .int .i64 x.f, .int .i64 x.t] 51)) W) => (hN.call hW).cell 0)
      have f0 := hN.cell 0
      have f1 := hN.cell 1
      have f2 := hN.cell 2
      have f3 := hN.cell 3
      clear hN hbn hown hbr hcall hok hsz hll hym
      go_upto_region 5 with fail
      generalize wr.alloc (.cells #[.string x.n, .int .i64 x.d, .int .i64 x.f, .int .i64 x.t] 51) = wn at *
      clear e0 e1 e2 e3
      go_upto_region 6 with (go_at_call 82; refine HCA.out.mono ?_; rintro e w3 ⟨rfl, hb3⟩; have ho3 := hownn.call hb3; have hz3 := Nat.le_trans hzn hb3.size)
      have g0 := HNB.out _ hb3
      simp only [List.getElem?_toArray, List.getElem?_cons_zero] at g0
      have hbn4 := (Below.refl w3.heap.size w3).alloc (Nat.le_refl _) (.cells #[.string x.n, .string Y] 9)
      have hs2 := strs2T w3 x.n Y HYM.out.1 HYM.out.2
      have ho4 := ho3.call hbn4
      have hz4 := Nat.le_trans hz3 hbn4.size
      have HB4 := Lib.hid (hbrn.trans ((bthen hb3 hbn4).mono hzn))
      clear hbn4 f0 f1 f2 f3
      go_wp2_with (refine wpList_appL (w3.alloc (.cells #[.string x.n, .string Y] 9)) (by rfl) (.tmp 19) (.tmp 23) 24 (by rfl) w.heap.size 9 i0 (.string ⟨#[]⟩) Tryz.underlying24 hi hz0 hz1 hz2 rfl V M (by rfl) ho4 (some ⟨w3.heap.size, 0, none⟩) 2 2 [x.n, Y] (by rfl) rfl hs2 hlen hz4 ?_; intro na nn nc w5 hnn ho5 hg5 hl5)
      have hl2 : (M ++ [x.n, Y]).length = M.length + 2 := by simp
      rw [hl2] at hnn
      rw [hnn] at ho5
      have hb5 := ho4.grown HB4.out (Nat.le_refl _) hz4 hg5
      go_roundg gg
      case measure => omega
      case rel => exact ⟨_, k + 1, rfl, by omega, by go_num, by rw [HTS.out]; exact ho5, (by rw [HTS.out]; intro s hs; exact (List.mem_append.1 hs).elim (HSZ.out s) (hs2.2.2.1 s)), hb5, Nat.le_trans hz4 hg5.size⟩
/-- the fault in a binder's cell -/
def fltI (F : Bool) : Int := if F then 2 else 0
/-- a binder was used: its cell holds whether there was a fault; all other blocks are as they were -/
structure BindF (g : Nat) (F : Bool) (w w' : World) : Prop where
  gr : w.grownBy w' (some g)
  cell : Blk w' g 58 #[.int .i64 (fltI F)]
set_option maxHeartbeats 1600000 in
set_option maxRecDepth 100000 in
theorem cfgBindF_any (g : Nat) (F : Bool) (a : Option Addr) (c : Nat) (ss : List ByteArray) (w : World) (hg : Blk w g 58 #[.int .i64 (fltI F)]) (h : HasStrs w a c ss) :
    Calls Tryz.prog 27 #[.pointer (some ⟨g, 0, none⟩), .slice a ss.length c] w (fun e w' => e = .returned (.string (bindS ss)) ∧ BindF g (F || !mayB ss) w w') := by
  have hb := bind_any a c ss w h
  have hbe : mayB ss = true ∧ bindE ss = 0 ∨ mayB ss = false ∧ bindE ss = 2 := by unfold bindE; cases mayB ss <;> simp
  generalize bindS ss = S at *
  generalize bindE ss = E at *
  generalize mayB ss = B at *
  have HB := Lib.hid hb
  have HG := Lib.hid hg
  clear hb hg h
  go_enter Tryz.func27, Tryz.ntmps27
  rcases hbe with ⟨rfl, rfl⟩ | ⟨rfl, rfl⟩
  · go_wp2_with (go_at_call 80; refine HB.out.mono ?_; rintro e w2 ⟨rfl, hb2⟩)
    go_ret
    exact ⟨rfl, ⟨hb2.os, hb2.tape, hb2.output, hb2.size, fun k hk _ => hb2.block k hk⟩, by rw [Bool.not_true, Bool.or_false]; exact HG.out.call hb2⟩
  · go_upto_region 3 with (go_at_call 80; refine HB.out.mono ?_; rintro e w2 ⟨rfl, hb2⟩)
    have hG2 := HG.out.call hb2
    have hG3 := hG2.set 0 (.int .i64 2)
    have q0 := hG2.cell 0
    have q1 := hG2.frozen 0
    have HB2 := Lib.hid hb2
    have HG3 := Lib.hid hG3
    clear hb2 hG2 hG3
    go_wp2_with fail
    go_ret
    exact ⟨rfl, ⟨HB2.out.os, HB2.out.tape, HB2.out.output, by simpa [World.setCell] using HB2.out.size, fun k hk hne => (Below.heap_setCell w2 ⟨g, 0, none⟩ _ k (fun e => hne (by rw [e]))).trans (HB2.out.block k hk)⟩, by rw [Bool.not_false, Bool.or_true]; exact HG3.out⟩
mutual
/-- a route's text -/
def rtT : Rt → ByteArray
  | .mk r m b a e p u o xs => bindS [r, bindS (m.map textV), bindS b, bindS u, numS a, numS e, numS p, (if o then ⟨#[49]⟩ else ⟨#[48]⟩), bindS (rtTs xs)]
def rtTs : List Rt → List ByteArray
  | [] => []
  | x :: xs => rtT x :: rtTs xs
end
mutual
/-- is there room for a route's text? -/
def rtK : Rt → Bool
  | .mk r m b a e p u o xs => mayB (m.map textV) && (mayB b && (mayB u && (rtKs xs && (mayB (rtTs xs) && mayB [r, bindS (m.map textV), bindS b, bindS u, numS a, numS e, numS p, (if o then ⟨#[49]⟩ else ⟨#[48]⟩), bindS (rtTs xs)]))))
def rtKs : List Rt → Bool
  | [] => true
  | x :: xs => rtK x && rtKs xs
end
theorem rtT_max : ∀ n : Rt, (rtT n).size ≤ maxLen
  | .mk r m b a e p u o xs => by simp only [rtT]; exact bindS_max _
theorem rtTs_map (xs : List Rt) : rtTs xs = xs.map rtT := by
  induction xs with
  | nil => rfl
  | cons x xs ih => rw [rtTs, ih]; rfl
theorem rtKs_all (xs : List Rt) : rtKs xs = xs.all rtK := by
  induction xs with
  | nil => rfl
  | cons x xs ih => rw [rtKs, ih]; rfl
theorem rtTs_snoc (xs : List Rt) (k : Nat) (h : k < xs.length) : rtTs (xs.take (k + 1)) = rtTs (xs.take k) ++ [rtT xs[k]] := by
  rw [rtTs_map, rtTs_map, List.take_succ_eq_append_getElem h, List.map_append]; rfl
theorem rtKs_snoc (xs : List Rt) (k : Nat) (h : k < xs.length) (F : Bool) : (F || !rtKs (xs.take (k + 1))) = ((F || !rtKs (xs.take k)) || !rtK xs[k]) := by
  rw [rtKs_all, rtKs_all, List.take_succ_eq_append_getElem h, List.all_append]
  simp only [List.all_cons, List.all_nil, Bool.and_true, Bool.not_and, Bool.or_assoc]
/-- what lay there before the binder lies there yet; the binder's cell -/
structure RouW (w0 : World) (g : Nat) (F : Bool) (W : World) : Prop where
  below : Below w0.heap.size w0 W
  cell : Blk W g 58 #[.int .i64 (fltI F)]
  young : w0.heap.size ≤ g
theorem RouW.call {w0 W W1 : World} {g : Nat} {F : Bool} (h : RouW w0 g F W) (hb : Below W.heap.size W W1) : RouW w0 g F W1 := ⟨bthen h.below hb, h.cell.call hb, h.young⟩
theorem RouW.bind {w0 W W1 : World} {g : Nat} {F F' : Bool} (h : RouW w0 g F W) (hb : BindF g F' W W1) : RouW w0 g F' W1 :=
  ⟨h.below.grown hb.gr h.below.size (fun k hk => by cases hk; exact h.young), hb.cell, h.young⟩
theorem grownBy_below {w w1 : World} {r : Option Nat} (h : Below w.heap.size w w1) : w.grownBy w1 r := ⟨h.os, h.tape, h.output, h.size, fun k hk _ => h.block k hk⟩
theorem grownBy_trans {w w1 w2 : World} {g : Nat} (h : w.grownBy w1 (some g)) (h2 : w1.grownBy w2 (some g)) : w.grownBy w2 (some g) :=
  ⟨h2.os.trans h.os, h2.tape.trans h.tape, h2.output.trans h.output, Nat.le_trans h.size h2.size, fun k hk hne => (h2.block k (Nat.lt_of_lt_of_le hk h.size) hne).trans (h.block k hk hne)⟩
/-- the binder's cell was written, and a row of the call's own grew -/
theorem grownBy_row {w w1 w2 : World} {g base : Nat} {T : TypeId} {v : Value} {ss : List ByteArray} (h : w.grownBy w1 (some g)) (ho : OwnS T w1 base v ss) (hb : w.heap.size ≤ base) (h2 : w1.grownBy w2 v.ownBlock) : w.grownBy w2 (some g) :=
  ⟨h2.os.trans h.os, h2.tape.trans h.tape, h2.output.trans h.output, Nat.le_trans h.size h2.size, fun k hk hne => (h2.block k (Nat.lt_of_lt_of_le hk h.size) (ho.ne (Nat.lt_of_lt_of_le hk hb))).trans (h.block k hk hne)⟩
theorem OwnS.keepG {T : TypeId} {w w1 : World} {base g : Nat} {v : Value} {ss : List ByteArray} (h : OwnS T w base v ss) (hg : g < base) (hk : w.grownBy w1 (some g)) : OwnS T w1 base v ss :=
  World.ownsRow.kept h hk (.inr fun e => h.ne hg e.symm)
def RouP (w0 : World) (g : Nat) (W : World) (n : Rt) (F : Bool) (e : Ending) (W' : World) : Prop := e = .returned (.string (rtT n)) ∧ RouW w0 g (F || !rtK n) W' ∧ W.grownBy W' (some g)
abbrev rouF (g : Nat) : Value := .func (.func 32) #[.pointer (some ⟨g, 0, none⟩)] #[]
def RouAll (w0 : World) (g : Nat) (q : RtAt) : Prop :=
  ∀ (W : World) (F : Bool), RouW w0 g F W → Calls Tryz.prog 32 #[.pointer (some ⟨g, 0, none⟩), .agg (tCells q)] W (RouP w0 g W q.n F)
def RouKids (w0 : World) (g : Nat) (xs : List Rt) (a : Option Addr) : Prop :=
  xs = [] ∨ ∃ b off, a = some ⟨b, off, none⟩ ∧ b < w0.heap.size ∧ ∀ i (h : i < xs.length), ∃ r : RtAt, r.n = xs[i] ∧ r.lies w0 b (off + i * 9) ∧ r.ok w0 ∧ RouAll w0 g r
set_option maxHeartbeats 6400000 in
set_option maxRecDepth 100000 in
theorem eachRt_any {w0 : World} {g : Nat} (a : Option Addr) (c : Nat) (xs : List Rt) (_hkc : xs.length ≤ c ∧ c ≤ maxLen) (h8 : xs.length ≤ 1000000) (HK : RouKids w0 g xs a) (W : World) (F : Bool) (hW : RouW w0 g F W) :
    Calls Tryz.prog 86 #[.slice a xs.length c, rouF g] W (fun e W' => ∃ v, e = .returned v ∧ OwnS 9 W' W.heap.size v (rtTs xs) ∧ RouW w0 g (F || !rtKs xs) W' ∧ W.grownBy W' (some g)) := by
  obtain ⟨i0, hi, hz0, hz1, hz2⟩ := info_parts Tryz.infoS
  have HKK := Lib.hid HK
  have hgW := hW.cell.lt

  clear HK
  simp only [rouF]
  go_enter Tryz.func86, Tryz.ntmps86
  go_wp2_with fail
  go_loopg [10, 5, 7] xs.length (fun gg iv v _ wr => ∃ (V : Value) (k : Nat), V = v ∧ k + gg = xs.length ∧ iv = .int .i64 (k : Int) ∧ OwnS 9 wr W.heap.size V (rtTs (xs.take k)) ∧ RouW w0 g (F || !rtKs (xs.take k)) wr ∧ W.grownBy wr (some g))
  case atStart => exact ⟨_, 0, rfl, by omega, rfl, OwnS.nil _ _ _, by rw [List.take_zero, rtKs, Bool.not_true, Bool.or_false]; exact hW, ⟨rfl, rfl, rfl, Nat.le_refl _, fun _ _ _ => rfl⟩⟩
  case round =>
    obtain ⟨V, k, rfl, hkg, rfl, hown, hrw, hgr⟩ := hrel
    cases gk with
    | zero =>
      obtain rfl : k = xs.length := by omega
      rw [List.take_length] at hown hrw
      have HO := Lib.hid hown
      have HRW := Lib.hid hrw
      have HGR := Lib.hid hgr
      clear hown hrw hgr hW
      go_wp2_with fail
      go_ret
      exact ⟨V, rfl, HO.out, HRW.out, HGR.out⟩
    | succ gg =>
      have hkl : k < xs.length := by omega
      obtain ⟨b, off, rfl, _, hkk⟩ : ∃ b off, a = some ⟨b, off, none⟩ ∧ b < w0.heap.size ∧ ∀ i (h : i < xs.length), ∃ r : RtAt, r.n = xs[i] ∧ r.lies w0 b (off + i * 9) ∧ r.ok w0 ∧ RouAll w0 g r := by
        rcases HKK.out with h | h
        · rw [h] at hkl; simp at hkl
        · exact h
      obtain ⟨r, hrn, hrl, hro, hra⟩ := hkk k hkl
      obtain ⟨e0, e1, e2, e3, e4, e5, e6, e7, e8⟩ := hrl.call hrw.below
      have hbn := (Below.refl wr.heap.size wr).alloc (Nat.le_refl _) (.cells (tCells r) 27)
      have hts := rtTs_snoc xs k hkl
      have hks := rtKs_snoc xs k hkl F
      rw [← hrn] at hts hks
      have hll : (rtTs (xs.take k)).length ≤ 1000000 := by rw [rtTs_map, List.length_map, List.length_take]; omega
      have hrn1 := hrw.call hbn
      have hown1 := hown.call hbn
      have hcall := hra _ _ hrn1
      obtain ⟨f0, f1, f2, f3, f4, f5, f6, f7, f8⟩ := (Blk.new wr 27 (tCells r)).cells9
      have HTS := Lib.hid hts
      have HKS := Lib.hid hks
      have HCA := Lib.hid hcall
      have HG1 := Lib.hid (grownBy_trans hgr (grownBy_below hbn))
      have hzw : W.heap.size ≤ (wr.alloc (.cells (tCells r) 27)).heap.size := Nat.le_trans hgr.size hbn.size
      unfold RouP at HCA
      generalize rtT r.n = Y at *
      generalize rtK r.n = KY at *
      generalize rtTs (xs.take k) = M at *
      generalize (F || !rtKs (xs.take k)) = FK at *
      clear hrn hrl hro hra hbn hts hks hown hrw hcall hrn1 hkk hW
      obtain ⟨r, ma', mc', ba', bc', ua', uc', ka', kc'⟩ := r
      simp only [tCells] at *
      go_upto_region 5 with fail
      obtain ⟨wn, hwn⟩ : ∃ wn, wr.alloc (.cells #[.string r.recv, .slice ma' r.ms.length mc', .slice ba' r.bys.length bc', .int .i64 r.wait, .int .i64 r.every, .int .i64 r.rep, .slice ua' r.mute.length uc', .bool r.on, .slice ka' r.kids.length kc'] 27) = wn := ⟨_, rfl⟩
      simp only [hwn] at *
      clear hwn e0 e1 e2 e3 e4 e5 e6 e7 e8
      go_wp2_with (first
        | (go_at_call 32; refine HCA.out.mono ?_; rintro e w3 ⟨rfl, hr3, hk3⟩; have ho3 := hown1.keepG hgW hk3; have hz3 := Nat.le_trans hzw hk3.size)
        | (refine wpList_pushStr w3 (by rfl) (.tmp 14) (.tmp 18) 24 (by rfl) W.heap.size 9 i0 (.string ⟨#[]⟩) Tryz.underlying24 hi hz0 hz1 hz2 rfl V M Y (by rfl) ho3 (by rfl) hll hz3 ?_; intro v4 w4 ho4 hg4))
      have hg13 := grownBy_trans HG1.out hk3
      have hb4 := ho3.grown hr3.below (Nat.le_trans hr3.young (Nat.le_of_lt hgW)) (Nat.le_trans (Nat.le_trans hr3.young (Nat.le_of_lt hgW)) hz3) hg4
      have hr4 : RouW w0 g (FK || !KY) w4 := ⟨hb4, hr3.cell.push hg4 (ho3.ne hgW), hr3.young⟩
      have hg4' := grownBy_row hg13 ho3 (Nat.le_refl _) hg4
      go_roundg gg
      case measure => omega
      case rel => exact ⟨v4, k + 1, rfl, by omega, by go_num, by rw [HTS.out]; exact ho4, by rw [HKS.out]; exact hr4, hg4'⟩
end Go.Proofs.YtkgnapojkijbgaaGreatDoor
/- The contract of binder.route. -/
namespace Go.Proofs.YtkgnapojkijbgaaGreatDoor
open Go.RowKit

theorem rtT_eq (n : Rt) : rtT n = bindS [n.recv, bindS (n.ms.map textV), bindS n.bys, bindS n.mute, numS n.wait, numS n.every, numS n.rep, (if n.on then ⟨#[49]⟩ else ⟨#[48]⟩), bindS (rtTs n.kids)] := by
  cases n; rfl
theorem rtK_eq (n : Rt) : rtK n = (mayB (n.ms.map textV) && (mayB n.bys && (mayB n.mute && (rtKs n.kids && (mayB (rtTs n.kids) && mayB [n.recv, bindS (n.ms.map textV), bindS n.bys, bindS n.mute, numS n.wait, numS n.every, numS n.rep, (if n.on then ⟨#[49]⟩ else ⟨#[48]⟩), bindS (rtTs n.kids)]))))) := by
  cases n; rfl
structure RouSt (w0 W : World) (g g3 : Nat) (cs : Array Value) (F : Bool) (u : World) : Prop where
  rou : RouW w0 g F u
  blk : Blk u g3 27 cs
  gr : W.grownBy u (some g)
  ne : g3 ≠ g
theorem RouSt.step {w0 W u u1 : World} {g g3 : Nat} {cs : Array Value} {F F' : Bool} (h : RouSt w0 W g g3 cs F u) (hr : RouW w0 g F' u1) (hg : u.grownBy u1 (some g)) : RouSt w0 W g g3 cs F' u1 :=
  ⟨hr, h.blk.push hg (fun e => h.ne (Option.some.inj e)), grownBy_trans h.gr hg, h.ne⟩
theorem RouSt.call {w0 W u u1 : World} {g g3 : Nat} {cs : Array Value} {F : Bool} (h : RouSt w0 W g g3 cs F u) (hb : Below u.heap.size u u1) : RouSt w0 W g g3 cs F u1 :=
  h.step (h.rou.call hb) (grownBy_below hb)
theorem RouSt.bind {w0 W u u1 : World} {g g3 : Nat} {cs : Array Value} {F F' : Bool} (h : RouSt w0 W g g3 cs F u) (hb : BindF g F' u u1) : RouSt w0 W g g3 cs F' u1 :=
  h.step (h.rou.bind hb) hb.gr
theorem strs9 (W : World) (s0 s1 s2 s3 s4 s5 s6 s7 s8 : ByteArray) (h0 : s0.size ≤ maxLen) (h1 : s1.size ≤ maxLen) (h2 : s2.size ≤ maxLen) (h3 : s3.size ≤ maxLen) (h4 : s4.size ≤ maxLen) (h5 : s5.size ≤ maxLen) (h6 : s6.size ≤ maxLen) (h7 : s7.size ≤ maxLen) (h8 : s8.size ≤ maxLen) :
    HasStrs (W.alloc (.cells #[.string s0, .string s1, .string s2, .string s3, .string s4, .string s5, .string s6, .string s7, .string s8] 9)) (some ⟨W.heap.size, 0, none⟩) 9 [s0, s1, s2, s3, s4, s5, s6, s7, s8] := by
  have hB := Blk.new W 9 #[.string s0, .string s1, .string s2, .string s3, .string s4, .string s5, .string s6, .string s7, .string s8]
  refine ⟨Nat.le_refl _, by unfold maxLen; omega, fun s hs => ?_, .inr ⟨_, 0, rfl, hB.lt, fun i hi => ?_⟩⟩
  · simp only [List.mem_cons, List.not_mem_nil, or_false] at hs
    rcases hs with rfl | rfl | rfl | rfl | rfl | rfl | rfl | rfl | rfl <;> assumption
  · have hi' : i < 9 := hi
    rcases (by omega : i = 0 ∨ i = 1 ∨ i = 2 ∨ i = 3 ∨ i = 4 ∨ i = 5 ∨ i = 6 ∨ i = 7 ∨ i = 8) with rfl | rfl | rfl | rfl | rfl | rfl | rfl | rfl | rfl
    · exact hB.cell 0
    · exact hB.cell 1
    · exact hB.cell 2
    · exact hB.cell 3
    · exact hB.cell 4
    · exact hB.cell 5
    · exact hB.cell 6
    · exact hB.cell 7
    · exact hB.cell 8
set_option maxHeartbeats 25600000 in
set_option maxRecDepth 100000 in
theorem rou_step {w0 : World} {g : Nat} (q : RtAt) (hq : q.own w0) (hkc : q.n.kids.length ≤ q.kc ∧ q.kc ≤ maxLen) (h8 : q.n.kids.length ≤ 1000000) (h9 : q.n.ms.length ≤ 1000000) (HKID : RouKids w0 g q.n.kids q.ka) : RouAll w0 g q := by
  intro W F hW
  have hb := (Below.refl W.heap.size W).alloc (Nat.le_refl _) (.cells (tCells q) 27)
  have hB := Blk.new W 27 (tCells q)
  have hgW := hW.cell.lt
  have hst : RouSt w0 W g W.heap.size (tCells q) F (W.alloc (.cells (tCells q) 27)) := ⟨hW.call hb, hB, grownBy_below hb, by omega⟩
  have HQ := Lib.hid hq
  have HNU := Lib.hid cfgNumber_any
  have HEM := Lib.hid (fun u (hu : Below w0.heap.size w0 u) => eachM_any q.ma q.mc q.n.ms u (hq.1.call hu) h9)
  have HER := Lib.hid (fun u F' (hu : RouW w0 g F' u) => eachRt_any q.ka q.kc q.n.kids hkc h8 HKID u F' hu)
  unfold RouP
  rw [rtT_eq, rtK_eq]
  have HSZ := Lib.hid (And.intro (show q.n.recv.size ≤ maxLen from Nat.le_trans hq.2.2.2.1 (by unfold maxLen; omega)) (And.intro (bindS_max (q.n.ms.map textV)) (And.intro (bindS_max q.n.bys) (And.intro (bindS_max q.n.mute) (bindS_max (rtTs q.n.kids))))))
  have HZM := Lib.hid (show ∀ s ∈ q.n.ms.map textV, s.size ≤ maxLen from fun s hs => by obtain ⟨m, _, rfl⟩ := List.mem_map.1 hs; exact textV_max m)
  have HZK := Lib.hid (show ∀ s ∈ rtTs q.n.kids, s.size ≤ maxLen from fun s hs => by rw [rtTs_map] at hs; obtain ⟨m, _, rfl⟩ := List.mem_map.1 hs; exact rtT_max m)
  clear hW hb hB hq HKID hkc h8 h9
  obtain ⟨n, ma, mc, ba, bc, ua, uc, ka, kc⟩ := q
  simp only [tCells, rouF] at *
  generalize n.ms.map textV = MS at *
  generalize rtTs n.kids = KS at *
  generalize rtKs n.kids = KK at *
  obtain ⟨BM, hBM⟩ : ∃ B, bindS MS = B := ⟨_, rfl⟩
  obtain ⟨BB, hBB⟩ : ∃ B, bindS n.bys = B := ⟨_, rfl⟩
  obtain ⟨BU, hBU⟩ : ∃ B, bindS n.mute = B := ⟨_, rfl⟩
  obtain ⟨BK, hBK⟩ : ∃ B, bindS KS = B := ⟨_, rfl⟩
  rw [hBM, hBB, hBU, hBK] at HSZ ⊢
  have HBM := Lib.hid hBM
  have HBB := Lib.hid hBB
  have HBU := Lib.hid hBU
  have HBK := Lib.hid hBK
  clear hBM hBB hBU hBK
  obtain ⟨O, hO⟩ : ∃ O, n.on = O := ⟨_, rfl⟩
  rw [hO] at hst ⊢
  clear hO
  obtain ⟨g3, hg3⟩ : ∃ g3, W.heap.size = g3 := ⟨_, rfl⟩
  go_enter Tryz.func32, Tryz.ntmps32
  go_upto_region 1 with fail
  obtain ⟨wx, hwx⟩ : ∃ wx, W.alloc (.cells #[.string n.recv, .slice ma n.ms.length mc, .slice ba n.bys.length bc, .int .i64 n.wait, .int .i64 n.every, .int .i64 n.rep, .slice ua n.mute.length uc, .bool O, .slice ka n.kids.length kc] 27) = wx := ⟨_, rfl⟩
  rw [hwx, hg3] at hst
  simp only [hwx]
  clear hwx hg3 hgW
  cases O
  case true =>
    obtain ⟨-, -, -, -, -, -, -, x7, -⟩ := hst.blk.cells9
    go_upto_region 4 with fail
    clear x7
    have s0 : RouSt w0 W g g3 #[.string n.recv, .slice ma n.ms.length mc, .slice ba n.bys.length bc, .int .i64 n.wait, .int .i64 n.every, .int .i64 n.rep, .slice ua n.mute.length uc, .bool true, .slice ka n.kids.length kc] F wx.drew := hst.call (Below.refl _ _).drew
    have hS := s0.blk.cells9
    clear hst
    refine wp_region_marked (fun w' : World => w'.cell? ⟨g3, 0, none⟩ = some (.string n.recv) ∧ w'.cell? ⟨g3, 1, none⟩ = some (.slice ma n.ms.length mc) ∧ w'.cell? ⟨g3, 2, none⟩ = some (.slice ba n.bys.length bc) ∧ w'.cell? ⟨g3, 3, none⟩ = some (.int .i64 n.wait) ∧ w'.cell? ⟨g3, 4, none⟩ = some (.int .i64 n.every) ∧ w'.cell? ⟨g3, 5, none⟩ = some (.int .i64 n.rep) ∧ w'.cell? ⟨g3, 6, none⟩ = some (.slice ua n.mute.length uc) ∧ w'.cell? ⟨g3, 7, none⟩ = some (.bool true) ∧ w'.cell? ⟨g3, 8, none⟩ = some (.slice ka n.kids.length kc)) 35 (by kernel_rfl) ?_
    refine wpAnyM_pure (v := ?v0) 0 rfl (by kernel_rfl) (by kernel_rfl) (by kernel_rfl) (by kernel_rfl) (by decide) (fun _ _ _ h => h) (Or.inl ⟨by rfl, ?hy0⟩) hS ?rest0
    case hy0 => intro wq hSw; go_simp; (try with_reducible rfl)
    case rest0 =>
    try simp only [Act.put, List.setIfInBounds_toArray]
    refine wpAnyM_pure (v := ?v1) 1 rfl (by kernel_rfl) (by kernel_rfl) (by kernel_rfl) (by kernel_rfl) (by decide) (fun _ _ _ h => h) (Or.inl ⟨by rfl, ?hy1⟩) hS ?rest1
    case hy1 => intro wq hSw; go_simp; (try with_reducible rfl)
    case rest1 =>
    try simp only [Act.put]
    refine wpAnyM_loadP [] (v := ?v2) 2 rfl (by kernel_rfl) (by kernel_rfl) (by kernel_rfl) (by kernel_rfl) (by decide) (by kernel_rfl) (fun _ _ _ h => h) (Or.inl ⟨by rfl, ?hy2⟩) hS ?rest2
    case hy2 => intro wq hSw; (try dsimp only at hSw); obtain ⟨k0, k1, k2, k3, k4, k5, k6, k7, k8⟩ := hSw; go_simp; (try with_reducible rfl)
    case rest2 =>
    try simp only [Act.put]
    refine wpAnyM_pure (v := ?v3) 3 rfl (by kernel_rfl) (by kernel_rfl) (by kernel_rfl) (by kernel_rfl) (by decide) (fun _ _ _ h => h) (Or.inl ⟨by rfl, ?hy3⟩) hS ?rest3
    case hy3 => intro wq hSw; go_simp; (try with_reducible rfl)
    case rest3 =>
    try simp only [Act.put]
    refine wpAnyM_pure (v := ?v4) 4 rfl (by kernel_rfl) (by kernel_rfl) (by kernel_rfl) (by kernel_rfl) (by decide) (fun _ _ _ h => h) (Or.inl ⟨by rfl, ?hy4⟩) hS ?rest4
    case hy4 => intro wq hSw; go_simp; (try with_reducible rfl)
    case rest4 =>
    try simp only [Act.put]
    refine wpAnyM_loadP [] (v := ?v5) 5 rfl (by kernel_rfl) (by kernel_rfl) (by kernel_rfl) (by kernel_rfl) (by decide) (by kernel_rfl) (fun _ _ _ h => h) (Or.inl ⟨by rfl, ?hy5⟩) hS ?rest5
    case hy5 => intro wq hSw; (try dsimp only at hSw); obtain ⟨k0, k1, k2, k3, k4, k5, k6, k7, k8⟩ := hSw; go_simp; (try with_reducible rfl)
    case rest5 =>
    try simp only [Act.put]
    refine wpAnyM_pure (v := ?v8) 8 rfl (by kernel_rfl) (by kernel_rfl) (by kernel_rfl) (by kernel_rfl) (by decide) (fun _ _ _ h => h) (Or.inl ⟨by rfl, ?hy8⟩) hS ?rest8
    case hy8 => intro wq hSw; go_simp; (try with_reducible rfl)
    case rest8 =>
    try simp only [Act.put]
    refine wpAnyM_pure (v := ?v9) 9 rfl (by kernel_rfl) (by kernel_rfl) (by kernel_rfl) (by kernel_rfl) (by decide) (fun _ _ _ h => h) (Or.inl ⟨by rfl, ?hy9⟩) hS ?rest9
    case hy9 => intro wq hSw; go_simp; (try with_reducible rfl)
    case rest9 =>
    try simp only [Act.put]
    refine wpAnyM_loadP [] (v := ?v10) 10 rfl (by kernel_rfl) (by kernel_rfl) (by kernel_rfl) (by kernel_rfl) (by decide) (by kernel_rfl) (fun _ _ _ h => h) (Or.inl ⟨by rfl, ?hy10⟩) hS ?rest10
    case hy10 => intro wq hSw; (try dsimp only at hSw); obtain ⟨k0, k1, k2, k3, k4, k5, k6, k7, k8⟩ := hSw; go_simp; (try with_reducible rfl)
    case rest10 =>
    try simp only [Act.put]
    refine wpAnyM_pure (v := ?v12) 12 rfl (by kernel_rfl) (by kernel_rfl) (by kernel_rfl) (by kernel_rfl) (by decide) (fun _ _ _ h => h) (Or.inl ⟨by rfl, ?hy12⟩) hS ?rest12
    case hy12 => intro wq hSw; go_simp; (try with_reducible rfl)
    case rest12 =>
    try simp only [Act.put]
    refine wpAnyM_pure (v := ?v13) 13 rfl (by kernel_rfl) (by kernel_rfl) (by kernel_rfl) (by kernel_rfl) (by decide) (fun _ _ _ h => h) (Or.inl ⟨by rfl, ?hy13⟩) hS ?rest13
    case hy13 => intro wq hSw; go_simp; (try with_reducible rfl)
    case rest13 =>
    try simp only [Act.put]
    refine wpAnyM_loadP [] (v := ?v14) 14 rfl (by kernel_rfl) (by kernel_rfl) (by kernel_rfl) (by kernel_rfl) (by decide) (by kernel_rfl) (fun _ _ _ h => h) (Or.inl ⟨by rfl, ?hy14⟩) hS ?rest14
    case hy14 => intro wq hSw; (try dsimp only at hSw); obtain ⟨k0, k1, k2, k3, k4, k5, k6, k7, k8⟩ := hSw; go_simp; (try with_reducible rfl)
    case rest14 =>
    try simp only [Act.put]
    refine wpAnyM_pure (v := ?v16) 16 rfl (by kernel_rfl) (by kernel_rfl) (by kernel_rfl) (by kernel_rfl) (by decide) (fun _ _ _ h => h) (Or.inl ⟨by rfl, ?hy16⟩) hS ?rest16
    case hy16 => intro wq hSw; go_simp; (try with_reducible rfl)
    case rest16 =>
    try simp only [Act.put]
    refine wpAnyM_loadP [] (v := ?v17) 17 rfl (by kernel_rfl) (by kernel_rfl) (by kernel_rfl) (by kernel_rfl) (by decide) (by kernel_rfl) (fun _ _ _ h => h) (Or.inl ⟨by rfl, ?hy17⟩) hS ?rest17
    case hy17 => intro wq hSw; (try dsimp only at hSw); obtain ⟨k0, k1, k2, k3, k4, k5, k6, k7, k8⟩ := hSw; go_simp; (try with_reducible rfl)
    case rest17 =>
    try simp only [Act.put]
    refine wpAnyM_pure (v := ?v19) 19 rfl (by kernel_rfl) (by kernel_rfl) (by kernel_rfl) (by kernel_rfl) (by decide) (fun _ _ _ h => h) (Or.inl ⟨by rfl, ?hy19⟩) hS ?rest19
    case hy19 => intro wq hSw; go_simp; (try with_reducible rfl)
    case rest19 =>
    try simp only [Act.put]
    refine wpAnyM_loadP [] (v := ?v20) 20 rfl (by kernel_rfl) (by kernel_rfl) (by kernel_rfl) (by kernel_rfl) (by decide) (by kernel_rfl) (fun _ _ _ h => h) (Or.inl ⟨by rfl, ?hy20⟩) hS ?rest20
    case hy20 => intro wq hSw; (try dsimp only at hSw); obtain ⟨k0, k1, k2, k3, k4, k5, k6, k7, k8⟩ := hSw; go_simp; (try with_reducible rfl)
    case rest20 =>
    try simp only [Act.put]
    refine wpAnyM_pure (v := ?v22) 22 rfl (by kernel_rfl) (by kernel_rfl) (by kernel_rfl) (by kernel_rfl) (by decide) (fun _ _ _ h => h) (Or.inl ⟨by rfl, ?hy22⟩) hS ?rest22
    case hy22 => intro wq hSw; go_simp; (try with_reducible rfl)
    case rest22 =>
    try simp only [Act.put]
    refine wpAnyM_loadP [] (v := ?v23) 23 rfl (by kernel_rfl) (by kernel_rfl) (by kernel_rfl) (by kernel_rfl) (by decide) (by kernel_rfl) (fun _ _ _ h => h) (Or.inl ⟨by rfl, ?hy23⟩) hS ?rest23
    case hy23 => intro wq hSw; (try dsimp only at hSw); obtain ⟨k0, k1, k2, k3, k4, k5, k6, k7, k8⟩ := hSw; go_simp; (try with_reducible rfl)
    case rest23 =>
    try simp only [Act.put]
    refine wpAnyM_pure (v := ?v25) 25 rfl (by kernel_rfl) (by kernel_rfl) (by kernel_rfl) (by kernel_rfl) (by decide) (fun _ _ _ h => h) (Or.inl ⟨by rfl, ?hy25⟩) hS ?rest25
    case hy25 => intro wq hSw; go_simp; (try with_reducible rfl)
    case rest25 =>
    try simp only [Act.put]
    refine wpAnyM_pure (v := ?v26) 26 rfl (by kernel_rfl) (by kernel_rfl) (by kernel_rfl) (by kernel_rfl) (by decide) (fun _ _ _ h => h) (Or.inl ⟨by rfl, ?hy26⟩) hS ?rest26
    case hy26 => intro wq hSw; go_simp; (try with_reducible rfl)
    case rest26 =>
    try simp only [Act.put]
    refine wpAnyM_pure (v := ?v27) 27 rfl (by kernel_rfl) (by kernel_rfl) (by kernel_rfl) (by kernel_rfl) (by decide) (fun _ _ _ h => h) (Or.inl ⟨by rfl, ?hy27⟩) hS ?rest27
    case hy27 => intro wq hSw; go_simp; (try with_reducible rfl)
    case rest27 =>
    try simp only [Act.put]
    refine wpAnyM_loadP [] (v := ?v28) 28 rfl (by kernel_rfl) (by kernel_rfl) (by kernel_rfl) (by kernel_rfl) (by decide) (by kernel_rfl) (fun _ _ _ h => h) (Or.inl ⟨by rfl, ?hy28⟩) hS ?rest28
    case hy28 => intro wq hSw; (try dsimp only at hSw); obtain ⟨k0, k1, k2, k3, k4, k5, k6, k7, k8⟩ := hSw; go_simp; (try with_reducible rfl)
    case rest28 =>
    try simp only [Act.put]
    refine wpAnyM_pure (v := ?v29) 29 rfl (by kernel_rfl) (by kernel_rfl) (by kernel_rfl) (by kernel_rfl) (by decide) (fun _ _ _ h => h) (Or.inl ⟨by rfl, ?hy29⟩) hS ?rest29
    case hy29 => intro wq hSw; go_simp; (try with_reducible rfl)
    case rest29 =>
    try simp only [Act.put]
    refine wpAnyM_pure (v := ?v30) 30 rfl (by kernel_rfl) (by kernel_rfl) (by kernel_rfl) (by kernel_rfl) (by decide) (fun _ _ _ h => h) (Or.inl ⟨by rfl, ?hy30⟩) hS ?rest30
    case hy30 => intro wq hSw; go_simp; (try with_reducible rfl)
    case rest30 =>
    try simp only [Act.put]
    refine wpAnyM_one 6 rfl (by kernel_rfl) (fun K hK => ?_)
    go_simp
    go_at_call 83
    refine (HEM.out _ s0.rou.below).mono ?_
    rintro e u1 ⟨v1, rfl, ho1, hd1⟩
    obtain ⟨a1, c1, rfl, hs1⟩ := ho1.strs HZM.out
    have s1 := s0.call hd1
    refine hK.out _ _ s1.blk.cells9 ?_
    clear hS
    have hS := s1.blk.cells9
    clear hK
    try simp only [Act.put, List.setIfInBounds_toArray, List.set_cons_zero, List.set_cons_succ]
    refine wpAnyM_one 7 rfl (by kernel_rfl) (fun K hK => ?_)
    go_simp
    go_at_call 27
    refine (cfgBindF_any g _ a1 c1 MS _ s1.rou.cell hs1).mono ?_
    rintro e u2 ⟨rfl, hd2⟩
    have s2 := s1.bind hd2
    refine hK.out _ _ s2.blk.cells9 ?_
    clear hS
    have hS := s2.blk.cells9
    clear hK
    try simp only [Act.put, List.setIfInBounds_toArray, List.set_cons_zero, List.set_cons_succ]
    refine wpAnyM_one 11 rfl (by kernel_rfl) (fun K hK => ?_)
    go_simp
    go_at_call 27
    refine (cfgBindF_any g _ ba bc n.bys _ s2.rou.cell (HQ.out.2.1.call s2.rou.below)).mono ?_
    rintro e u3 ⟨rfl, hd3⟩
    have s3 := s2.bind hd3
    refine hK.out _ _ s3.blk.cells9 ?_
    clear hS
    have hS := s3.blk.cells9
    clear hK
    try simp only [Act.put, List.setIfInBounds_toArray, List.set_cons_zero, List.set_cons_succ]
    refine wpAnyM_one 15 rfl (by kernel_rfl) (fun K hK => ?_)
    go_simp
    go_at_call 27
    refine (cfgBindF_any g _ ua uc n.mute _ s3.rou.cell (HQ.out.2.2.1.call s3.rou.below)).mono ?_
    rintro e u4 ⟨rfl, hd4⟩
    have s4 := s3.bind hd4
    refine hK.out _ _ s4.blk.cells9 ?_
    clear hS
    have hS := s4.blk.cells9
    clear hK
    try simp only [Act.put, List.setIfInBounds_toArray, List.set_cons_zero, List.set_cons_succ]
    refine wpAnyM_one 18 rfl (by kernel_rfl) (fun K hK => ?_)
    go_simp
    go_at_call 85
    refine (HNU.out n.wait _).mono ?_
    rintro e u5 ⟨rfl, hd5⟩
    have s5 := s4.call hd5
    refine hK.out _ _ s5.blk.cells9 ?_
    clear hS
    have hS := s5.blk.cells9
    clear hK
    try simp only [Act.put, List.setIfInBounds_toArray, List.set_cons_zero, List.set_cons_succ]
    refine wpAnyM_one 21 rfl (by kernel_rfl) (fun K hK => ?_)
    go_simp
    go_at_call 85
    refine (HNU.out n.every _).mono ?_
    rintro e u6 ⟨rfl, hd6⟩
    have s6 := s5.call hd6
    refine hK.out _ _ s6.blk.cells9 ?_
    clear hS
    have hS := s6.blk.cells9
    clear hK
    try simp only [Act.put, List.setIfInBounds_toArray, List.set_cons_zero, List.set_cons_succ]
    refine wpAnyM_one 24 rfl (by kernel_rfl) (fun K hK => ?_)
    go_simp
    go_at_call 85
    refine (HNU.out n.rep _).mono ?_
    rintro e u7 ⟨rfl, hd7⟩
    have s7 := s6.call hd7
    refine hK.out _ _ s7.blk.cells9 ?_
    clear hS
    have hS := s7.blk.cells9
    clear hK
    try simp only [Act.put, List.setIfInBounds_toArray, List.set_cons_zero, List.set_cons_succ]
    refine wpAnyM_one 31 rfl (by kernel_rfl) (fun K hK => ?_)
    go_simp
    go_at_call 86
    refine (HER.out _ _ s7.rou).mono ?_
    rintro e u8 ⟨v8, rfl, ho8, hr8, hg8⟩
    obtain ⟨a8, c8, rfl, hs8⟩ := ho8.strs HZK.out
    have s8 := s7.step hr8 hg8
    refine hK.out _ _ s8.blk.cells9 ?_
    clear hS
    have hS := s8.blk.cells9
    clear hK
    try simp only [Act.put, List.setIfInBounds_toArray, List.set_cons_zero, List.set_cons_succ]
    refine wpAnyM_one 32 rfl (by kernel_rfl) (fun K hK => ?_)
    go_simp
    go_at_call 27
    refine (cfgBindF_any g _ a8 c8 KS _ s8.rou.cell hs8).mono ?_
    rintro e u9 ⟨rfl, hd9⟩
    have s9 := s8.bind hd9
    refine hK.out _ _ s9.blk.cells9 ?_
    clear hS
    have hS := s9.blk.cells9
    clear hK
    try simp only [Act.put, List.setIfInBounds_toArray, List.set_cons_zero, List.set_cons_succ]
    refine wpAnyM_one 33 rfl (by kernel_rfl) (fun K hK => ?_)
    go_simp
    simp only [HBM.out, HBB.out, HBU.out, HBK.out] at hS ⊢
    have hn10 := (Below.refl u9.heap.size u9).alloc (Nat.le_refl _) (.cells #[.string n.recv, .string BM, .string BB, .string BU, .string (numS n.wait), .string (numS n.every), .string (numS n.rep), .string ⟨#[49]⟩, .string BK] 9)
    have s10 := s9.call hn10
    have hr10 := strs9 u9 (n.recv) BM BB BU (numS n.wait) (numS n.every) (numS n.rep) ⟨#[49]⟩ BK HSZ.out.1 HSZ.out.2.1 HSZ.out.2.2.1 HSZ.out.2.2.2.1 (numS_max _) (numS_max _) (numS_max _) (by show 1 ≤ maxLen; unfold maxLen; omega) HSZ.out.2.2.2.2
    refine hK.out _ _ s10.blk.cells9 ?_
    clear hS
    have hS := s10.blk.cells9
    clear hK
    try simp only [Act.put, List.setIfInBounds_toArray, List.set_cons_zero, List.set_cons_succ]
    refine wpAnyM_one 34 rfl (by kernel_rfl) (fun K hK => ?_)
    go_simp
    go_at_call 27
    refine (cfgBindF_any g _ (some ⟨u9.heap.size, 0, none⟩) 9 [n.recv, BM, BB, BU, numS n.wait, numS n.every, numS n.rep, ⟨#[49]⟩, BK] _ s10.rou.cell hr10).mono ?_
    rintro e u11 ⟨rfl, hd11⟩
    have s11 := s10.bind hd11
    refine hK.out _ _ s11.blk.cells9 ?_
    clear hS
    have hS := s11.blk.cells9
    clear hK
    try simp only [Act.put, List.setIfInBounds_toArray, List.set_cons_zero, List.set_cons_succ]
    refine wpAnyM_tail rfl (by decide) (by decide) (by kernel_rfl) ?_
    simp only [List.drop_succ_cons, List.drop_zero]
    go_wp2_with fail
    go_ret
    refine ⟨rfl, ?_, s11.gr⟩
    have := s11.rou
    simpa only [Bool.not_and, Bool.or_assoc, if_true, if_false, Bool.false_eq_true] using this
  case false =>
    obtain ⟨-, -, -, -, -, -, -, x7, -⟩ := hst.blk.cells9
    go_upto_region 4 with fail
    clear x7
    have s0 : RouSt w0 W g g3 #[.string n.recv, .slice ma n.ms.length mc, .slice ba n.bys.length bc, .int .i64 n.wait, .int .i64 n.every, .int .i64 n.rep, .slice ua n.mute.length uc, .bool false, .slice ka n.kids.length kc] F wx.drew := hst.call (Below.refl _ _).drew
    have hS := s0.blk.cells9
    clear hst
    refine wp_region_marked (fun w' : World => w'.cell? ⟨g3, 0, none⟩ = some (.string n.recv) ∧ w'.cell? ⟨g3, 1, none⟩ = some (.slice ma n.ms.length mc) ∧ w'.cell? ⟨g3, 2, none⟩ = some (.slice ba n.bys.length bc) ∧ w'.cell? ⟨g3, 3, none⟩ = some (.int .i64 n.wait) ∧ w'.cell? ⟨g3, 4, none⟩ = some (.int .i64 n.every) ∧ w'.cell? ⟨g3, 5, none⟩ = some (.int .i64 n.rep) ∧ w'.cell? ⟨g3, 6, none⟩ = some (.slice ua n.mute.length uc) ∧ w'.cell? ⟨g3, 7, none⟩ = some (.bool false) ∧ w'.cell? ⟨g3, 8, none⟩ = some (.slice ka n.kids.length kc)) 35 (by kernel_rfl) ?_
    refine wpAnyM_pure (v := ?w0) 0 rfl (by kernel_rfl) (by kernel_rfl) (by kernel_rfl) (by kernel_rfl) (by decide) (fun _ _ _ h => h) (Or.inl ⟨by rfl, ?hz0⟩) hS ?rezt0
    case hz0 => intro wq hSw; go_simp; (try with_reducible rfl)
    case rezt0 =>
    try simp only [Act.put, List.setIfInBounds_toArray]
    refine wpAnyM_pure (v := ?w1) 1 rfl (by kernel_rfl) (by kernel_rfl) (by kernel_rfl) (by kernel_rfl) (by decide) (fun _ _ _ h => h) (Or.inl ⟨by rfl, ?hz1⟩) hS ?rezt1
    case hz1 => intro wq hSw; go_simp; (try with_reducible rfl)
    case rezt1 =>
    try simp only [Act.put]
    refine wpAnyM_loadP [] (v := ?w2) 2 rfl (by kernel_rfl) (by kernel_rfl) (by kernel_rfl) (by kernel_rfl) (by decide) (by kernel_rfl) (fun _ _ _ h => h) (Or.inl ⟨by rfl, ?hz2⟩) hS ?rezt2
    case hz2 => intro wq hSw; (try dsimp only at hSw); obtain ⟨k0, k1, k2, k3, k4, k5, k6, k7, k8⟩ := hSw; go_simp; (try with_reducible rfl)
    case rezt2 =>
    try simp only [Act.put]
    refine wpAnyM_pure (v := ?w3) 3 rfl (by kernel_rfl) (by kernel_rfl) (by kernel_rfl) (by kernel_rfl) (by decide) (fun _ _ _ h => h) (Or.inl ⟨by rfl, ?hz3⟩) hS ?rezt3
    case hz3 => intro wq hSw; go_simp; (try with_reducible rfl)
    case rezt3 =>
    try simp only [Act.put]
    refine wpAnyM_pure (v := ?w4) 4 rfl (by kernel_rfl) (by kernel_rfl) (by kernel_rfl) (by kernel_rfl) (by decide) (fun _ _ _ h => h) (Or.inl ⟨by rfl, ?hz4⟩) hS ?rezt4
    case hz4 => intro wq hSw; go_simp; (try with_reducible rfl)
    case rezt4 =>
    try simp only [Act.put]
    refine wpAnyM_loadP [] (v := ?w5) 5 rfl (by kernel_rfl) (by kernel_rfl) (by kernel_rfl) (by kernel_rfl) (by decide) (by kernel_rfl) (fun _ _ _ h => h) (Or.inl ⟨by rfl, ?hz5⟩) hS ?rezt5
    case hz5 => intro wq hSw; (try dsimp only at hSw); obtain ⟨k0, k1, k2, k3, k4, k5, k6, k7, k8⟩ := hSw; go_simp; (try with_reducible rfl)
    case rezt5 =>
    try simp only [Act.put]
    refine wpAnyM_pure (v := ?w8) 8 rfl (by kernel_rfl) (by kernel_rfl) (by kernel_rfl) (by kernel_rfl) (by decide) (fun _ _ _ h => h) (Or.inl ⟨by rfl, ?hz8⟩) hS ?rezt8
    case hz8 => intro wq hSw; go_simp; (try with_reducible rfl)
    case rezt8 =>
    try simp only [Act.put]
    refine wpAnyM_pure (v := ?w9) 9 rfl (by kernel_rfl) (by kernel_rfl) (by kernel_rfl) (by kernel_rfl) (by decide) (fun _ _ _ h => h) (Or.inl ⟨by rfl, ?hz9⟩) hS ?rezt9
    case hz9 => intro wq hSw; go_simp; (try with_reducible rfl)
    case rezt9 =>
    try simp only [Act.put]
    refine wpAnyM_loadP [] (v := ?w10) 10 rfl (by kernel_rfl) (by kernel_rfl) (by kernel_rfl) (by kernel_rfl) (by decide) (by kernel_rfl) (fun _ _ _ h => h) (Or.inl ⟨by rfl, ?hz10⟩) hS ?rezt10
    case hz10 => intro wq hSw; (try dsimp only at hSw); obtain ⟨k0, k1, k2, k3, k4, k5, k6, k7, k8⟩ := hSw; go_simp; (try with_reducible rfl)
    case rezt10 =>
    try simp only [Act.put]
    refine wpAnyM_pure (v := ?w12) 12 rfl (by kernel_rfl) (by kernel_rfl) (by kernel_rfl) (by kernel_rfl) (by decide) (fun _ _ _ h => h) (Or.inl ⟨by rfl, ?hz12⟩) hS ?rezt12
    case hz12 => intro wq hSw; go_simp; (try with_reducible rfl)
    case rezt12 =>
    try simp only [Act.put]
    refine wpAnyM_pure (v := ?w13) 13 rfl (by kernel_rfl) (by kernel_rfl) (by kernel_rfl) (by kernel_rfl) (by decide) (fun _ _ _ h => h) (Or.inl ⟨by rfl, ?hz13⟩) hS ?rezt13
    case hz13 => intro wq hSw; go_simp; (try with_reducible rfl)
    case rezt13 =>
    try simp only [Act.put]
    refine wpAnyM_loadP [] (v := ?w14) 14 rfl (by kernel_rfl) (by kernel_rfl) (by kernel_rfl) (by kernel_rfl) (by decide) (by kernel_rfl) (fun _ _ _ h => h) (Or.inl ⟨by rfl, ?hz14⟩) hS ?rezt14
    case hz14 => intro wq hSw; (try dsimp only at hSw); obtain ⟨k0, k1, k2, k3, k4, k5, k6, k7, k8⟩ := hSw; go_simp; (try with_reducible rfl)
    case rezt14 =>
    try simp only [Act.put]
    refine wpAnyM_pure (v := ?w16) 16 rfl (by kernel_rfl) (by kernel_rfl) (by kernel_rfl) (by kernel_rfl) (by decide) (fun _ _ _ h => h) (Or.inl ⟨by rfl, ?hz16⟩) hS ?rezt16
    case hz16 => intro wq hSw; go_simp; (try with_reducible rfl)
    case rezt16 =>
    try simp only [Act.put]
    refine wpAnyM_loadP [] (v := ?w17) 17 rfl (by kernel_rfl) (by kernel_rfl) (by kernel_rfl) (by kernel_rfl) (by decide) (by kernel_rfl) (fun _ _ _ h => h) (Or.inl ⟨by rfl, ?hz17⟩) hS ?rezt17
    case hz17 => intro wq hSw; (try dsimp only at hSw); obtain ⟨k0, k1, k2, k3, k4, k5, k6, k7, k8⟩ := hSw; go_simp; (try with_reducible rfl)
    case rezt17 =>
    try simp only [Act.put]
    refine wpAnyM_pure (v := ?w19) 19 rfl (by kernel_rfl) (by kernel_rfl) (by kernel_rfl) (by kernel_rfl) (by decide) (fun _ _ _ h => h) (Or.inl ⟨by rfl, ?hz19⟩) hS ?rezt19
    case hz19 => intro wq hSw; go_simp; (try with_reducible rfl)
    case rezt19 =>
    try simp only [Act.put]
    refine wpAnyM_loadP [] (v := ?w20) 20 rfl (by kernel_rfl) (by kernel_rfl) (by kernel_rfl) (by kernel_rfl) (by decide) (by kernel_rfl) (fun _ _ _ h => h) (Or.inl ⟨by rfl, ?hz20⟩) hS ?rezt20
    case hz20 => intro wq hSw; (try dsimp only at hSw); obtain ⟨k0, k1, k2, k3, k4, k5, k6, k7, k8⟩ := hSw; go_simp; (try with_reducible rfl)
    case rezt20 =>
    try simp only [Act.put]
    refine wpAnyM_pure (v := ?w22) 22 rfl (by kernel_rfl) (by kernel_rfl) (by kernel_rfl) (by kernel_rfl) (by decide) (fun _ _ _ h => h) (Or.inl ⟨by rfl, ?hz22⟩) hS ?rezt22
    case hz22 => intro wq hSw; go_simp; (try with_reducible rfl)
    case rezt22 =>
    try simp only [Act.put]
    refine wpAnyM_loadP [] (v := ?w23) 23 rfl (by kernel_rfl) (by kernel_rfl) (by kernel_rfl) (by kernel_rfl) (by decide) (by kernel_rfl) (fun _ _ _ h => h) (Or.inl ⟨by rfl, ?hz23⟩) hS ?rezt23
    case hz23 => intro wq hSw; (try dsimp only at hSw); obtain ⟨k0, k1, k2, k3, k4, k5, k6, k7, k8⟩ := hSw; go_simp; (try with_reducible rfl)
    case rezt23 =>
    try simp only [Act.put]
    refine wpAnyM_pure (v := ?w25) 25 rfl (by kernel_rfl) (by kernel_rfl) (by kernel_rfl) (by kernel_rfl) (by decide) (fun _ _ _ h => h) (Or.inl ⟨by rfl, ?hz25⟩) hS ?rezt25
    case hz25 => intro wq hSw; go_simp; (try with_reducible rfl)
    case rezt25 =>
    try simp only [Act.put]
    refine wpAnyM_pure (v := ?w26) 26 rfl (by kernel_rfl) (by kernel_rfl) (by kernel_rfl) (by kernel_rfl) (by decide) (fun _ _ _ h => h) (Or.inl ⟨by rfl, ?hz26⟩) hS ?rezt26
    case hz26 => intro wq hSw; go_simp; (try with_reducible rfl)
    case rezt26 =>
    try simp only [Act.put]
    refine wpAnyM_pure (v := ?w27) 27 rfl (by kernel_rfl) (by kernel_rfl) (by kernel_rfl) (by kernel_rfl) (by decide) (fun _ _ _ h => h) (Or.inl ⟨by rfl, ?hz27⟩) hS ?rezt27
    case hz27 => intro wq hSw; go_simp; (try with_reducible rfl)
    case rezt27 =>
    try simp only [Act.put]
    refine wpAnyM_loadP [] (v := ?w28) 28 rfl (by kernel_rfl) (by kernel_rfl) (by kernel_rfl) (by kernel_rfl) (by decide) (by kernel_rfl) (fun _ _ _ h => h) (Or.inl ⟨by rfl, ?hz28⟩) hS ?rezt28
    case hz28 => intro wq hSw; (try dsimp only at hSw); obtain ⟨k0, k1, k2, k3, k4, k5, k6, k7, k8⟩ := hSw; go_simp; (try with_reducible rfl)
    case rezt28 =>
    try simp only [Act.put]
    refine wpAnyM_pure (v := ?w29) 29 rfl (by kernel_rfl) (by kernel_rfl) (by kernel_rfl) (by kernel_rfl) (by decide) (fun _ _ _ h => h) (Or.inl ⟨by rfl, ?hz29⟩) hS ?rezt29
    case hz29 => intro wq hSw; go_simp; (try with_reducible rfl)
    case rezt29 =>
    try simp only [Act.put]
    refine wpAnyM_pure (v := ?w30) 30 rfl (by kernel_rfl) (by kernel_rfl) (by kernel_rfl) (by kernel_rfl) (by decide) (fun _ _ _ h => h) (Or.inl ⟨by rfl, ?hz30⟩) hS ?rezt30
    case hz30 => intro wq hSw; go_simp; (try with_reducible rfl)
    case rezt30 =>
    try simp only [Act.put]
    refine wpAnyM_one 6 rfl (by kernel_rfl) (fun K hK => ?_)
    go_simp
    go_at_call 83
    refine (HEM.out _ s0.rou.below).mono ?_
    rintro e u1 ⟨v1, rfl, ho1, hd1⟩
    obtain ⟨a1, c1, rfl, hs1⟩ := ho1.strs HZM.out
    have s1 := s0.call hd1
    refine hK.out _ _ s1.blk.cells9 ?_
    clear hS
    have hS := s1.blk.cells9
    clear hK
    try simp only [Act.put, List.setIfInBounds_toArray, List.set_cons_zero, List.set_cons_succ]
    refine wpAnyM_one 7 rfl (by kernel_rfl) (fun K hK => ?_)
    go_simp
    go_at_call 27
    refine (cfgBindF_any g _ a1 c1 MS _ s1.rou.cell hs1).mono ?_
    rintro e u2 ⟨rfl, hd2⟩
    have s2 := s1.bind hd2
    refine hK.out _ _ s2.blk.cells9 ?_
    clear hS
    have hS := s2.blk.cells9
    clear hK
    try simp only [Act.put, List.setIfInBounds_toArray, List.set_cons_zero, List.set_cons_succ]
    refine wpAnyM_one 11 rfl (by kernel_rfl) (fun K hK => ?_)
    go_simp
    go_at_call 27
    refine (cfgBindF_any g _ ba bc n.bys _ s2.rou.cell (HQ.out.2.1.call s2.rou.below)).mono ?_
    rintro e u3 ⟨rfl, hd3⟩
    have s3 := s2.bind hd3
    refine hK.out _ _ s3.blk.cells9 ?_
    clear hS
    have hS := s3.blk.cells9
    clear hK
    try simp only [Act.put, List.setIfInBounds_toArray, List.set_cons_zero, List.set_cons_succ]
    refine wpAnyM_one 15 rfl (by kernel_rfl) (fun K hK => ?_)
    go_simp
    go_at_call 27
    refine (cfgBindF_any g _ ua uc n.mute _ s3.rou.cell (HQ.out.2.2.1.call s3.rou.below)).mono ?_
    rintro e u4 ⟨rfl, hd4⟩
    have s4 := s3.bind hd4
    refine hK.out _ _ s4.blk.cells9 ?_
    clear hS
    have hS := s4.blk.cells9
    clear hK
    try simp only [Act.put, List.setIfInBounds_toArray, List.set_cons_zero, List.set_cons_succ]
    refine wpAnyM_one 18 rfl (by kernel_rfl) (fun K hK => ?_)
    go_simp
    go_at_call 85
    refine (HNU.out n.wait _).mono ?_
    rintro e u5 ⟨rfl, hd5⟩
    have s5 := s4.call hd5
    refine hK.out _ _ s5.blk.cells9 ?_
    clear hS
    have hS := s5.blk.cells9
    clear hK
    try simp only [Act.put, List.setIfInBounds_toArray, List.set_cons_zero, List.set_cons_succ]
    refine wpAnyM_one 21 rfl (by kernel_rfl) (fun K hK => ?_)
    go_simp
    go_at_call 85
    refine (HNU.out n.every _).mono ?_
    rintro e u6 ⟨rfl, hd6⟩
    have s6 := s5.call hd6
    refine hK.out _ _ s6.blk.cells9 ?_
    clear hS
    have hS := s6.blk.cells9
    clear hK
    try simp only [Act.put, List.setIfInBounds_toArray, List.set_cons_zero, List.set_cons_succ]
    refine wpAnyM_one 24 rfl (by kernel_rfl) (fun K hK => ?_)
    go_simp
    go_at_call 85
    refine (HNU.out n.rep _).mono ?_
    rintro e u7 ⟨rfl, hd7⟩
    have s7 := s6.call hd7
    refine hK.out _ _ s7.blk.cells9 ?_
    clear hS
    have hS := s7.blk.cells9
    clear hK
    try simp only [Act.put, List.setIfInBounds_toArray, List.set_cons_zero, List.set_cons_succ]
    refine wpAnyM_one 31 rfl (by kernel_rfl) (fun K hK => ?_)
    go_simp
    go_at_call 86
    refine (HER.out _ _ s7.rou).mono ?_
    rintro e u8 ⟨v8, rfl, ho8, hr8, hg8⟩
    obtain ⟨a8, c8, rfl, hs8⟩ := ho8.strs HZK.out
    have s8 := s7.step hr8 hg8
    refine hK.out _ _ s8.blk.cells9 ?_
    clear hS
    have hS := s8.blk.cells9
    clear hK
    try simp only [Act.put, List.setIfInBounds_toArray, List.set_cons_zero, List.set_cons_succ]
    refine wpAnyM_one 32 rfl (by kernel_rfl) (fun K hK => ?_)
    go_simp
    go_at_call 27
    refine (cfgBindF_any g _ a8 c8 KS _ s8.rou.cell hs8).mono ?_
    rintro e u9 ⟨rfl, hd9⟩
    have s9 := s8.bind hd9
    refine hK.out _ _ s9.blk.cells9 ?_
    clear hS
    have hS := s9.blk.cells9
    clear hK
    try simp only [Act.put, List.setIfInBounds_toArray, List.set_cons_zero, List.set_cons_succ]
    refine wpAnyM_one 33 rfl (by kernel_rfl) (fun K hK => ?_)
    go_simp
    simp only [HBM.out, HBB.out, HBU.out, HBK.out] at hS ⊢
    have hn10 := (Below.refl u9.heap.size u9).alloc (Nat.le_refl _) (.cells #[.string n.recv, .string BM, .string BB, .string BU, .string (numS n.wait), .string (numS n.every), .string (numS n.rep), .string ⟨#[48]⟩, .string BK] 9)
    have s10 := s9.call hn10
    have hr10 := strs9 u9 (n.recv) BM BB BU (numS n.wait) (numS n.every) (numS n.rep) ⟨#[48]⟩ BK HSZ.out.1 HSZ.out.2.1 HSZ.out.2.2.1 HSZ.out.2.2.2.1 (numS_max _) (numS_max _) (numS_max _) (by show 1 ≤ maxLen; unfold maxLen; omega) HSZ.out.2.2.2.2
    refine hK.out _ _ s10.blk.cells9 ?_
    clear hS
    have hS := s10.blk.cells9
    clear hK
    try simp only [Act.put, List.setIfInBounds_toArray, List.set_cons_zero, List.set_cons_succ]
    refine wpAnyM_one 34 rfl (by kernel_rfl) (fun K hK => ?_)
    go_simp
    go_at_call 27
    refine (cfgBindF_any g _ (some ⟨u9.heap.size, 0, none⟩) 9 [n.recv, BM, BB, BU, numS n.wait, numS n.every, numS n.rep, ⟨#[48]⟩, BK] _ s10.rou.cell hr10).mono ?_
    rintro e u11 ⟨rfl, hd11⟩
    have s11 := s10.bind hd11
    refine hK.out _ _ s11.blk.cells9 ?_
    clear hS
    have hS := s11.blk.cells9
    clear hK
    try simp only [Act.put, List.setIfInBounds_toArray, List.set_cons_zero, List.set_cons_succ]
    refine wpAnyM_tail rfl (by decide) (by decide) (by kernel_rfl) ?_
    simp only [List.drop_succ_cons, List.drop_zero]
    go_wp2_with fail
    go_ret
    refine ⟨rfl, ?_, s11.gr⟩
    have := s11.rou
    simpa only [Bool.not_and, Bool.or_assoc, if_true, if_false, Bool.false_eq_true] using this
theorem rou_any {w0 : World} {g : Nat} : ∀ (d : Nat) (q : RtAt), q.ok w0 → rightRt d q.n = true → RouAll w0 g q
  | 0, q, _, hr => by cases hr
  | d + 1, q, h, hr => by
    rw [rightRt_succ, Bool.and_eq_true] at hr
    have h16 := alone_kids hr.1
    refine rou_step q h.own h.head.2 (by omega) (by omega) ?_
    rcases h.place with h0 | ⟨b, off, e, hb, hk⟩
    · exact .inl h0
    · refine .inr ⟨b, off, e, hb, fun i hi => ?_⟩
      obtain ⟨r, h1, h2, h3⟩ := hk i hi
      exact ⟨r, h1, h2, h3, rou_any d r h3 (by rw [h1]; exact List.all_eq_true.1 hr.2 _ (List.getElem_mem _))⟩
end Go.Proofs.YtkgnapojkijbgaaGreatDoor
/- The contract of config.Text. -/
namespace Go.Proofs.YtkgnapojkijbgaaGreatDoor
open Go.RowKit

/-- the texts that a configuration's text binds, of its normal form -/
def txL (k : CfA) : List ByteArray := [bindS (ruW k.ru), bindS k.re, bindS (hrW k.hr), bindS (k.ih.map inhT), rtT k.rt.n]
/-- is there room for it? -/
def txK (k : CfA) : Bool := mayB (ruW k.ru) && (mayB k.re && (mayB (hrW k.hr) && (mayB (k.ih.map inhT) && (rtK k.rt.n && mayB (txL k)))))
def txS (k : CfA) : ByteArray := if txK k = true then bindS (txL k) else ⟨#[]⟩
def txE (k : CfA) : Int := if txK k = true then 0 else 2
def TextQ (k : CfA) (w : World) (e : Ending) (w' : World) : Prop :=
  Below w.heap.size w w' ∧ ((cfgC k = true ∧ ∃ k2 : CfA, NormOf k k2 ∧ e = .returned (.tuple #[.string (txS k2), .int .i64 (txE k2)])) ∨ (cfgC k = false ∧ e = .returned (.tuple #[.string ⟨#[]⟩, .int .i64 1])))
theorem normT_yes {k : CfA} {w0 w : World} (h : k.ok w0) (hW : Below w0.heap.size w0 w) (hc : cfgC k = true) : Calls Tryz.prog 22 #[.agg (kCells k)] w (fun e w' => Below w.heap.size w w' ∧ ∃ k2 : CfA, e = .returned (.tuple #[.agg (kCells k2), .int .i64 0]) ∧ (∀ W, Keep w0.heap.size w w' W → k2.ok W) ∧ NormOf k k2) := by
  refine (cfgNormal_any k w w0.heap.size hW.size (fun W hw => h.call (hW.trans hw))).mono fun e w' ⟨hb, hh⟩ => ⟨hb, ?_⟩
  rcases hh with ⟨_, h⟩ | ⟨h, _⟩
  · exact h
  · rw [hc] at h
    cases h
theorem normT_no {k : CfA} {w0 w : World} (h : k.ok w0) (hW : Below w0.heap.size w0 w) (hc : cfgC k = false) : Calls Tryz.prog 22 #[.agg (kCells k)] w (fun e w' => Below w.heap.size w w' ∧ e = .returned (.tuple #[.agg zCfg, .int .i64 1])) := by
  refine (cfgNormal_any k w w0.heap.size hW.size (fun W hw => h.call (hW.trans hw))).mono fun e w' ⟨hb, hh⟩ => ⟨hb, ?_⟩
  rcases hh with ⟨h, _⟩ | ⟨_, h⟩
  · rw [hc] at h
    cases h
  · exact h
theorem cfgC_routeT {k : CfA} (h : cfgC k = true) : rightRt 4 k.rt.n = true := by
  simp only [cfgC, routeC, Bool.and_eq_true] at h
  exact h.2.2.2.2.2.2.2.1
/-- how much a normal form has -/
theorem normOf_small {k x : CfA} (hc : cfgC k = true) (h : NormOf k x) : x.ru.length ≤ 100000 ∧ x.hr.length ≤ 100000 ∧ x.ih.length ≤ 1000000 ∧ (∀ y ∈ x.ih, y.s.length ≤ 1000000 ∧ y.t.length ≤ 1000000) ∧ rightRt 4 x.rt.n = true := by
  obtain ⟨l1, l2, l3, l4, l5⟩ := cfgC_len hc
  obtain ⟨h1, h2, h3, ⟨ys, h4, h4'⟩, h5⟩ := h
  have p1 := h2.1.length_eq
  have p2 := h5.1.length_eq
  have p3 := h4.1.length_eq
  refine ⟨by omega, by omega, ?_, fun y hy => ?_, ?_⟩
  · rw [h4']
    have := compI_len ys
    omega
  · rw [h4'] at hy
    exact l5 y (h4.1.mem_iff.1 (compI_mem hy))
  · rw [h1]
    have := cfgC_routeT hc
    exact this
theorem strs5 (W : World) (s0 s1 s2 s3 s4 : ByteArray) (h0 : s0.size ≤ maxLen) (h1 : s1.size ≤ maxLen) (h2 : s2.size ≤ maxLen) (h3 : s3.size ≤ maxLen) (h4 : s4.size ≤ maxLen) :
    HasStrs (W.alloc (.cells #[.string s0, .string s1, .string s2, .string s3, .string s4] 9)) (some ⟨W.heap.size, 0, none⟩) 5 [s0, s1, s2, s3, s4] := by
  have hB := Blk.new W 9 #[.string s0, .string s1, .string s2, .string s3, .string s4]
  refine ⟨Nat.le_refl _, by unfold maxLen; omega, fun s hs => ?_, .inr ⟨_, 0, rfl, hB.lt, fun i hi => ?_⟩⟩
  · simp only [List.mem_cons, List.not_mem_nil, or_false] at hs
    rcases hs with rfl | rfl | rfl | rfl | rfl <;> assumption
  · have hi' : i < 5 := hi
    rcases (by omega : i = 0 ∨ i = 1 ∨ i = 2 ∨ i = 3 ∨ i = 4) with rfl | rfl | rfl | rfl | rfl
    · exact hB.cell 0
    · exact hB.cell 1
    · exact hB.cell 2
    · exact hB.cell 3
    · exact hB.cell 4
set_option maxHeartbeats 25600000 in
set_option maxRecDepth 100000 in
theorem cfgText_any (k : CfA) (w : World) (hk : k.ok w) (hT : TabW w) (hD : DayW w) : Calls Tryz.prog 9 #[.agg (kCells k)] w (TextQ k w) := by
  have hb1 := (Below.refl w.heap.size w).alloc (Nat.le_refl _) (.cells (kCells k) 31)
  have hA := Blk.new w 31 (kCells k)
  obtain ⟨B, hB⟩ : ∃ B, cfgC k = B := ⟨_, rfl⟩
  have HB := Lib.hid hb1
  have HCB := Lib.hid hB
  have HT := Lib.hid hT
  have HD := Lib.hid hD
  have HY := Lib.hid (fun (hc : cfgC k = true) W (hW : Below w.heap.size w W) => normT_yes hk hW hc)
  have HN := Lib.hid (fun (hc : cfgC k = false) W (hW : Below w.heap.size w W) => normT_no hk hW hc)
  simp only [kCells] at *
  clear hb1 hk hT hD
  go_enter Tryz.func9, Tryz.ntmps9
  go_upto_region 1 with fail
  obtain ⟨wx, hwx⟩ : ∃ wx, w.alloc (.cells #[.slice k.ua k.ru.length k.uc, .string k.rt.n.recv, .slice k.rt.ma k.rt.n.ms.length k.rt.mc, .slice k.rt.ba k.rt.n.bys.length k.rt.bc, .int .i64 k.rt.n.wait, .int .i64 k.rt.n.every, .int .i64 k.rt.n.rep, .slice k.rt.ua k.rt.n.mute.length k.rt.uc, .bool k.rt.n.on, .slice k.rt.ka k.rt.n.kids.length k.rt.kc, .slice k.ra k.re.length k.rc, .slice k.ia k.ih.length k.ic, .slice k.ha k.hr.length k.hc] 31) = wx := ⟨_, rfl⟩
  simp only [hwx] at *
  clear hwx
  obtain ⟨c0, c1, c2, c3, c4, c5, c6, c7, c8, c9, c10, c11, c12⟩ := hA.cells13
  clear hA
  cases B
  case false =>
    go_wp2_with (go_at_call 22; refine (HN.out HCB.out _ HB.out).mono ?_; rintro e w1 ⟨hb1, rfl⟩)
    go_ret2
    exact ⟨(bthen HB.out hb1).alloc (bthen HB.out hb1).size _, .inr ⟨HCB.out, rfl⟩⟩
  case true =>
    go_upto_region 2 with (go_at_call 22; refine (HY.out HCB.out _ HB.out).mono ?_; rintro e w1 ⟨hb1, x, rfl, hok, hno⟩)
    clear c0 c1 c2 c3 c4 c5 c6 c7 c8 c9 c10 c11 c12
    have hb2 := bthen HB.out hb1
    have hn2 := (Below.refl w1.heap.size w1).alloc (Nat.le_refl _) (.cells #[.slice x.ua x.ru.length x.uc, .string x.rt.n.recv, .slice x.rt.ma x.rt.n.ms.length x.rt.mc, .slice x.rt.ba x.rt.n.bys.length x.rt.bc, .int .i64 x.rt.n.wait, .int .i64 x.rt.n.every, .int .i64 x.rt.n.rep, .slice x.rt.ua x.rt.n.mute.length x.rt.uc, .bool x.rt.n.on, .slice x.rt.ka x.rt.n.kids.length x.rt.kc, .slice x.ra x.re.length x.rc, .slice x.ia x.ih.length x.ic, .slice x.ha x.hr.length x.hc] 31)
    have h4 := Blk.new w1 31 #[.slice x.ua x.ru.length x.uc, .string x.rt.n.recv, .slice x.rt.ma x.rt.n.ms.length x.rt.mc, .slice x.rt.ba x.rt.n.bys.length x.rt.bc, .int .i64 x.rt.n.wait, .int .i64 x.rt.n.every, .int .i64 x.rt.n.rep, .slice x.rt.ua x.rt.n.mute.length x.rt.uc, .bool x.rt.n.on, .slice x.rt.ka x.rt.n.kids.length x.rt.kc, .slice x.ra x.re.length x.rc, .slice x.ia x.ih.length x.ic, .slice x.ha x.hr.length x.hc]
    have HB2 := Lib.hid (bthen hb2 hn2)
    obtain ⟨w2, hw2⟩ : ∃ w2, w1.alloc (.cells #[.slice x.ua x.ru.length x.uc, .string x.rt.n.recv, .slice x.rt.ma x.rt.n.ms.length x.rt.mc, .slice x.rt.ba x.rt.n.bys.length x.rt.bc, .int .i64 x.rt.n.wait, .int .i64 x.rt.n.every, .int .i64 x.rt.n.rep, .slice x.rt.ua x.rt.n.mute.length x.rt.uc, .bool x.rt.n.on, .slice x.rt.ka x.rt.n.kids.length x.rt.kc, .slice x.ra x.re.length x.rc, .slice x.ia x.ih.length x.ic, .slice x.ha x.hr.length x.hc] 31) = w2 := ⟨_, rfl⟩
    rw [hw2] at hn2 h4 HB2
    simp only [hw2]
    have hx2 : x.ok w2 := hok w2 ⟨(hb1.trans (hn2.mono hb1.size)).mono HB.out.size, hn2.size, fun q hq1 hq2 => hn2.block q hq2⟩
    obtain ⟨g4, hg4⟩ : ∃ g4, w1.heap.size = g4 := ⟨_, rfl⟩
    rw [hg4] at h4
    simp only [hg4]
    clear hw2 hg4 hok hb1 hb2 hn2
    go_upto_region 5 with fail
    obtain ⟨g6, hg6⟩ : ∃ g6, w2.heap.size = g6 := ⟨_, rfl⟩
    have s00 : RouW w2 g6 false (w2.alloc (.cells #[.int .i64 0] 58)) := ⟨(Below.refl w2.heap.size w2).alloc (Nat.le_refl _) _, by rw [← hg6]; exact Blk.new w2 58 #[.int .i64 0], by omega⟩
    obtain ⟨w3, hw3⟩ : ∃ w3, w2.alloc (.cells #[.int .i64 0] 58) = w3 := ⟨_, rfl⟩
    rw [hw3] at s00
    simp only [hw3, hg6]
    clear hw3 hg6
    have s0 : RouW w2 g6 false w3.drew := s00.call (Below.refl _ _).drew
    clear s00
    have HAC := Lib.hid (fun u (hu : Below w2.heap.size w2 u) => (h4.call hu).cells13)
    obtain ⟨l1, l2, l3, l4, l5⟩ := normOf_small HCB.out hno
    have HOK := Lib.hid hx2
    have HNO := Lib.hid hno
    have hT2 := HT.out.call HB2.out
    have hD2 := HD.out.call HB2.out
    have HRW := Lib.hid (fun u (hu : Below w2.heap.size w2 u) => ruleWords_any x.ua x.uc x.ru u (hx2.1.keep hu) l1 (hT2.call hu))
    have HHT := Lib.hid (fun u (hu : Below w2.heap.size w2 u) => hoursTexts_any x.ha x.hc x.hr u (hx2.2.2.2.2.keep hu) l2 (hD2.call hu))
    have HEI := Lib.hid (fun u (hu : Below w2.heap.size w2 u) => eachI_any x.ia x.ic x.ih u (hx2.2.2.2.1.keep hu) l3 l4)
    have HRO := Lib.hid (fun u F (hu : RouW w2 g6 F u) => rou_any 4 x.rt hx2.2.1 l5 u F hu)
    simp only [tCells] at HRO
    have HZI := Lib.hid (show ∀ s ∈ x.ih.map inhT, s.size ≤ maxLen from fun s hs => by obtain ⟨m, _, rfl⟩ := List.mem_map.1 hs; exact inhT_max m)
    have hTL : txL x = [bindS (ruW x.ru), bindS x.re, bindS (hrW x.hr), bindS (x.ih.map inhT), rtT x.rt.n] := rfl
    have hTK : txK x = (mayB (ruW x.ru) && (mayB x.re && (mayB (hrW x.hr) && (mayB (x.ih.map inhT) && (rtK x.rt.n && mayB (txL x)))))) := rfl
    rw [hTL] at hTK
    generalize ruW x.ru = LR at *
    generalize hrW x.hr = LH at *
    generalize x.ih.map inhT = LI at *
    have HTL := Lib.hid hTL
    have HTK := Lib.hid hTK
    clear hTL hTK l1 l2 l3 l4 l5 hx2 hno h4 hT2 hD2
    have hS := HAC.out _ s0.below
    refine wp_region_marked (fun w' : World => w'.cell? ⟨g4, 0, none⟩ = some (.slice x.ua x.ru.length x.uc) ∧ w'.cell? ⟨g4, 1, none⟩ = some (.string x.rt.n.recv) ∧ w'.cell? ⟨g4, 2, none⟩ = some (.slice x.rt.ma x.rt.n.ms.length x.rt.mc) ∧ w'.cell? ⟨g4, 3, none⟩ = some (.slice x.rt.ba x.rt.n.bys.length x.rt.bc) ∧ w'.cell? ⟨g4, 4, none⟩ = some (.int .i64 x.rt.n.wait) ∧ w'.cell? ⟨g4, 5, none⟩ = some (.int .i64 x.rt.n.every) ∧ w'.cell? ⟨g4, 6, none⟩ = some (.int .i64 x.rt.n.rep) ∧ w'.cell? ⟨g4, 7, none⟩ = some (.slice x.rt.ua x.rt.n.mute.length x.rt.uc) ∧ w'.cell? ⟨g4, 8, none⟩ = some (.bool x.rt.n.on) ∧ w'.cell? ⟨g4, 9, none⟩ = some (.slice x.rt.ka x.rt.n.kids.length x.rt.kc) ∧ w'.cell? ⟨g4, 10, none⟩ = some (.slice x.ra x.re.length x.rc) ∧ w'.cell? ⟨g4, 11, none⟩ = some (.slice x.ia x.ih.length x.ic) ∧ w'.cell? ⟨g4, 12, none⟩ = some (.slice x.ha x.hr.length x.hc)) 20 (by kernel_rfl) ?_
    refine wpAnyM_pure (v := ?v0) 0 rfl (by kernel_rfl) (by kernel_rfl) (by kernel_rfl) (by kernel_rfl) (by decide) (fun _ _ _ h => h) (Or.inl ⟨by rfl, ?hy0⟩) hS ?rest0
    case hy0 => intro wq hSw; go_simp; (try with_reducible rfl)
    case rest0 =>
    try simp only [Act.put, List.setIfInBounds_toArray]
    refine wpAnyM_loadP [] (v := ?v1) 1 rfl (by kernel_rfl) (by kernel_rfl) (by kernel_rfl) (by kernel_rfl) (by decide) (by kernel_rfl) (fun _ _ _ h => h) (Or.inl ⟨by rfl, ?hy1⟩) hS ?rest1
    case hy1 => intro wq hSw; (try dsimp only at hSw); obtain ⟨k0, k1, k2, k3, k4, k5, k6, k7, k8, k9, k10, k11, k12⟩ := hSw; go_simp; (try with_reducible rfl)
    case rest1 =>
    try simp only [Act.put]
    refine wpAnyM_pure (v := ?v4) 4 rfl (by kernel_rfl) (by kernel_rfl) (by kernel_rfl) (by kernel_rfl) (by decide) (fun _ _ _ h => h) (Or.inl ⟨by rfl, ?hy4⟩) hS ?rest4
    case hy4 => intro wq hSw; go_simp; (try with_reducible rfl)
    case rest4 =>
    try simp only [Act.put]
    refine wpAnyM_loadP [] (v := ?v5) 5 rfl (by kernel_rfl) (by kernel_rfl) (by kernel_rfl) (by kernel_rfl) (by decide) (by kernel_rfl) (fun _ _ _ h => h) (Or.inl ⟨by rfl, ?hy5⟩) hS ?rest5
    case hy5 => intro wq hSw; (try dsimp only at hSw); obtain ⟨k0, k1, k2, k3, k4, k5, k6, k7, k8, k9, k10, k11, k12⟩ := hSw; go_simp; (try with_reducible rfl)
    case rest5 =>
    try simp only [Act.put]
    refine wpAnyM_pure (v := ?v7) 7 rfl (by kernel_rfl) (by kernel_rfl) (by kernel_rfl) (by kernel_rfl) (by decide) (fun _ _ _ h => h) (Or.inl ⟨by rfl, ?hy7⟩) hS ?rest7
    case hy7 => intro wq hSw; go_simp; (try with_reducible rfl)
    case rest7 =>
    try simp only [Act.put]
    refine wpAnyM_loadP [] (v := ?v8) 8 rfl (by kernel_rfl) (by kernel_rfl) (by kernel_rfl) (by kernel_rfl) (by decide) (by kernel_rfl) (fun _ _ _ h => h) (Or.inl ⟨by rfl, ?hy8⟩) hS ?rest8
    case hy8 => intro wq hSw; (try dsimp only at hSw); obtain ⟨k0, k1, k2, k3, k4, k5, k6, k7, k8, k9, k10, k11, k12⟩ := hSw; go_simp; (try with_reducible rfl)
    case rest8 =>
    try simp only [Act.put]
    refine wpAnyM_pure (v := ?v11) 11 rfl (by kernel_rfl) (by kernel_rfl) (by kernel_rfl) (by kernel_rfl) (by decide) (fun _ _ _ h => h) (Or.inl ⟨by rfl, ?hy11⟩) hS ?rest11
    case hy11 => intro wq hSw; go_simp; (try with_reducible rfl)
    case rest11 =>
    try simp only [Act.put]
    refine wpAnyM_loadP [] (v := ?v12) 12 rfl (by kernel_rfl) (by kernel_rfl) (by kernel_rfl) (by kernel_rfl) (by decide) (by kernel_rfl) (fun _ _ _ h => h) (Or.inl ⟨by rfl, ?hy12⟩) hS ?rest12
    case hy12 => intro wq hSw; (try dsimp only at hSw); obtain ⟨k0, k1, k2, k3, k4, k5, k6, k7, k8, k9, k10, k11, k12⟩ := hSw; go_simp; (try with_reducible rfl)
    case rest12 =>
    try simp only [Act.put]
    refine wpAnyM_pure (v := ?v15) 15 rfl (by kernel_rfl) (by kernel_rfl) (by kernel_rfl) (by kernel_rfl) (by decide) (fun _ _ _ h => h) (Or.inl ⟨by rfl, ?hy15⟩) hS ?rest15
    case hy15 => intro wq hSw; go_simp; (try with_reducible rfl)
    case rest15 =>
    try simp only [Act.put]
    refine wpAnyM_loadP [] (v := ?v16) 16 rfl (by kernel_rfl) (by kernel_rfl) (by kernel_rfl) (by kernel_rfl) (by decide) (by kernel_rfl) (fun _ _ _ h => h) (Or.inl ⟨by rfl, ?hy16⟩) hS ?rest16
    case hy16 => intro wq hSw; (try dsimp only at hSw); obtain ⟨k0, k1, k2, k3, k4, k5, k6, k7, k8, k9, k10, k11, k12⟩ := hSw; go_simp; (try with_reducible rfl)
    case rest16 =>
    try simp only [Act.put]
    refine wpAnyM_one 2 rfl (by kernel_rfl) (fun K hK => ?_)
    go_simp
    go_at_call 28
    refine (HRW.out _ s0.below).mono ?_
    rintro e u1 ⟨v1, rfl, ho1, hz1, hd1⟩
    obtain ⟨a1, c1, rfl, hs1⟩ := ho1.strs hz1
    have s1 := s0.call hd1
    refine hK.out _ _ (HAC.out _ s1.below) ?_
    clear hS
    have hS := HAC.out _ s1.below
    clear hK
    try simp only [Act.put, List.setIfInBounds_toArray, List.set_cons_zero, List.set_cons_succ]
    refine wpAnyM_one 3 rfl (by kernel_rfl) (fun K hK => ?_)
    go_simp
    go_at_call 27
    refine (cfgBindF_any g6 _ a1 c1 LR _ s1.cell hs1).mono ?_
    rintro e u2 ⟨rfl, hd2⟩
    have s2 := s1.bind hd2
    refine hK.out _ _ (HAC.out _ s2.below) ?_
    clear hS
    have hS := HAC.out _ s2.below
    clear hK
    try simp only [Act.put, List.setIfInBounds_toArray, List.set_cons_zero, List.set_cons_succ]
    refine wpAnyM_one 6 rfl (by kernel_rfl) (fun K hK => ?_)
    go_simp
    go_at_call 27
    refine (cfgBindF_any g6 _ x.ra x.rc x.re _ s2.cell (HOK.out.2.2.1.call s2.below)).mono ?_
    rintro e u3 ⟨rfl, hd3⟩
    have s3 := s2.bind hd3
    refine hK.out _ _ (HAC.out _ s3.below) ?_
    clear hS
    have hS := HAC.out _ s3.below
    clear hK
    try simp only [Act.put, List.setIfInBounds_toArray, List.set_cons_zero, List.set_cons_succ]
    refine wpAnyM_one 9 rfl (by kernel_rfl) (fun K hK => ?_)
    go_simp
    go_at_call 29
    refine (HHT.out _ s3.below).mono ?_
    rintro e u4 ⟨v4, rfl, ho4, hz4, hd4⟩
    obtain ⟨a4, c4, rfl, hs4⟩ := ho4.strs hz4
    have s4 := s3.call hd4
    refine hK.out _ _ (HAC.out _ s4.below) ?_
    clear hS
    have hS := HAC.out _ s4.below
    clear hK
    try simp only [Act.put, List.setIfInBounds_toArray, List.set_cons_zero, List.set_cons_succ]
    refine wpAnyM_one 10 rfl (by kernel_rfl) (fun K hK => ?_)
    go_simp
    go_at_call 27
    refine (cfgBindF_any g6 _ a4 c4 LH _ s4.cell hs4).mono ?_
    rintro e u5 ⟨rfl, hd5⟩
    have s5 := s4.bind hd5
    refine hK.out _ _ (HAC.out _ s5.below) ?_
    clear hS
    have hS := HAC.out _ s5.below
    clear hK
    try simp only [Act.put, List.setIfInBounds_toArray, List.set_cons_zero, List.set_cons_succ]
    refine wpAnyM_one 13 rfl (by kernel_rfl) (fun K hK => ?_)
    go_simp
    go_at_call 30
    refine (HEI.out _ s5.below).mono ?_
    rintro e u6 ⟨v6, rfl, ho6, hd6⟩
    obtain ⟨a6, c6, rfl, hs6⟩ := ho6.strs HZI.out
    have s6 := s5.call hd6
    refine hK.out _ _ (HAC.out _ s6.below) ?_
    clear hS
    have hS := HAC.out _ s6.below
    clear hK
    try simp only [Act.put, List.setIfInBounds_toArray, List.set_cons_zero, List.set_cons_succ]
    refine wpAnyM_one 14 rfl (by kernel_rfl) (fun K hK => ?_)
    go_simp
    go_at_call 27
    refine (cfgBindF_any g6 _ a6 c6 LI _ s6.cell hs6).mono ?_
    rintro e u7 ⟨rfl, hd7⟩
    have s7 := s6.bind hd7
    refine hK.out _ _ (HAC.out _ s7.below) ?_
    clear hS
    have hS := HAC.out _ s7.below
    clear hK
    try simp only [Act.put, List.setIfInBounds_toArray, List.set_cons_zero, List.set_cons_succ]
    refine wpAnyM_one 17 rfl (by kernel_rfl) (fun K hK => ?_)
    go_simp
    go_at_call 32
    refine (HRO.out _ _ s7).mono ?_
    rintro e u8 ⟨rfl, s8, hg8⟩
    refine hK.out _ _ (HAC.out _ s8.below) ?_
    clear hS
    have hS := HAC.out _ s8.below
    clear hK
    try simp only [Act.put, List.setIfInBounds_toArray, List.set_cons_zero, List.set_cons_succ]
    refine wpAnyM_one 18 rfl (by kernel_rfl) (fun K hK => ?_)
    go_simp
    have hn9 := (Below.refl u8.heap.size u8).alloc (Nat.le_refl _) (.cells #[.string (bindS LR), .string (bindS x.re), .string (bindS LH), .string (bindS LI), .string (rtT x.rt.n)] 9)
    have s9 := s8.call hn9
    have hr9 := strs5 u8 (bindS LR) (bindS x.re) (bindS LH) (bindS LI) (rtT x.rt.n) (bindS_max _) (bindS_max _) (bindS_max _) (bindS_max _) (rtT_max _)
    refine hK.out _ _ (HAC.out _ s9.below) ?_
    clear hS
    have hS := HAC.out _ s9.below
    clear hK
    try simp only [Act.put, List.setIfInBounds_toArray, List.set_cons_zero, List.set_cons_succ]
    refine wpAnyM_one 19 rfl (by kernel_rfl) (fun K hK => ?_)
    go_simp
    go_at_call 27
    refine (cfgBindF_any g6 _ (some ⟨u8.heap.size, 0, none⟩) 5 [bindS LR, bindS x.re, bindS LH, bindS LI, rtT x.rt.n] _ s9.cell hr9).mono ?_
    rintro e u10 ⟨rfl, hd10⟩
    have s10 := s9.bind hd10
    refine hK.out _ _ (HAC.out _ s10.below) ?_
    clear hS
    have hS := HAC.out _ s10.below
    clear hK
    try simp only [Act.put, List.setIfInBounds_toArray, List.set_cons_zero, List.set_cons_succ]
    refine wpAnyM_tail rfl (by decide) (by decide) (by kernel_rfl) ?_
    simp only [List.drop_succ_cons, List.drop_zero]
    go_upto_region 6 with fail
    have hfin : (false || !mayB LR || !mayB x.re || !mayB LH || !mayB LI || !rtK x.rt.n || !mayB [bindS LR, bindS x.re, bindS LH, bindS LI, rtT x.rt.n]) = !txK x := by
      rw [HTK.out]
      simp only [Bool.not_and, Bool.or_assoc, Bool.false_or]
    have s11 := s10
    rw [hfin] at s11
    have HS11 := Lib.hid s11
    have x6 := s11.cell.cell1
    have hbe := HB2.out.trans (s11.below.mono HB2.out.size)
    have HBE := Lib.hid hbe
    have hval : txS x = if txK x = true then bindS [bindS LR, bindS x.re, bindS LH, bindS LI, rtT x.rt.n] else ⟨#[]⟩ := by rw [← HTL.out]; rfl
    have hvaE : txE x = if txK x = true then 0 else 2 := rfl
    have HV := Lib.hid (And.intro hval hvaE)
    generalize bindS [bindS LR, bindS x.re, bindS LH, bindS LI, rtT x.rt.n] = TX at *
    clear hS hval hvaE hbe s11 hfin
    obtain ⟨KX, hKX⟩ : ∃ K, txK x = K := ⟨_, rfl⟩
    rw [hKX] at x6 HV
    clear hKX
    cases KX
    · have x6 : u10.cell? ⟨g6, 0, none⟩ = some (.int .i64 2) := x6
      go_upto_region 7 with fail
      have x7 : u10.drew.cell? ⟨g6, 0, none⟩ = some (.int .i64 2) := x6
      go_region
      all_goals
        go_wp2_with fail
        go_ret2
        exact ⟨by first | exact HBE.out | exact HBE.out.drew, .inl ⟨HCB.out, x, HNO.out, by rw [HV.out.1, HV.out.2]; rfl⟩⟩
    · have x6 : u10.cell? ⟨g6, 0, none⟩ = some (.int .i64 0) := x6
      go_wp2_with fail
      go_ret2
      exact ⟨HBE.out, .inl ⟨HCB.out, x, HNO.out, by rw [HV.out.1, HV.out.2]; rfl⟩⟩
end Go.Proofs.YtkgnapojkijbgaaGreatDoor
/- What matcher.Parse reads: definitions and lengths. -/
namespace Go.Proofs.YtkgnapojkijbgaaGreatDoor
open Go.RowKit Go.Maps

def howC (s : Bs) : Int := if s = [61] then 1 else if s = [33, 61] then 2 else if s = [61, 126] then 3 else if s = [33, 126] then 4 else 0
theorem howC_sign (n : Int) (h1 : 1 ≤ n) (h4 : n ≤ 4) : howC (signT n) = n := by
  rcases (by omega : n = 1 ∨ n = 2 ∨ n = 3 ∨ n = 4) with rfl | rfl | rfl | rfl <;> rfl
theorem howC_none (s : Bs) (h : ∀ n : Int, 1 ≤ n → n ≤ 4 → signT n ≠ s) : howC s = 0 := by
  have h1 := h 1 (by omega) (by omega)
  have h2 := h 2 (by omega) (by omega)
  have h3 := h 3 (by omega) (by omega)
  have h4 := h 4 (by omega) (by omega)
  unfold howC
  rw [if_neg (fun e => h1 e.symm), if_neg (fun e => h2 e.symm), if_neg (fun e => h3 e.symm), if_neg (fun e => h4 e.symm)]
theorem howC_some {s : Bs} (h : howC s ≠ 0) : 1 ≤ howC s ∧ howC s ≤ 4 ∧ signT (howC s) = s := by
  unfold howC at h ⊢
  by_cases h1 : s = [61]
  · subst h1; exact ⟨by decide, by decide, rfl⟩
  by_cases h2 : s = [33, 61]
  · subst h2; exact ⟨by decide, by decide, rfl⟩
  by_cases h3 : s = [61, 126]
  · subst h3; exact ⟨by decide, by decide, rfl⟩
  by_cases h4 : s = [33, 126]
  · subst h4; exact ⟨by decide, by decide, rfl⟩
  rw [if_neg h1, if_neg h2, if_neg h3, if_neg h4] at h
  exact absurd rfl h
def splitW (T : Bs) : List ByteArray := Lib.splitB ⟨#[124]⟩ 0 (min 9 (T.length + 1) - 1) ⟨T.toArray⟩
def pHead (s : Bs) : Bs := (Lib.cut s [34]).1
def pTail (s : Bs) : Bs := (Lib.cut s [34]).2.1
def pOpen (s : Bs) : Bool := (Lib.cut s [34]).2.2
def pWords (s : Bs) : Bs := Lib.trimSuffix (pTail s) [34]
def pShut (s : Bs) : Bool := Lib.hasSuffix (pTail s) [34]
def pAt (s : Bs) : Int := Lib.indexAny (pHead s) [61, 33]
def pMat (s : Bs) : Mat := ⟨⟨((pHead s).take (pAt s).toNat).toArray⟩, howC ((pHead s).drop (pAt s).toNat), splitW (pWords s)⟩
def pOk (s : Bs) : Bool := pOpen s && (pShut s && decide (0 ≤ pAt s))
/-- what a text is read as -/
def parseM (s : Bs) : Option Mat := if pOk s = true then (if rightM (pMat s) = true then some (pMat s) else none) else none

def zeroMat : Value := .agg #[.string ⟨#[]⟩, .int .i64 0, .slice none 0 0]
def ParsePost (o : Option Mat) (w : World) (e : Ending) (w' : World) : Prop :=
  (match o with
    | some m => ∃ a c, e = .returned (.tuple #[.agg (matCells a c m), .int .i64 0]) ∧ HasStrs w' a c m.words
    | none => e = .returned (.tuple #[zeroMat, .int .i64 6])) ∧ Below w.heap.size w w'

theorem pHead_len (s : Bs) : (pHead s).length ≤ s.length := by
  unfold pHead Lib.cut
  split
  · simp; omega
  · simp
theorem pTail_len (s : Bs) : (pTail s).length ≤ s.length := by
  unfold pTail Lib.cut
  split
  · simp
  · simp
theorem pWords_len (s : Bs) : (pWords s).length ≤ s.length := by
  have := pTail_len s
  unfold pWords Lib.trimSuffix
  split
  · simp; omega
  · exact this

theorem splitB_size (sep : ByteArray) : ∀ (k : Nat) (s : ByteArray), ∀ p ∈ Lib.splitB sep 0 k s, p.size ≤ s.size
  | 0, s, p, h => by
    simp only [Lib.splitB, List.mem_singleton] at h
    subst h; exact Nat.le_refl _
  | k + 1, s, p, h => by
    unfold Lib.splitB at h
    split at h
    · simp only [List.mem_singleton] at h
      subst h; exact Nat.le_refl _
    · rcases List.mem_cons.1 h with rfl | h
      · rw [ByteArray.size_extract]; omega
      · have := splitB_size sep k _ p h
        rw [ByteArray.size_extract] at this
        omega
end Go.Proofs.YtkgnapojkijbgaaGreatDoor
/- Where a matcher's sign begins: mathematics. -/
namespace Go.Proofs.YtkgnapojkijbgaaGreatDoor
open Go.RowKit Go.Maps

theorem indexAny_spec (cs : Bs) : ∀ l : Bs, (Lib.indexAny l cs = -1 ∧ ∀ b ∈ l, cs.contains b = false) ∨ ∃ i, ∃ h : i < l.length, Lib.indexAny l cs = (i : Int) ∧ cs.contains l[i] = true ∧ ∀ b ∈ l.take i, cs.contains b = false
  | [] => .inl ⟨rfl, fun b hb => by cases hb⟩
  | b :: l => by
    by_cases h0 : cs.contains b = true
    · exact .inr ⟨0, by simp, by rw [Lib.indexAny, if_pos h0]; rfl, h0, fun b hb => by cases hb⟩
    · have h0' : cs.contains b = false := Bool.eq_false_iff.2 h0
      rcases indexAny_spec cs l with ⟨h1, h2⟩ | ⟨i, hi, h1, h2, h3⟩
      · refine .inl ⟨by rw [Lib.indexAny, h0', h1]; rfl, fun x hx => ?_⟩
        rcases List.mem_cons.1 hx with rfl | hx
        · exact h0'
        · exact h2 x hx
      · refine .inr ⟨i + 1, by simpa using hi, ?_, by simpa using h2, fun x hx => ?_⟩
        · have : ((i : Int) == -1) = false := by rw [beq_eq_false_iff_ne]; omega
          rw [Lib.indexAny, h0', h1, this]; simp
        · rw [List.take_succ_cons] at hx
          rcases List.mem_cons.1 hx with rfl | hx
          · exact h0'
          · exact h3 x hx
theorem pAt_range (s : Bs) : -1 ≤ pAt s ∧ pAt s ≤ (pHead s).length := by
  unfold pAt
  rcases indexAny_spec [61, 33] (pHead s) with ⟨h, _⟩ | ⟨i, hi, h, _⟩ <;> rw [h] <;> constructor <;> omega
end Go.Proofs.YtkgnapojkijbgaaGreatDoor
/- What matcher.Parse reads is just the texts of the matchers that may be. Mathematics alone. -/
namespace Go.Proofs.YtkgnapojkijbgaaGreatDoor

/-- the words of a text, joined -/
def joinB : List Bs → Bs
  | [] => []
  | s :: r => s ++ r.flatMap fun x => 124 :: x
theorem joinW_B (ws : List ByteArray) : joinW ws = joinB (ws.map (·.data.toList)) := by
  cases ws with
  | nil => rfl
  | cons s r => simp [joinW, joinB, List.flatMap_map]
theorem joinB_split : ∀ (k : Nat) (s : Bs), joinB (Lib.splitK [124] 0 k s) = s ∧ Lib.splitK [124] 0 k s ≠ []
  | 0, s => by simp [Lib.splitK, joinB]
  | k + 1, s => by
    unfold Lib.splitK
    split
    · simp [joinB]
    · rename_i h
      have hi : 0 ≤ Lib.index s [124] := by
        have := Lib.index_ge s [124]
        have hne : Lib.index s [124] ≠ -1 := fun e => h (by rw [e]; rfl)
        omega
      rcases Lib.index_spec s [124] with ⟨h1, _⟩ | ⟨i, h1, h2, h3, _⟩
      · omega
      · obtain ⟨ih, ihn⟩ := joinB_split k (s.drop ((Lib.index s [124]).toNat + ([124] : Bs).length))
        rw [h1] at ih ihn ⊢
        have e : ((i : Int)).toNat = i := by omega
        rw [e] at ih ihn ⊢
        refine ⟨?_, by simp⟩
        obtain ⟨x, r, hxr⟩ : ∃ x r, Lib.splitK [124] 0 k (s.drop (i + ([124] : Bs).length)) = x :: r := by
          cases hq : Lib.splitK [124] 0 k (s.drop (i + ([124] : Bs).length)) with
          | nil => exact absurd hq ihn
          | cons x r => exact ⟨x, r, rfl⟩
        rw [hxr] at ih ⊢
        have hat : s.drop i = 124 :: s.drop (i + 1) := by
          have ho : ([124] : Bs).isPrefixOf (s.drop i) = true := h3
          cases hd : s.drop i with
          | nil => rw [hd] at ho; cases ho
          | cons y t =>
            rw [hd] at ho
            simp only [List.isPrefixOf, Bool.and_true, beq_iff_eq] at ho
            have : s.drop (i + 1) = t := by rw [← List.drop_drop, hd]; rfl
            rw [this, ← ho]
        conv => rhs; rw [← List.take_append_drop i s, hat]
        have ih' : x ++ r.flatMap (fun y => 124 :: y) = s.drop (i + 1) := ih
        simp only [joinB, List.flatMap_cons, Nat.add_zero]
        rw [← ih']
        simp
/-- a text that no cut of it has a bar in, split -/
theorem split_join : ∀ (ws : List Bs) (k : Nat), ws ≠ [] → (∀ x ∈ ws, (124 : UInt8) ∉ x) → ws.length ≤ k + 1 → Lib.splitK [124] 0 k (joinB ws) = ws
  | [], _, h, _, _ => absurd rfl h
  | [x], k, _, hx, _ => by
    have h0 : Lib.index x [124] = -1 := by
      rcases Lib.index_spec x [124] with ⟨h1, _⟩ | ⟨i, h1, h2, h3, _⟩
      · exact h1
      · exfalso
        have ho : ([124] : Bs).isPrefixOf (x.drop i) = true := h3
        cases hd : x.drop i with
        | nil => rw [hd] at ho; cases ho
        | cons y t =>
          rw [hd] at ho
          simp only [List.isPrefixOf, Bool.and_true, beq_iff_eq] at ho
          refine hx x (by simp) ?_
          rw [ho]
          exact List.mem_of_mem_drop (by rw [hd]; simp)
    cases k with
    | zero => simp [Lib.splitK, joinB]
    | succ k => simp [Lib.splitK, joinB, h0]
  | x :: y :: r, 0, _, _, h => by simp at h
  | x :: y :: r, k + 1, _, hx, h => by
    have hj : joinB (x :: y :: r) = x ++ 124 :: joinB (y :: r) := by simp [joinB]
    have at124 : ∀ (t : Bs) (j : Nat), Lib.occAt t [124] j = true → ∃ u, t.drop j = 124 :: u := by
      intro t j ho
      have ho : ([124] : Bs).isPrefixOf (t.drop j) = true := ho
      cases hd : t.drop j with
      | nil => rw [hd] at ho; cases ho
      | cons z u =>
        rw [hd] at ho
        simp only [List.isPrefixOf, Bool.and_true, beq_iff_eq] at ho
        exact ⟨u, by rw [← ho]⟩
    have hx0 : ∀ j, j < x.length → Lib.occAt (joinB (x :: y :: r)) [124] j ≠ true := by
      intro j hlt ho
      obtain ⟨u, hu⟩ := at124 _ _ ho
      rw [hj, List.drop_append_of_le_length (by omega)] at hu
      have hn : x.drop j ≠ [] := by simp; omega
      cases hd : x.drop j with
      | nil => exact hn hd
      | cons z v =>
        rw [hd] at hu
        simp only [List.cons_append, List.cons.injEq] at hu
        exact hx x (by simp) (List.mem_of_mem_drop (i := j) (by rw [hd, hu.1]; simp))
    have hxl : Lib.occAt (joinB (x :: y :: r)) [124] x.length = true := by
      show ([124] : Bs).isPrefixOf ((joinB (x :: y :: r)).drop x.length) = true
      rw [hj, List.drop_left]
      simp [List.isPrefixOf]
    have hi : Lib.index (joinB (x :: y :: r)) [124] = (x.length : Int) := by
      rcases Lib.index_spec (joinB (x :: y :: r)) [124] with ⟨_, h2⟩ | ⟨i, h1, _, h3, h4⟩
      · have := h2 x.length (by rw [hj]; simp)
        rw [hxl] at this; cases this
      · have hle : ¬ x.length < i := fun hlt => by
          have := h4 x.length hlt
          rw [hxl] at this; cases this
        have hge : ¬ i < x.length := fun hlt => hx0 i hlt h3
        rw [h1]; congr 1; omega
    have ih := split_join (y :: r) k (by simp) (fun z hz => hx z (by simp [hz])) (by simp at h ⊢; omega)
    unfold Lib.splitK
    rw [hi, if_neg (by rw [beq_iff_eq]; omega)]
    have e : ((x.length : Int)).toNat = x.length := by omega
    rw [e]
    have ed : (joinB (x :: y :: r)).drop (x.length + ([124] : Bs).length) = joinB (y :: r) := by
      rw [hj, ← List.drop_drop, List.drop_left]; rfl
    have et : (joinB (x :: y :: r)).take (x.length + 0) = x := by rw [hj, Nat.add_zero, List.take_left]
    rw [ed, et, ih]
end Go.Proofs.YtkgnapojkijbgaaGreatDoor
/- What matcher.Parse reads is just the texts of the matchers that may be. Mathematics alone. -/
namespace Go.Proofs.YtkgnapojkijbgaaGreatDoor

theorem index_at (c : UInt8) (x y : Bs) (h : c ∉ x) : Lib.index (x ++ c :: y) [c] = (x.length : Int) := by
  have hat : ∀ (t : Bs) (j : Nat), Lib.occAt t [c] j = true → ∃ u, t.drop j = c :: u := by
    intro t j ho
    have ho : ([c] : Bs).isPrefixOf (t.drop j) = true := ho
    cases hd : t.drop j with
    | nil => rw [hd] at ho; cases ho
    | cons z u =>
      rw [hd] at ho
      simp only [List.isPrefixOf, Bool.and_true, beq_iff_eq] at ho
      exact ⟨u, by rw [← ho]⟩
  have hx0 : ∀ j, j < x.length → Lib.occAt (x ++ c :: y) [c] j ≠ true := by
    intro j hlt ho
    obtain ⟨u, hu⟩ := hat _ _ ho
    rw [List.drop_append_of_le_length (by omega)] at hu
    have hn : x.drop j ≠ [] := by simp; omega
    cases hd : x.drop j with
    | nil => exact hn hd
    | cons z v =>
      rw [hd] at hu
      simp only [List.cons_append, List.cons.injEq] at hu
      exact h (List.mem_of_mem_drop (i := j) (by rw [hd, hu.1]; simp))
  have hxl : Lib.occAt (x ++ c :: y) [c] x.length = true := by
    show ([c] : Bs).isPrefixOf ((x ++ c :: y).drop x.length) = true
    rw [List.drop_left]
    simp [List.isPrefixOf]
  rcases Lib.index_spec (x ++ c :: y) [c] with ⟨_, h2⟩ | ⟨i, h1, _, h3, h4⟩
  · have := h2 x.length (by simp)
    rw [hxl] at this; cases this
  · have hle : ¬ x.length < i := fun hlt => by
      have := h4 x.length hlt
      rw [hxl] at this; cases this
    have hge : ¬ i < x.length := fun hlt => hx0 i hlt h3
    rw [h1]; congr 1; omega
theorem index_found {c : UInt8} {s : Bs} (h : 0 ≤ Lib.index s [c]) : s = s.take (Lib.index s [c]).toNat ++ c :: s.drop ((Lib.index s [c]).toNat + 1) := by
  rcases Lib.index_spec s [c] with ⟨h1, _⟩ | ⟨i, h1, _, h3, _⟩
  · omega
  · have e : ((i : Int)).toNat = i := by omega
    rw [h1, e]
    have hat : s.drop i = c :: s.drop (i + 1) := by
      have ho : ([c] : Bs).isPrefixOf (s.drop i) = true := h3
      cases hd : s.drop i with
      | nil => rw [hd] at ho; cases ho
      | cons y t =>
        rw [hd] at ho
        simp only [List.isPrefixOf, Bool.and_true, beq_iff_eq] at ho
        have : s.drop (i + 1) = t := by rw [← List.drop_drop, hd]; rfl
        rw [this, ← ho]
    rw [← hat, List.take_append_drop]
theorem cutM_at (c : UInt8) (x y : Bs) (h : c ∉ x) : Lib.cut (x ++ c :: y) [c] = (x, y, true) := by
  unfold Lib.cut
  rw [index_at c x y h, if_pos (by omega)]
  have e : ((x.length : Int)).toNat = x.length := by omega
  rw [e, List.take_left, ← List.drop_drop, List.drop_left]
  rfl
theorem cutM_found {s : Bs} (h : pOpen s = true) : s = pHead s ++ 34 :: pTail s := by
  unfold pOpen Lib.cut at h
  unfold pHead pTail Lib.cut
  by_cases h0 : 0 ≤ Lib.index s [34]
  · simp only [if_pos h0]
    exact index_found h0
  · rw [if_neg h0] at h; cases h
theorem shut_found {s : Bs} (h : pShut s = true) : pTail s = pWords s ++ [34] := by
  unfold pShut at h
  unfold pWords Lib.trimSuffix
  rw [if_pos h]
  obtain ⟨t, ht⟩ := List.isSuffixOf_iff_suffix.1 (show ([34] : Bs).isSuffixOf (pTail s) = true from h)
  rw [← ht]
  simp
theorem splitW_data (T : Bs) : (splitW T).map (·.data.toList) = Lib.splitK [124] 0 (min 9 (T.length + 1) - 1) T := by
  unfold splitW
  rw [Lib.splitB_data]
theorem joinW_splitW (T : Bs) : joinW (splitW T) = T := by
  rw [joinW_B, splitW_data]
  exact (joinB_split _ T).1
theorem data_inj : ∀ (a b : List ByteArray), a.map (·.data.toList) = b.map (·.data.toList) → a = b
  | [], [], _ => rfl
  | [], _ :: _, h => by simp at h
  | _ :: _, [], h => by simp at h
  | x :: a, y :: b, h => by
    simp only [List.map_cons, List.cons.injEq] at h
    have e : x = y := by
      cases x; cases y
      simp only [Array.toList_inj] at h
      rw [h.1]
    rw [e, data_inj a b h.2]
theorem joinB_len : ∀ (ws : List Bs), ws.length ≤ (joinB ws).length + 1
  | [] => by simp
  | [x] => by simp
  | x :: y :: r => by
    have ih := joinB_len (y :: r)
    have hj : joinB (x :: y :: r) = x ++ 124 :: joinB (y :: r) := by simp [joinB]
    rw [hj]
    simp at ih ⊢
    omega
theorem splitW_joinW (ws : List ByteArray) (hr : wordsC ws = true) (h1 : 1 ≤ ws.length) (h8 : ws.length ≤ 8) : splitW (joinW ws) = ws := by
  apply data_inj
  rw [splitW_data, joinW_B]
  have hl := joinB_len (ws.map (·.data.toList))
  rw [List.length_map] at hl
  refine split_join _ _ ?_ ?_ ?_
  · intro e
    have := congrArg List.length e
    simp at this
    subst this; simp at h1
  · intro x hx
    obtain ⟨y, hy, rfl⟩ := List.mem_map.1 hx
    have hw := wordsC_all hr y hy
    unfold wordC at hw
    simp only [Bool.and_eq_true, List.all_eq_true] at hw
    intro hc
    have := hw.2 _ hc
    revert this; decide
  · rw [List.length_map]; omega

theorem parseM_text (m : Mat) (hr : rightM m = true) : parseM (textM m) = some m := by
  obtain ⟨hn, h1, h4, hw, hl1, hl8, _⟩ := (rightM_iff m).1 hr
  have hnm : ∀ b ∈ m.name.data.toList, wrdC b = true := by
    unfold nameC at hn
    simp only [Bool.and_eq_true, List.all_eq_true] at hn
    exact hn.2
  have hs : ∃ a t, signT m.how = a :: t ∧ ([61, 33] : Bs).contains a = true ∧ (34 : UInt8) ∉ a :: t := by
    rcases (by omega : m.how = 1 ∨ m.how = 2 ∨ m.how = 3 ∨ m.how = 4) with e | e | e | e <;> rw [e]
    · exact ⟨61, [], rfl, by decide, by decide⟩
    · exact ⟨33, [61], rfl, by decide, by decide⟩
    · exact ⟨61, [126], rfl, by decide, by decide⟩
    · exact ⟨33, [126], rfl, by decide, by decide⟩
  obtain ⟨a, t, hst, ha, h34⟩ := hs
  have hno : (34 : UInt8) ∉ m.name.data.toList ++ signT m.how := by
    rw [List.mem_append, hst]
    rintro (h | h)
    · have := hnm _ h; revert this; decide
    · exact h34 h
  have hcut : Lib.cut (textM m) [34] = (m.name.data.toList ++ signT m.how, joinW m.words ++ [34], true) := by
    unfold textM
    exact cutM_at 34 _ _ hno
  have eH : pHead (textM m) = m.name.data.toList ++ signT m.how := by unfold pHead; rw [hcut]
  have eT : pTail (textM m) = joinW m.words ++ [34] := by unfold pTail; rw [hcut]
  have eO : pOpen (textM m) = true := by unfold pOpen; rw [hcut]
  have eS : pShut (textM m) = true := by
    unfold pShut; rw [eT]
    exact List.isSuffixOf_iff_suffix.2 ⟨_, rfl⟩
  have eW : pWords (textM m) = joinW m.words := by
    have := shut_found eS
    rw [eT] at this
    exact (List.append_cancel_right this).symm
  have eA : pAt (textM m) = (m.name.data.toList.length : Int) := by
    unfold pAt
    rw [eH]
    rcases indexAny_spec [61, 33] (m.name.data.toList ++ signT m.how) with ⟨_, h2⟩ | ⟨i, hi, e, h2, h3⟩
    · have := h2 a (by rw [hst]; simp)
      rw [ha] at this; cases this
    · rw [e]
      have hge : ¬ i < m.name.data.toList.length := fun hlt => by
        rw [List.getElem_append_left hlt] at h2
        have := hnm _ (List.getElem_mem hlt)
        generalize m.name.data.toList[i] = b at h2 this
        simp only [List.contains_cons, List.contains_nil, Bool.or_false, Bool.or_eq_true, beq_iff_eq] at h2
        rcases h2 with rfl | rfl <;> revert this <;> decide
      have hle : ¬ m.name.data.toList.length < i := fun hlt => by
        have hm : a ∈ (m.name.data.toList ++ signT m.how).take i := by
          rw [hst, List.take_append, List.mem_append]
          right
          obtain ⟨k, hk⟩ : ∃ k, i - m.name.data.toList.length = k + 1 := ⟨i - m.name.data.toList.length - 1, by omega⟩
          rw [hk, List.take_succ_cons]; simp
        have := h3 a hm
        rw [ha] at this; cases this
      congr 1; omega
  have eM : pMat (textM m) = m := by
    unfold pMat
    rw [eH, eA, eW, splitW_joinW m.words hw hl1 hl8]
    have e : ((m.name.data.toList.length : Int)).toNat = m.name.data.toList.length := by omega
    rw [e, List.take_left, List.drop_left, howC_sign m.how h1 h4]
  unfold parseM
  have hok : pOk (textM m) = true := by
    unfold pOk
    rw [eO, eS, eA]
    simp
  rw [if_pos hok, eM, if_pos hr]
theorem parseM_iff (s : Bs) (m : Mat) : parseM s = some m ↔ rightM m = true ∧ textM m = s := by
  constructor
  · intro h
    unfold parseM at h
    by_cases hok : pOk s = true
    · rw [if_pos hok] at h
      by_cases hr : rightM (pMat s) = true
      · rw [if_pos hr] at h
        cases h
        refine ⟨hr, ?_⟩
        unfold pOk at hok
        simp only [Bool.and_eq_true] at hok
        obtain ⟨ho, hsh, _⟩ := hok
        obtain ⟨_, h1, h4, _⟩ := (rightM_iff _).1 hr
        have hw : howC ((pHead s).drop (pAt s).toNat) ≠ 0 := by
          have : (pMat s).how = howC ((pHead s).drop (pAt s).toNat) := rfl
          omega
        have hsg := (howC_some hw).2.2
        show ((pHead s).take (pAt s).toNat) ++ signT (howC ((pHead s).drop (pAt s).toNat)) ++ 34 :: (joinW (splitW (pWords s)) ++ [34]) = s
        rw [hsg, List.take_append_drop, joinW_splitW, ← shut_found hsh]
        exact (cutM_found ho).symm
      · rw [if_neg hr] at h; cases h
    · rw [if_neg hok] at h; cases h
  · rintro ⟨hr, rfl⟩
    exact parseM_text m hr
end Go.Proofs.YtkgnapojkijbgaaGreatDoor
/- Texts that are bound, and the texts of matchers, tell what they were: mathematics. -/
namespace Go.Proofs.YtkgnapojkijbgaaGreatDoor

theorem numR_head (f : Nat) : ∀ (n m : Nat) (X Y : List UInt8), (numB n).length ≤ f → numB n ++ X = numB m ++ Y → n = m ∧ X = Y := by
  induction f with
  | zero => intro n m X Y h; have := numB_pos n; omega
  | succ f ih =>
    intro n m X Y h e
    by_cases h1 : n < 128 <;> by_cases h2 : m < 128
    · rw [numB_lt h1, numB_lt h2, List.singleton_append, List.singleton_append] at e
      obtain ⟨e1, e2⟩ := List.cons.inj e
      have a : (UInt8.ofNat n).toNat = n := by simp; omega
      have b : (UInt8.ofNat m).toNat = m := by simp; omega
      exact ⟨by rw [← a, ← b, e1], e2⟩
    · rw [numB_lt h1, numB_ge (n := m) (by omega), List.singleton_append, List.cons_append] at e
      obtain ⟨e1, e2⟩ := List.cons.inj e
      have a : (UInt8.ofNat n).toNat = n := by simp; omega
      have b : (UInt8.ofNat (m % 128 + 128)).toNat = m % 128 + 128 := by simp; omega
      rw [e1, b] at a
      omega
    · rw [numB_ge (n := n) (by omega), numB_lt h2, List.singleton_append, List.cons_append] at e
      obtain ⟨e1, e2⟩ := List.cons.inj e
      have a : (UInt8.ofNat (n % 128 + 128)).toNat = n % 128 + 128 := by simp; omega
      have b : (UInt8.ofNat m).toNat = m := by simp; omega
      rw [e1, b] at a
      omega
    · rw [numB_ge (n := n) (by omega), numB_ge (n := m) (by omega), List.cons_append, List.cons_append] at e
      obtain ⟨e1, e2⟩ := List.cons.inj e
      have a : (UInt8.ofNat (n % 128 + 128)).toNat = n % 128 + 128 := by simp; omega
      have b : (UInt8.ofNat (m % 128 + 128)).toNat = m % 128 + 128 := by simp; omega
      rw [e1, b] at a
      rw [numB_ge (n := n) (by omega)] at h
      obtain ⟨e3, e4⟩ := ih _ _ _ _ (by simpa using h) e2
      exact ⟨by omega, e4⟩
theorem bindM_inj : ∀ (L M : List ByteArray), bindL L = bindL M → L = M
  | [], [], _ => rfl
  | [], y :: M, h => by
    have := numB_pos y.size
    have h := congrArg List.length h
    simp only [bindL, List.flatMap_nil, List.flatMap_cons, List.length_append, List.length_nil] at h
    omega
  | x :: L, [], h => by
    have := numB_pos x.size
    have h := congrArg List.length h
    simp only [bindL, List.flatMap_nil, List.flatMap_cons, List.length_append, List.length_nil] at h
    omega
  | x :: L, y :: M, h => by
    have hb : ∀ (z : ByteArray) (K : List ByteArray), bindL (z :: K) = numB z.size ++ (z.data.toList ++ bindL K) := fun z K => by simp [bindL]
    rw [hb, hb] at h
    obtain ⟨e1, e2⟩ := numR_head _ _ _ _ _ (Nat.le_refl _) h
    obtain ⟨e3, e4⟩ := List.append_inj e2 (by simpa using e1)
    have e5 : x = y := by
      apply ByteArray.ext
      exact Array.ext' e3
    rw [e5, bindM_inj L M e4]
theorem bindS_inj {L M : List ByteArray} (hL : mayB L = true) (hM : mayB M = true) (h : bindS L = bindS M) : L = M := by
  unfold bindS at h
  rw [if_pos hL, if_pos hM] at h
  exact bindM_inj L M (by have := congrArg (fun b : ByteArray => b.data.toList) h; simpa using this)
theorem textV_inj {m m' : Mat} (h : rightM m = true) (h' : rightM m' = true) (e : textV m = textV m') : m = m' := by
  unfold textV at e
  rw [if_pos h, if_pos h'] at e
  have e : textM m = textM m' := by have := congrArg (fun b : ByteArray => b.data.toList) e; simpa using this
  have a := parseM_text m h
  rw [e, parseM_text m' h'] at a
  exact (Option.some.inj a).symm
theorem textVs_inj : ∀ {ms ms' : List Mat}, ms.all rightM = true → ms'.all rightM = true → ms.map textV = ms'.map textV → ms = ms'
  | [], [], _, _, _ => rfl
  | [], _ :: _, _, _, h => by cases h
  | _ :: _, [], _, _, h => by cases h
  | m :: ms, m' :: ms', h, h', e => by
    rw [List.all_cons, Bool.and_eq_true] at h h'
    simp only [List.map_cons, List.cons.injEq] at e
    rw [textV_inj h.1 h'.1 e.1, textVs_inj h.2 h'.2 e.2]
end Go.Proofs.YtkgnapojkijbgaaGreatDoor
