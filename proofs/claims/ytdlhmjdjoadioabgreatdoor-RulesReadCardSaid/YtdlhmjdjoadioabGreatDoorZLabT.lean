/- The contracts of what writes a set: label.appendQuoted, label.Text. -/
import Derived.Test.YtdlhmjdjoadioabGreatDoorZLabC
import Derived.Test.YtdlhmjdjoadioabGreatDoorZOwn
namespace Go.Proofs.YtdlhmjdjoadioabGreatDoor
open Go.RowKit

theorem Tryz.infoB : (Tryz.prog.info? 5).map (fun i => (i.zero, i.size, i.bytes)) = some (some (.int .u8 0), 1, 1) := by kernel_rfl
theorem info_partsB {x : Option TypeInfo} (h : x.map (fun i => (i.zero, i.size, i.bytes)) = some (some (.int .u8 0), 1, 1)) : ∃ i, x = some i ∧ i.zero = some (.int .u8 0) ∧ i.size = 1 ∧ i.bytes = 1 := by
  cases x with
  | none => cases h
  | some i => simp at h; exact ⟨i, rfl, h.1, h.2.1, h.2.2⟩

theorem quoteL_snoc (v : List UInt8) (c : UInt8) : quoteL (v ++ [c]) = quoteL v ++ (if c = 34 ∨ c = 92 then [92, c] else [c]) := by simp [quoteL]
theorem quoteL_take (s : ByteArray) (k : Nat) (h : k < s.size) : quoteL (s.data.toList.take (k + 1)) = quoteL (s.data.toList.take k) ++ (if s[k] = 34 ∨ s[k] = 92 then [92, s[k]] else [s[k]]) := by
  rw [take_byte s k h, quoteL_snoc]
theorem is34_iff (c : UInt8) : c = 34 ↔ c.toNat = 34 := ⟨fun h => by subst h; rfl, fun h => UInt8.toNat_inj.1 h⟩
theorem is92_iff (c : UInt8) : c = 92 ↔ c.toNat = 92 := ⟨fun h => by subst h; rfl, fun h => UInt8.toNat_inj.1 h⟩

def OwnPost (T base : Nat) (l : List UInt8) (w : World) (e : Ending) (w' : World) : Prop := ∃ v, e = .returned v ∧ OwnB T w' base v l ∧ Below base w w' ∧ base ≤ w'.heap.size

set_option maxHeartbeats 1600000 in
set_option maxRecDepth 100000 in
theorem appendQuoted_any (v : Value) (l : List UInt8) (s : ByteArray) (base : Nat) (w : World) (hown : OwnB 5 w base v l) (hbase : base ≤ w.heap.size) (hl : l.length ≤ 1000000) (hs : s.size ≤ 1000000) :
    Calls Tryz.prog 40 #[v, .string s] w (OwnPost 5 base (l ++ 34 :: (quoteL s.data.toList ++ [34])) w) := by
  obtain ⟨i0, hi, hz0, hz1, hz2⟩ := info_partsB Tryz.infoB
  go_enter Tryz.func40, Tryz.ntmps40
  go_wp2_with (at_builtin; refine (wpList_pushB w rfl _ _ 66 rfl base 5 i0 (.int .u8 0) Tryz.underlying66 hi hz0 hz1 hz2 rfl v l [34] rfl hown [.int .u8 34] 1 rfl rfl rfl (by simp; omega) hbase ?_))
  intro v1 w1 hown1 hg1
  have hb1 : Below base w w1 := hown.grown (Below.refl _ _) hbase hg1
  have hz1' := Nat.le_trans hbase hg1.size
  go_wp2_with fail
  go_loopw [0, 5] (fun u i wr => ∃ k : Nat, k ≤ s.size ∧ i = .int .i64 k ∧ OwnB 5 wr base u (l ++ [34] ++ quoteL (s.data.toList.take k)) ∧ Below base w wr ∧ base ≤ wr.heap.size) (fun _ i _ => s.size - (intOf i).toNat)
  case atStart => exact ⟨0, Nat.zero_le _, rfl, by simpa [quoteL] using hown1, hb1, hz1'⟩
  case round =>
    clear hown1 hb1 hz1' hg1 hown
    obtain ⟨k, hk, rfl, hown, hb, hz⟩ := hrel
    have hql := quoteL_len (s.data.toList.take k)
    have htl : (s.data.toList.take k).length ≤ k := List.length_take_le _ _
    have hlen : (l ++ [34] ++ quoteL (s.data.toList.take k)).length ≤ 4000000 := by simp only [List.length_append, List.length_cons, List.length_nil]; omega
    by_cases hks : k < s.size
    · have hq := quoteL_take s k hks
      obtain ⟨L, hL⟩ : ∃ L, l ++ [34] ++ quoteL (s.data.toList.take k) = L := ⟨_, rfl⟩
      rw [hL] at hown hlen
      by_cases h34 : s[k] = 34 ∨ s[k] = 92
      · rw [if_pos h34] at hq
        have h34b : s[k].toNat = 34 ∨ s[k].toNat = 92 := by rw [is34_iff, is92_iff] at h34; exact h34
        have HQ : Hid (L ++ [92] ++ [s[k]] = l ++ [34] ++ quoteL (s.data.toList.take (k + 1))) := Lib.hid (by rw [hq, ← hL]; simp)
        clear hq h34 hql htl hL
        have t1 : ((s[k].toNat : Int) == 34) = true ∨ ((s[k].toNat : Int) == 34) = false ∧ ((s[k].toNat : Int) == 92) = true := by
          rcases h34b with h | h
          · exact .inl (by rw [beq_iff_eq]; omega)
          · exact .inr ⟨by rw [beq_eq_false_iff_ne]; omega, by rw [beq_iff_eq]; omega⟩
        clear h34b
        rcases t1 with t1 | ⟨t1, t2⟩
        all_goals
          go_wp2_with (at_builtin; refine (wpList_pushB wr rfl _ _ 66 rfl base 5 i0 (.int .u8 0) Tryz.underlying66 hi hz0 hz1 hz2 rfl _ L [92] rfl (by assumption) [.int .u8 92] 1 rfl rfl rfl (by simp; omega) (by assumption) ?_))
          intro v2 w2 hown2 hg2
          have hb2 : Below base w w2 := hown.grown hb hz hg2
          have hz2' := Nat.le_trans hz hg2.size
          have hlen2 : (L ++ [92]).length ≤ 4000001 := by simp; omega
          clear hown hg2 hb hz
          go_wp2_with (at_builtin; refine (wpList_pushB w2 rfl _ _ 66 rfl base 5 i0 (.int .u8 0) Tryz.underlying66 hi hz0 hz1 hz2 rfl _ (L ++ [92]) [s[k]] rfl (by assumption) [.int .u8 (s[k].toNat : Int)] 1 rfl rfl rfl (by simp; omega) (by assumption) ?_))
          intro v3 w3 hown3 hg3
          have hb3 : Below base w w3 := hown2.grown hb2 hz2' hg3
          have hz3' := Nat.le_trans hz2' hg3.size
          clear hown2 hg3 hb2 hz2'
          go_wp2
          go_roundw
          case rel => exact ⟨k + 1, by omega, by go_num, by rw [← HQ.out]; simpa using hown3, hb3, hz3'⟩
          case measure => simp [intOf]; omega
      · rw [if_neg h34] at hq
        rw [is34_iff, is92_iff] at h34
        have t1 : ((s[k].toNat : Int) == 34) = false := by rw [beq_eq_false_iff_ne]; omega
        have t2 : ((s[k].toNat : Int) == 92) = false := by rw [beq_eq_false_iff_ne]; omega
        have HQ : Hid (L ++ [s[k]] = l ++ [34] ++ quoteL (s.data.toList.take (k + 1))) := Lib.hid (by rw [hq, ← hL]; simp)
        clear hq h34 hql htl hL
        go_wp2_with (at_builtin; refine (wpList_pushB wr rfl _ _ 66 rfl base 5 i0 (.int .u8 0) Tryz.underlying66 hi hz0 hz1 hz2 rfl _ L [s[k]] rfl (by assumption) [.int .u8 (s[k].toNat : Int)] 1 rfl rfl rfl (by simp; omega) (by assumption) ?_))
        intro v3 w3 hown3 hg3
        have hb3 : Below base w w3 := hown.grown hb hz hg3
        have hz3' := Nat.le_trans hz hg3.size
        clear hown hg3 hb hz
        go_wp2
        go_roundw
        case rel => exact ⟨k + 1, by omega, by go_num, by rw [← HQ.out]; exact hown3, hb3, hz3'⟩
        case measure => simp [intOf]; omega
    · have hq : s.data.toList.take k = s.data.toList := List.take_of_length_le (by simp; omega)
      obtain ⟨L, hL⟩ : ∃ L, l ++ [34] ++ quoteL (s.data.toList.take k) = L := ⟨_, rfl⟩
      rw [hL] at hown hlen
      have HQ : Hid (L ++ [34] = l ++ 34 :: (quoteL s.data.toList ++ [34])) := Lib.hid (by rw [← hL, hq]; simp)
      clear hq hL hql htl
      go_wp2_with (at_builtin; refine (wpList_pushB wr rfl _ _ 66 rfl base 5 i0 (.int .u8 0) Tryz.underlying66 hi hz0 hz1 hz2 rfl _ L [34] rfl (by assumption) [.int .u8 34] 1 rfl rfl rfl (by simp; omega) (by assumption) ?_))
      intro v3 w3 hown3 hg3
      have hb3 : Below base w w3 := hown.grown hb hz hg3
      have hz3' := Nat.le_trans hz hg3.size
      clear hown hg3 hb hz
      go_wp2
      go_ret
      exact ⟨v3, rfl, by rw [← HQ.out]; exact hown3, hb3, hz3'⟩

theorem bodyT_take (ls : List Lab) (k : Nat) (h : k < ls.length) : bodyT (ls.take (k + 1)) = bodyT (ls.take k) ++ (if k = 0 then [] else [44]) ++ labT ls[k] := by
  rw [List.take_succ_eq_append_getElem h, bodyT_snoc]
  congr 2
  by_cases hk : k = 0
  · subst hk; simp
  · rw [if_neg hk, if_neg]
    intro e
    have : (ls.take k).length = 0 := by rw [e]; rfl
    rw [List.length_take] at this
    omega
theorem bodyT_le (ls : List Lab) (h : rightC ls = true) (k : Nat) : (bodyT (ls.take k)).length ≤ 1568 := by
  obtain ⟨h1, h2, _⟩ := (rightC_iff ls).1 h
  have := bodyT_len (ls.take k) (fun l hl => h2 l (List.mem_of_mem_take hl))
  have h3 : (ls.take k).length ≤ 8 := by rw [List.length_take]; omega
  have : (ls.take k).length * 196 ≤ 8 * 196 := Nat.mul_le_mul_right _ h3
  omega
theorem lab_sizes {l : Lab} (h : labC l = true) : l.1.size ≤ 64 ∧ l.2.size ≤ 64 := by
  simp only [labC, nameC, valC, Bool.and_eq_true, decide_eq_true_eq, Array.length_toList, ByteArray.size_data] at h
  omega

def textS (ls : List Lab) : ByteArray := ⟨(textL ls).toArray⟩
def TextPost (s : ByteArray) (n : Int) (w : World) (e : Ending) (w' : World) : Prop := e = .returned (.tuple #[.string s, .int .i64 n]) ∧ Below w.heap.size w w'

set_option maxHeartbeats 3200000 in
set_option maxRecDepth 100000 in
theorem text_ok (a : Option Addr) (c : Nat) (ls : List Lab) (w : World) (h : HasLabs w a c ls) (hr : rightC ls = true) :
    Calls Tryz.prog 18 #[.slice a ls.length c] w (TextPost (textS ls) 0 w) := by
  obtain ⟨i0, hi, hz0, hz1, hz2⟩ := info_partsB Tryz.infoB
  have hri := fun W (hW : HasLabs W a c ls) => right_any a c ls W hW
  rw [hr] at hri
  have HRI := Lib.hid hri
  have HL := Lib.hid h
  have HR := Lib.hid hr
  have h2 := h.2.1
  have h1 := h.1
  unfold maxLen at h2
  clear hri h hr
  go_enter Tryz.func18, Tryz.ntmps18
  go_upto_region 3 with (go_at_call 39; refine (HRI.out _ HL.out).mono ?_; rintro e w1 ⟨rfl, hb1⟩)
  have hown1 := OwnB.made 5 w1 [123] (by simp)
  have hbA : Below w.heap.size w (w1.alloc (.cells (bytesV [123]).toArray 5)) := hb1.alloc hb1.size _
  have hzA := hbA.size
  go_wp2_with fail
  go_loopw [4, 13, 5] (fun v i _ wr => ∃ k : Nat, k ≤ ls.length ∧ i = .int .i64 k ∧ OwnB 5 wr w.heap.size v (123 :: bodyT (ls.take k)) ∧ Below w.heap.size w wr ∧ w.heap.size ≤ wr.heap.size) (fun _ i _ _ => ls.length - (intOf i).toNat)
  case atStart => exact ⟨0, Nat.zero_le _, rfl, hown1.base hb1.size, hbA, hzA⟩
  case round =>
    clear hown1 hbA hzA hb1
    obtain ⟨k, hk, rfl, hown, hb, hz⟩ := hrel
    have hlen0 := bodyT_le ls HR.out k
    have hlen : (123 :: bodyT (ls.take k)).length ≤ 1600 := by simp; omega
    obtain ⟨L, hL⟩ : ∃ L, 123 :: bodyT (ls.take k) = L := ⟨_, rfl⟩
    rw [hL] at hown hlen
    by_cases hkl : k < ls.length
    · have hls := HL.out.call hb
      obtain ⟨_, _, _, h4⟩ := hls
      obtain ⟨b, off, rfl, hbb, hcell⟩ : ∃ b off, a = some ⟨b, off, none⟩ ∧ b < wr.heap.size ∧ ∀ i (h : i < ls.length), wr.cell? ⟨b, off + i * 2, none⟩ = some (.string ls[i].1) ∧ wr.cell? ⟨b, off + i * 2 + 1, none⟩ = some (.string ls[i].2) := by
        rcases h4 with rfl | h4
        · exact absurd hkl (by simp)
        · exact h4
      obtain ⟨hc1, hc2⟩ := hcell k hkl
      obtain ⟨hs1, hs2⟩ := lab_sizes (((rightC_iff ls).1 HR.out).2.1 _ (List.getElem_mem hkl))
      have htk := bodyT_take ls k hkl
      obtain ⟨X, hX⟩ : ∃ X, ls[k] = X := ⟨_, rfl⟩
      rw [hX] at hc1 hc2 hs1 hs2 htk
      have HTK := Lib.hid htk
      clear hX htk hcell
      have hbx := Blk.new wr 60 #[.string X.1, .string X.2]
      have hownW := hown.alloc (.cells #[.string X.1, .string X.2] 60)
      have hbW := hb.alloc hz (.cells #[.string X.1, .string X.2] 60)
      have hzW := hbW.size
      clear hown hb
      go_upto_region 7 with fail
      generalize wr.alloc (.cells #[.string X.1, .string X.2] 60) = W at *
      generalize wr.heap.size = B at *
      rcases Nat.eq_zero_or_pos k with hk0 | hk1
      · have e0 : ∃ M, M = L ∧ 123 :: bodyT (ls.take (k + 1)) = M ++ labT X ∧ M.length ≤ 1602 := ⟨_, rfl, by rw [HTK.out, ← hL, if_pos hk0]; simp, by omega⟩
        obtain ⟨M, hM, hM2, hMl⟩ := e0
        have HM : Hid (M ++ labT X = 123 :: bodyT (ls.take (k + 1))) := Lib.hid hM2.symm
        have hown := hownW
        rw [← hM] at hown
        have hb := hbW
        have hz := hzW
        clear hM hM2 hownW hbW hzW hL hlen
        have hk2 : (0 < k) = False := by simp [hk0]
        have hk1 : decide (0 < k) = false := by simp [hk0]
        clear hk0
        have q1 := hbx.cell 0
        have q2 := hbx.cell 1
        go_wp2_with (at_builtin; refine (wpList_appB _ rfl _ _ 66 9 rfl w.heap.size 5 i0 (.int .u8 0) Tryz.underlying66 Tryz.underlying9 hi hz0 hz1 hz2 rfl _ M rfl (by assumption) X.1 rfl (by omega) (by assumption) ?_))
        intro v2 w2 hown2 hg2
        have hb2 : Below w.heap.size w w2 := hown.grown hb hz hg2
        have hz2' := Nat.le_trans hz hg2.size
        have hbx2 := hbx.pushB hown (by decide) hg2
        have hl2 : (M ++ X.1.data.toList).length ≤ 1700 := by simp; omega
        obtain ⟨M2, HM2⟩ : ∃ M2, Hid (M ++ X.1.data.toList = M2) := ⟨_, Lib.hid rfl⟩
        rw [HM2.out] at hown2 hl2
        clear hown hg2 hb hz hbx q1 q2
        have q1 := hbx2.cell 0
        have q2 := hbx2.cell 1
        go_wp2_with (at_builtin; refine (wpList_pushB w2 rfl _ _ 66 rfl w.heap.size 5 i0 (.int .u8 0) Tryz.underlying66 hi hz0 hz1 hz2 rfl _ M2 [61] rfl (by assumption) [.int .u8 61] 1 rfl rfl rfl (by simp; omega) (by assumption) ?_))
        intro v3 w3 hown3 hg3
        have hb3 : Below w.heap.size w w3 := hown2.grown hb2 hz2' hg3
        have hz3' := Nat.le_trans hz2' hg3.size
        have hbx3 := hbx2.pushB hown2 (by decide) hg3
        have hl3 : (M2 ++ [61]).length ≤ 1701 := by rw [List.length_append]; simp only [List.length_cons, List.length_nil]; omega
        obtain ⟨M3, HM3⟩ : ∃ M3, Hid (M2 ++ [61] = M3) := ⟨_, Lib.hid rfl⟩
        rw [HM3.out] at hown3 hl3
        have hl4 := Nat.le_trans hl3 (show 1701 ≤ 1000000 by omega)
        clear hown2 hg3 hb2 hz2' hbx2 q1 q2 hl3
        have q1 := hbx3.cell 0
        have q2 := hbx3.cell 1
        go_wp2_with (go_at_call 40; (with_reducible refine (appendQuoted_any _ _ X.2 _ _ (by assumption) hz3' hl4 (by omega)).mono ?_); rintro e w4 ⟨v4, rfl, hown4, hb4, hz4⟩)
        have hb5 := hb3.trans hb4
        clear hb3 hb4 hbx3 q1 q2 hown3
        go_roundw
        case rel => exact ⟨k + 1, by omega, by go_num, by have h9 := hown4; rw [← HM3.out, ← HM2.out] at h9; rw [← HM.out]; simpa [labT] using h9, hb5, hz4⟩
        case measure => simp [intOf]; omega
      · have e0 : 123 :: bodyT (ls.take (k + 1)) = L ++ [44] ++ labT X := by rw [HTK.out, ← hL, if_neg (by omega)]; simp
        have E0 := Lib.hid e0
        clear e0 hL
        go_wp2_with (at_builtin; refine (wpList_pushB W rfl _ _ 66 rfl w.heap.size 5 i0 (.int .u8 0) Tryz.underlying66 hi hz0 hz1 hz2 rfl _ L [44] rfl (by assumption) [.int .u8 44] 1 rfl rfl rfl (by simp; omega) (by assumption) ?_))
        intro v1 w1 hown hg
        have hb : Below w.heap.size w w1 := hownW.grown hbW hzW hg
        have hz := Nat.le_trans hzW hg.size
        have hbx' := hbx.pushB hownW (by decide) hg
        clear hbx hownW hbW hzW hg
        have hbx := hbx'
        clear hbx'
        obtain ⟨M, hM⟩ : ∃ M, L ++ [44] = M := ⟨_, rfl⟩
        have hMl : M.length ≤ 1602 := by rw [← hM]; simp; omega
        rw [hM] at hown
        have HM : Hid (M ++ labT X = 123 :: bodyT (ls.take (k + 1))) := Lib.hid (by rw [E0.out, ← hM])
        clear hM hlen
        have q1 := hbx.cell 0
        have q2 := hbx.cell 1
        go_wp2_with (at_builtin; refine (wpList_appB _ rfl _ _ 66 9 rfl w.heap.size 5 i0 (.int .u8 0) Tryz.underlying66 Tryz.underlying9 hi hz0 hz1 hz2 rfl _ M rfl (by assumption) X.1 rfl (by omega) (by assumption) ?_))
        intro v2 w2 hown2 hg2
        have hb2 : Below w.heap.size w w2 := hown.grown hb hz hg2
        have hz2' := Nat.le_trans hz hg2.size
        have hbx2 := hbx.pushB hown (by decide) hg2
        have hl2 : (M ++ X.1.data.toList).length ≤ 1700 := by simp; omega
        obtain ⟨M2, HM2⟩ : ∃ M2, Hid (M ++ X.1.data.toList = M2) := ⟨_, Lib.hid rfl⟩
        rw [HM2.out] at hown2 hl2
        clear hown hg2 hb hz hbx q1 q2
        have q1 := hbx2.cell 0
        have q2 := hbx2.cell 1
        go_wp2_with (at_builtin; refine (wpList_pushB w2 rfl _ _ 66 rfl w.heap.size 5 i0 (.int .u8 0) Tryz.underlying66 hi hz0 hz1 hz2 rfl _ M2 [61] rfl (by assumption) [.int .u8 61] 1 rfl rfl rfl (by simp; omega) (by assumption) ?_))
        intro v3 w3 hown3 hg3
        have hb3 : Below w.heap.size w w3 := hown2.grown hb2 hz2' hg3
        have hz3' := Nat.le_trans hz2' hg3.size
        have hbx3 := hbx2.pushB hown2 (by decide) hg3
        have hl3 : (M2 ++ [61]).length ≤ 1701 := by rw [List.length_append]; simp only [List.length_cons, List.length_nil]; omega
        obtain ⟨M3, HM3⟩ : ∃ M3, Hid (M2 ++ [61] = M3) := ⟨_, Lib.hid rfl⟩
        rw [HM3.out] at hown3 hl3
        have hl4 := Nat.le_trans hl3 (show 1701 ≤ 1000000 by omega)
        clear hown2 hg3 hb2 hz2' hbx2 q1 q2 hl3
        have q1 := hbx3.cell 0
        have q2 := hbx3.cell 1
        go_wp2_with (go_at_call 40; (with_reducible refine (appendQuoted_any _ _ X.2 _ _ (by assumption) hz3' hl4 (by omega)).mono ?_); rintro e w4 ⟨v4, rfl, hown4, hb4, hz4⟩)
        have hb5 := hb3.trans hb4
        clear hb3 hb4 hbx3 q1 q2 hown3
        go_roundw
        case rel => exact ⟨k + 1, by omega, by go_num, by have h9 := hown4; rw [← HM3.out, ← HM2.out] at h9; rw [← HM.out]; simpa [labT] using h9, hb5, hz4⟩
        case measure => simp [intOf]; omega
    · have hend : L ++ [125] = textL ls := by rw [← hL, List.take_of_length_le (by omega)]; simp [textL]
      have HE := Lib.hid hend
      clear hL hend
      go_upto_region 13 with fail
      go_wp2_with (at_builtin; refine (wpList_pushB wr rfl _ _ 66 rfl w.heap.size 5 i0 (.int .u8 0) Tryz.underlying66 hi hz0 hz1 hz2 rfl _ L [125] rfl (by assumption) [.int .u8 125] 1 rfl rfl rfl (by simp; omega) (by assumption) ?_))
      intro v2 w2 hown2 hg2
      have hb2 : Below w.heap.size w w2 := hown.grown hb hz hg2
      have hcv := OwnB.str (P := Tryz.prog) (src := 66) (dst := 9) hown2 Tryz.underlying66 Tryz.underlying5 Tryz.underlying9
      clear hown hown2 hg2 hb hz
      go_wp2
      go_ret2
      exact ⟨by rw [HE.out]; rfl, hb2⟩

theorem text_bad (a : Option Addr) (c : Nat) (ls : List Lab) (w : World) (h : HasLabs w a c ls) (hr : rightC ls = false) :
    Calls Tryz.prog 18 #[.slice a ls.length c] w (TextPost ⟨#[]⟩ 1 w) := by
  have hri := fun W (hW : HasLabs W a c ls) => right_any a c ls W hW
  rw [hr] at hri
  have HRI := Lib.hid hri
  have HL := Lib.hid h
  clear hri h hr
  go_enter Tryz.func18, Tryz.ntmps18
  go_wp2_with (go_at_call 39; refine (HRI.out _ HL.out).mono ?_; rintro e w1 ⟨rfl, hb1⟩)
  go_ret2
  exact ⟨rfl, hb1⟩
def textP (ls : List Lab) : ByteArray × Int := if rightC ls = true then (textS ls, 0) else (⟨#[]⟩, 1)
theorem text_any (a : Option Addr) (c : Nat) (ls : List Lab) (w : World) (h : HasLabs w a c ls) :
    Calls Tryz.prog 18 #[.slice a ls.length c] w (TextPost (textP ls).1 (textP ls).2 w) := by
  cases hr : rightC ls with
  | true =>
    have e : textP ls = (textS ls, 0) := by rw [textP, if_pos hr]
    rw [e]; exact text_ok a c ls w h hr
  | false =>
    have e : textP ls = (⟨#[]⟩, 1) := by rw [textP, if_neg (by rw [hr]; simp)]
    rw [e]; exact text_bad a c ls w h hr
end Go.Proofs.YtdlhmjdjoadioabGreatDoor
