/- The contract of block.isLeftOut: whether a line says nothing. -/
import Derived.Test.YtekcmgajjbdmgabDoorPrsM
import Derived.Test.YtekcmgajjbdmgabDoorBlkA
import Derived.Test.YtekcmgajjbdmgabDoorShelf
import Derived.Shelf.Strings.SlTrimAscii
namespace Go.Proofs.YtekcmgajjbdmgabDoor
open Go.RowKit

theorem trimLeft_any (s : ByteArray) (w : World) : Calls Tryd.prog 71 #[.string s, .string ⟨#[32, 9]⟩] w fun e w' => e = .returned (.string (bytesA (leftT s.data.toList))) ∧ Below w.heap.size w w' :=
  Any.strings_TrimLeft_laid Tryd.lays161 (by kernel_rfl) s ⟨#[32, 9]⟩ w (by decide) (ascii_of_all (by decide))
theorem cutSuf_any (s p : ByteArray) (w : World) (hs : s.size ≤ maxLen) : Calls Tryd.prog 44 #[.string s, .string p] w fun e w' => e = .returned (.tuple #[.string (bytesA (Lib.trimSuffix s.data.toList p.data.toList)), .bool (Lib.hasSuffix s.data.toList p.data.toList)]) ∧ w = w' :=
  (Tryd.strings_CutSuffix s p w (by unfold maxLen at hs; omega)).mono fun _ _ h => ⟨h.1, h.2.symm⟩
theorem cutPre_any (s p : ByteArray) (w : World) : Calls Tryd.prog 43 #[.string s, .string p] w fun e w' => e = .returned (.tuple #[.string (bytesA (Lib.trimPrefix s.data.toList p.data.toList)), .bool (Lib.hasPrefix s.data.toList p.data.toList)]) ∧ w = w' :=
  (Tryd.strings_CutPrefix s p w).mono fun _ _ h => ⟨h.1, h.2.symm⟩
theorem bytesA_list (l : Bs) : (bytesA l).data.toList = l := rfl
theorem bytesA_size (l : Bs) : (bytesA l).size = l.length := List.size_toArray
theorem bytesA_of (s : ByteArray) : bytesA s.data.toList = s := bytes_ext rfl
theorem leftT_len (l : Bs) : (leftT l).length ≤ l.length := (List.dropWhile_suffix _).length_le
theorem trimSuf_len (l p : Bs) : (Lib.trimSuffix l p).length ≤ l.length := by
  unfold Lib.trimSuffix
  split
  · rw [List.length_take]; omega
  · exact Nat.le_refl _
theorem trimPre_len (l p : Bs) : (Lib.trimPrefix l p).length ≤ l.length := by
  unfold Lib.trimPrefix
  split
  · rw [List.length_drop]; omega
  · exact Nat.le_refl _

theorem blankT_at : ∀ (l : Bs) (h : 0 < l.length), blankT l = (l[0] == 35 || l[0] == 59)
  | _ :: _, _ => rfl

set_option maxHeartbeats 1600000 in
theorem isLeftOut_any (s : ByteArray) (w : World) (hs : s.size ≤ maxLen) : Calls Tryd.prog 48 #[.string s] w (BoolW (leftD s.data.toList) w) := by
  have hT := trimLeft_any s
  obtain ⟨T, hTe⟩ : ∃ T, bytesA (leftT s.data.toList) = T := ⟨_, rfl⟩
  have hTs : T.size ≤ maxLen := by
    rw [← hTe, bytesA_size]
    have := leftT_len s.data.toList
    rw [lenB] at this
    omega
  have hd : leftD s.data.toList = (Lib.hasSuffix T.data.toList [10] && blankT (Lib.trimSuffix T.data.toList [10])) := by rw [← hTe]; rfl
  rw [hTe] at hT
  have hC := fun W => cutSuf_any T ⟨#[10]⟩ W hTs
  rw [show (⟨#[10]⟩ : ByteArray).data.toList = [10] from rfl] at hC
  rw [hd]
  obtain ⟨U, hUe⟩ : ∃ U, bytesA (Lib.trimSuffix T.data.toList [10]) = U := ⟨_, rfl⟩
  have hUl : Lib.trimSuffix T.data.toList [10] = U.data.toList := by rw [← hUe]; rfl
  have hUs : U.size ≤ maxLen := by
    rw [← hUe, bytesA_size]
    have := trimSuf_len T.data.toList [10]
    rw [lenB] at this
    omega
  rw [hUe] at hC
  rw [hUl]
  unfold maxLen at hUs
  have HT := Lib.hid hT
  have HC := Lib.hid hC
  clear hT hC hTe hUe hUl hd hTs
  generalize Lib.hasSuffix T.data.toList [10] = B at *
  cases B with
  | false =>
    go_enter Tryd.func48, Tryd.ntmps48
    go_wp2_with (first | (go_at_call 71; refine (HT.out _).mono ?_; rintro e w2 ⟨rfl, hb2⟩) | (go_at_call 44; refine (HC.out _).mono ?_; rintro e w3 ⟨rfl, rfl⟩))
    go_ret
    exact ⟨rfl, hb2⟩
  | true =>
    by_cases h0 : U.size = 0
    · have hU : U = ⟨#[]⟩ := by
        apply bytes_ext
        have : U.data.toList.length = 0 := by rw [lenB]; exact h0
        exact List.eq_nil_of_length_eq_zero this
      subst hU
      go_enter Tryd.func48, Tryd.ntmps48
      go_wp2_with (first | (go_at_call 71; refine (HT.out _).mono ?_; rintro e w2 ⟨rfl, hb2⟩) | (go_at_call 44; refine (HC.out _).mono ?_; rintro e w3 ⟨rfl, rfl⟩))
      go_ret
      exact ⟨rfl, hb2⟩
    · have h00 : 0 < U.size := by omega
      have hbt : blankT U.data.toList = (decide ((U[0]'h00).toNat = 35) || decide ((U[0]'h00).toNat = 59)) := by
        have e : U.data.toList[0]'(by rw [lenB]; exact h00) = U[0]'h00 := rfl
        have he : ∀ k : UInt8, ((U[0]'h00) == k) = decide ((U[0]'h00).toNat = k.toNat) := fun k => by rw [Bool.eq_iff_iff, beq_iff_eq, decide_eq_true_iff, UInt8.toNat_inj]
        rw [show (35 : Nat) = (35 : UInt8).toNat from rfl, show (59 : Nat) = (59 : UInt8).toNat from rfl, ← he, ← he, ← e]
        exact blankT_at _ (by rw [lenB]; exact h00)
      have hne : U.toList.isEmpty = false := by
        rw [ByteArray.toList_eq]
        cases hU : U.data.toList with
        | nil => rw [← lenB, hU] at h00; cases h00
        | cons c l => rfl
      have hne2 : (U.toList == ByteArray.toList ⟨#[]⟩) = false := by
        rw [ByteArray.toList_eq, ByteArray.toList_eq, beq_eq_false_iff_ne]
        intro e
        have := congrArg List.length e
        rw [lenB] at this
        exact h0 this
      rw [hbt]
      clear hbt h0
      obtain ⟨n, hn⟩ : ∃ n, (U[0]'h00).toNat = n := ⟨_, rfl⟩
      rw [hn]
      by_cases h35 : n = 35
      · have t1 : ((n : Int) == 35) = true := by rw [h35]; rfl
        rw [decide_eq_true h35, Bool.true_or]
        clear h35
        go_enter Tryd.func48, Tryd.ntmps48
        go_wp2_with (first | (go_at_call 71; refine (HT.out _).mono ?_; rintro e w2 ⟨rfl, hb2⟩) | (go_at_call 44; refine (HC.out _).mono ?_; rintro e w3 ⟨rfl, rfl⟩))
        go_ret
        exact ⟨rfl, hb2⟩
      · have t1 : ((n : Int) == 35) = false := beq_eq_false_iff_ne.2 (by omega)
        rw [decide_eq_false h35, Bool.false_or]
        clear h35
        by_cases h59 : n = 59
        · have t2 : ((n : Int) == 59) = true := by rw [h59]; rfl
          rw [decide_eq_true h59]
          clear h59
          go_enter Tryd.func48, Tryd.ntmps48
          go_wp2_with (first | (go_at_call 71; refine (HT.out _).mono ?_; rintro e w2 ⟨rfl, hb2⟩) | (go_at_call 44; refine (HC.out _).mono ?_; rintro e w3 ⟨rfl, rfl⟩))
          go_ret
          exact ⟨rfl, hb2⟩
        · have t2 : ((n : Int) == 59) = false := beq_eq_false_iff_ne.2 (by omega)
          rw [decide_eq_false h59]
          clear h59
          go_enter Tryd.func48, Tryd.ntmps48
          go_wp2_with (first | (go_at_call 71; refine (HT.out _).mono ?_; rintro e w2 ⟨rfl, hb2⟩) | (go_at_call 44; refine (HC.out _).mono ?_; rintro e w3 ⟨rfl, rfl⟩))
          go_ret
          exact ⟨rfl, hb2⟩
end Go.Proofs.YtekcmgajjbdmgabDoor
