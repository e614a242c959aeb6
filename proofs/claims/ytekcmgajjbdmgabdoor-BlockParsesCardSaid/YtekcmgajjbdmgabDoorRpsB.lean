/- The contract of the document's own Key of layer 6. -/
import Derived.Test.YtekcmgajjbdmgabDoorRpsN
import Derived.Test.YtekcmgajjbdmgabDoorRpsA
import Derived.Test.YtekcmgajjbdmgabDoorPrsI
import Derived.Test.YtekcmgajjbdmgabDoorBlkN
import Derived.RegionTactic
import Derived.BigRegion
namespace Go.Proofs.YtekcmgajjbdmgabDoor
open Go.RowKit

def KeyP (o : Option (Bs × Bs)) (w : World) (e : Ending) (w' : World) : Prop := Below w.heap.size w w' ∧ match o with | none => e = .returned (.slice none 0 0) | some kv => ∃ b, w.heap.size ≤ b ∧ e = .returned (.slice (some ⟨b, 0, none⟩) 2 2) ∧ HasStrs w' (some ⟨b, 0, none⟩) 2 [bytesA kv.1, bytesA kv.2]
theorem keyP_none (w : World) (e : Ending) (w' : World) (h : e = .returned (.slice none 0 0)) (hb : Below w.heap.size w w') : KeyP none w e w' := ⟨hb, h⟩

theorem key_cutB (s : ByteArray) : (∀ i (h : i < s.size), 1 ≤ i → s[i].toNat ≠ 9) ∧ keyL s.data.toList = none ∨ ∃ j, ∃ hj : j < s.size, 1 ≤ j ∧ s[j].toNat = 9 ∧ (∀ i (h : i < j), 1 ≤ i → (s[i]'(Nat.lt_trans h hj)).toNat ≠ 9) ∧
    keyL s.data.toList = if (s[0]'(by omega)).toNat = 9 ∧ bwC (s.extract 1 j).data.toList = true ∧ bvC (s.extract (j + 1) s.size).data.toList = true then some ((s.extract 1 j).data.toList, (s.extract (j + 1) s.size).data.toList) else none := by
  have hl := lenB s
  have n9 : ∀ c : UInt8, c ≠ 9 → c.toNat ≠ 9 := fun c h e => h (UInt8.toNat_inj.1 e)
  rcases key_cut s.data.toList with ⟨a1, a2⟩ | ⟨j, hj, h1, h2, h3, h4⟩
  · exact .inl ⟨fun i h hi => n9 _ (a1 i (by rw [hl]; exact h) hi), a2⟩
  · have hjs : j < s.size := by rw [← hl]; exact hj
    have dK : (s.extract 1 j).data.toList = (s.data.toList.drop 1).take (j - 1) := by simp [ByteArray.data_extract]
    have dV : (s.extract (j + 1) s.size).data.toList = s.data.toList.drop (j + 1) := by
      simp [ByteArray.data_extract]
      rw [List.take_of_length_le (by rw [List.length_drop, hl]; omega)]
    refine .inr ⟨j, hjs, h1, ?_, fun i h hi => n9 _ (h3 i h hi), ?_⟩
    · have : s[j] = 9 := h2
      rw [this]; rfl
    · rw [h4, dK, dV]
      have e0 : (s.data.toList[0]'(by omega) = 9) = ((s[0]'(by omega)).toNat = 9) := by
        apply propext
        exact ⟨fun e => by rw [show s[0]'(by omega) = 9 from e]; rfl, fun e => UInt8.toNat_inj.1 e⟩
      simp only [e0]

set_option maxHeartbeats 1600000 in
theorem rKey_any (s : ByteArray) (w : World) (hs : s.size ≤ 9000) : Calls Tryd.prog 50 #[.string s] w (KeyP (keyL s.data.toList) w) := by
  rcases key_cutB s with ⟨h1, h2⟩ | ⟨j, hj, hj1, h9, h3, h4⟩
  · have HA := Lib.hid h1
    rw [h2]
    clear h1 h2
    go_enter Tryd.func50, Tryd.ntmps50
    go_wp2_with fail
    go_loop [3, 4] (fun i _ => ∃ k : Nat, 1 ≤ k ∧ (k ≤ s.size ∨ k = 1) ∧ i = .int .i64 k) (fun i _ => s.size - (intOf i).toNat)
    case atStart => exact ⟨1, Nat.le_refl _, .inr rfl, rfl⟩
    case round =>
      obtain ⟨k, hk1, hk, rfl⟩ := hrel
      by_cases hkl : k < s.size
      · have hw := HA.out k hkl hk1
        obtain ⟨n, hn⟩ : ∃ n, s[k].toNat = n := ⟨_, rfl⟩
        rw [hn] at hw
        have f1 : ((n : Int) == 9) = false := by rw [beq_eq_false_iff_ne]; omega
        clear hw hk
        go_wp2_with fail
        go_round
        case rel => exact ⟨k + 1, by omega, .inl (by omega), by go_num⟩
        case measure => simp [intOf]; omega
      · clear hk
        go_wp2_with fail
        go_ret
        exact keyP_none _ _ _ rfl (Below.refl _ _)
  · have hK : ∀ W, (Instr.slice 9 (.string s) (some (.int .i64 1)) (some (.int .i64 (j : Int))) none).run Tryd.prog W = .ok (.string (s.extract 1 j)) W := fun W => run_sliceMid W 9 s 1 j Tryd.underlying9 hj1 (by omega)
    have hV : ∀ W, (Instr.slice 9 (.string s) (some (.int .i64 ((j : Int) + 1))) none none).run Tryd.prog W = .ok (.string (s.extract (j + 1) s.size)) W := fun W => run_sliceFrom W 9 s (j + 1) Tryd.underlying9 (by omega)
    have sK : (s.extract 1 j).size ≤ 9000 := by simp; omega
    have sV : (s.extract (j + 1) s.size).size ≤ 9000 := by simp; omega
    generalize s.extract 1 j = K at *
    generalize s.extract (j + 1) s.size = V at *
    have HW := Lib.hid (fun W => rbWord_any K W (by unfold maxLen; omega))
    have HV := Lib.hid (fun W => rbValue_any V W (by unfold maxLen; omega))
    have HH := Lib.hid (fun W : World => hasStrs_row W [K, V] 9 (fun x hx => by
      have : x = K ∨ x = V := by simpa using hx
      rcases this with rfl | rfl <;> (unfold maxLen; omega)) (by show 2 ≤ maxLen; decide))
    have HA := Lib.hid h3
    have HQ := Lib.hid h4
    have h0 : 0 < s.size := by omega
    obtain ⟨c0, hc0⟩ : ∃ c0, (s[0]'h0).toNat = c0 := ⟨_, rfl⟩
    have HQ2 : Hid (keyL s.data.toList = if c0 = 9 ∧ bwC K.data.toList = true ∧ bvC V.data.toList = true then some (K.data.toList, V.data.toList) else none) := Lib.hid (by rw [← hc0]; exact HQ.out)
    clear h3 h4 HQ sK sV
    have HJ := Lib.hid hj1
    obtain ⟨o, ho⟩ : ∃ o, keyL s.data.toList = o := ⟨_, rfl⟩
    rw [ho] at HQ2
    rw [ho]
    clear ho hj1
    go_enter Tryd.func50, Tryd.ntmps50
    go_wp2_with fail
    go_loop [3, 4] (fun i _ => ∃ k : Nat, 1 ≤ k ∧ k ≤ j ∧ i = .int .i64 k) (fun i _ => s.size - (intOf i).toNat)
    case atStart => exact ⟨1, Nat.le_refl _, HJ.out, rfl⟩
    case round =>
      obtain ⟨k, hk1, hk, rfl⟩ := hrel
      by_cases hkl : k = j
      · subst hkl
        clear hk
        have hwj : IntKind.i64.wrap ((k : Int) + 1) = (k : Int) + 1 := IntWalk.i64_in _ (by omega)
        by_cases e0 : c0 = 9
        case neg =>
          have f0 : ((c0 : Int) != 9) = true := by rw [bne_iff_ne]; omega
          have ho : o = none := by rw [HQ2.out, if_neg (fun h => e0 h.1)]
          rw [ho]
          clear e0 ho hK hV
          go_wp2_with fail
          go_ret
          exact keyP_none _ _ _ rfl (Below.refl _ _)
        have f0 : ((c0 : Int) != 9) = false := by rw [e0]; rfl
        cases hB : bwC K.data.toList with
        | false =>
          have ho : o = none := by rw [HQ2.out, if_neg (fun h => by rw [hB] at h; cases h.2.1)]
          rw [hB] at HW
          rw [ho]
          clear ho e0 hB
          go_wp2_with (go_at_call 39; (with_reducible refine (HW.out _).mono ?_); rintro e w2 ⟨rfl, rfl⟩)
          go_ret
          exact keyP_none _ _ _ rfl (Below.refl _ _)
        | true =>
        cases hC : bvC V.data.toList with
        | false =>
          have ho : o = none := by rw [HQ2.out, if_neg (fun h => by rw [hC] at h; cases h.2.2)]
          rw [hB] at HW
          rw [hC] at HV
          rw [ho]
          clear ho e0 hB hC
          go_wp2_with (first
            | (go_at_call 39; (with_reducible refine (HW.out _).mono ?_); rintro e w2 ⟨rfl, rfl⟩)
            | (go_at_call 72; (with_reducible refine (HV.out _).mono ?_); rintro e w3 ⟨rfl, rfl⟩))
          go_ret
          exact keyP_none _ _ _ rfl (Below.refl _ _)
        | true =>
          have ho : o = some (K.data.toList, V.data.toList) := by rw [HQ2.out, if_pos ⟨e0, hB, hC⟩]
          rw [hB] at HW
          rw [hC] at HV
          have HO := Lib.hid ho
          clear ho e0 hB hC
          go_wp2_with (first
            | (go_at_call 39; (with_reducible refine (HW.out _).mono ?_); rintro e w2 ⟨rfl, rfl⟩)
            | (go_at_call 72; (with_reducible refine (HV.out _).mono ?_); rintro e w3 ⟨rfl, rfl⟩))
          go_region
          all_goals
            go_wp2_with fail
            go_ret
            rw [HO.out]
            exact ⟨(Below.refl _ _).drew.alloc (Nat.le_refl _) _, _, (by exact Nat.le_refl _), rfl, by rw [bytesA_ofT, bytesA_ofT]; exact HH.out _⟩
      · have hkj : k < j := by omega
        have hks : k < s.size := by omega
        have hw := HA.out k hkj hk1
        obtain ⟨n, hn⟩ : ∃ n, s[k].toNat = n := ⟨_, rfl⟩
        rw [hn] at hw
        have f1 : ((n : Int) == 9) = false := by rw [beq_eq_false_iff_ne]; omega
        clear hw
        go_wp2_with fail
        go_round
        case rel => exact ⟨k + 1, by omega, by omega, by go_num⟩
        case measure => simp [intOf]; omega
end Go.Proofs.YtekcmgajjbdmgabDoor
