/- The contracts of the document's own Sign and Text of layer 4. -/
import Derived.Test.YtjkmnanadeffnaaDoorMatU
import Derived.Deep.RegionHeld3
namespace Go.Proofs.YtjkmnanadeffnaaDoor
open Go.RowKit Go.Maps

set_option maxHeartbeats 800000 in
theorem rSign_any (how : Int) (w : World) (h1 : 1 ≤ how) (h4 : how ≤ 4) : Calls Tryd.prog 41 #[.int .i64 how] w fun e w' => e = .returned (.string ⟨(signT how).toArray⟩) ∧ Below w.heap.size w w' := by
  have hc : how = 1 ∨ how = 2 ∨ how = 3 ∨ how = 4 := by omega
  rcases hc with rfl | rfl | rfl | rfl
  all_goals
    clear h1 h4
    go_enter Tryd.func41, Tryd.ntmps41
    go_wp2
    go_ret
    exact ⟨rfl, (Below.refl _ _).alloc (Nat.le_refl _) _⟩

theorem joinW_take (ws : List ByteArray) (k : Nat) (h : k < ws.length) : joinW (ws.take (k + 1)) = joinW (ws.take k) ++ ((if k = 0 then [] else [124]) ++ ws[k].data.toList) := by
  cases ws with
  | nil => simp at h
  | cons s r =>
    cases k with
    | zero => simp [joinW]
    | succ j =>
      have hj : j < r.length := by simpa using h
      have e : (s :: r)[j + 1] = r[j] := rfl
      rw [List.take_succ_cons, List.take_succ_cons, List.take_succ_eq_append_getElem hj, e, if_neg (by omega)]
      simp only [joinW, List.flatMap_append, List.flatMap_cons, List.flatMap_nil, List.append_nil, List.append_assoc, List.cons_append, List.nil_append]
theorem app_bytes (l : List UInt8) (s : ByteArray) : (⟨l.toArray⟩ ++ s : ByteArray) = ⟨(l ++ s.data.toList).toArray⟩ := by
  apply bytes_ext; simp [ByteArray.data_append]
def preT (m : Mat) : Bs := m.name.data.toList ++ signT m.how ++ [34]
theorem textM_pre (m : Mat) : textM m = (preT m ++ joinW m.words) ++ [34] := by simp [textM, preT]

set_option maxHeartbeats 3200000 in
set_option maxRecDepth 100000 in
theorem r4Text_any (v : Value) (m : Mat) (w : World) (h : HasMat w v m) (hr : rightM m = true) : Calls Tryd.prog 22 #[v] w fun e w' => e = .returned (.string ⟨(textM m).toArray⟩) ∧ Below w.heap.size w w' := by
  obtain ⟨a, c, rfl, hW, hs, hwf⟩ := h
  obtain ⟨q1, q2, q3, q4⟩ := right_words hr
  obtain ⟨_, k1, k4, _⟩ := (rightM_iff m).1 hr
  have h2 := hW.2.1
  unfold maxLen at h2
  have HSG := Lib.hid (fun W => rSign_any m.how W k1 k4)
  have hsg : (signT m.how).length ≤ 2 := by
    unfold signT
    rcases signC_cases m.how with ⟨_, e⟩ | ⟨_, e⟩ | ⟨_, e⟩ | ⟨_, e⟩ | ⟨_, e⟩ <;> rw [e] <;> simp
  have hTM := textM_pre m
  have hpre : (((m.name ++ ⟨(signT m.how).toArray⟩) ++ ⟨#[34]⟩ : ByteArray)) = ⟨(preT m).toArray⟩ := by
    apply bytes_ext; simp [preT, ByteArray.data_append]
  have hpl : (preT m).length ≤ 100 := by
    have e : m.name.data.toList.length = m.name.size := by simp
    simp only [preT, List.length_append, List.length_cons, List.length_nil]
    omega
  have hbx := Blk.new w 25 #[.string m.name, .int .i64 m.how, .slice a m.words.length c]
  have hb0 : Below w.heap.size w (w.alloc (.cells #[.string m.name, .int .i64 m.how, .slice a m.words.length c] 25)) := (Below.refl _ _).alloc (Nat.le_refl _) _
  have HW := Lib.hid (fun W (hb : Below w.heap.size w W) => hW.call hb)
  have HQ1 := Lib.hid q1
  have HJT := Lib.hid (fun k h => joinW_take m.words k h)
  have hjl : ∀ k, (joinW (m.words.take k)).length ≤ 600 := fun k => joinW_len _ (fun s hs => q1 s (List.mem_of_mem_take hs)) (by simp; omega)
  have HJL := Lib.hid hjl
  have HTM := Lib.hid hTM
  have HPRE := Lib.hid hpre
  clear hW hs hwf hr q1 hTM hpre k1 k4 hjl
  generalize preT m = P at *
  generalize (signT m.how) = T at *
  go_enter Tryd.func22, Tryd.ntmps22
  go_upto_region 1 with fail
  generalize w.alloc (.cells #[.string m.name, .int .i64 m.how, .slice a m.words.length c] 25) = wx at *
  have HK := Lib.hid hbx
  have HB0 := Lib.hid hb0
  have HKP := Lib.hid (fun W (h : Below wx.heap.size wx W) => (HK.out.call h).cells3)
  have p1 : ¬ 9223372036854775807 < m.name.size + T.length := by omega
  have p2 : ¬ 9223372036854775807 < m.name.size + T.length + 1 := by omega
  clear hbx hb0 hsg
  go_cut [3] (fun p wy => p = .string ⟨P.toArray⟩ ∧ Below wx.heap.size wx wy)
  case first =>
    go_region_held3 (fun w' => w'.cell? ⟨w.heap.size, 0, none⟩ = some (.string m.name) ∧ w'.cell? ⟨w.heap.size, 1, none⟩ = some (.int .i64 m.how) ∧ w'.cell? ⟨w.heap.size, 2, none⟩ = some (.slice a m.words.length c))
      (first | exact HKP.out _ (bthen (Below.refl _ _).drew hbs) | exact HKP.out _ (Below.refl _ _).drew)
      (first
      | (go_at_call 41; (with_reducible refine (HSG.out _).mono ?_); rintro e ws ⟨rfl, hbs⟩))
    all_goals
      go_wp2_with fail
      go_meet
      exact ⟨by rw [HPRE.out], bthen (Below.refl _ _).drew hbs⟩
  case rest =>
    obtain ⟨rfl, hbc⟩ := hcut
    obtain ⟨y0, y1, y2⟩ := HKP.out _ hbc
    have hbw := bthen HB0.out hbc
    have HBW := Lib.hid hbw
    obtain ⟨_, _, _, h4⟩ := HW.out _ hbw
    rcases h4 with h4 | ⟨b, off, rfl, _, hcell⟩
    · rw [h4] at q2; simp at q2
    clear hbw hbc HW HKP HB0 HK HPRE HSG p1 p2
    have HC := Lib.hid hcell
    clear hcell
    go_upto_region 3 with fail
    clear y0 y1 y2
    go_loop [3, 16] (fun o i => ∃ k : Nat, k ≤ m.words.length ∧ i = .int .i64 k ∧ o = .string ⟨(P ++ joinW (m.words.take k)).toArray⟩) (fun _ i => m.words.length - (intOf i).toNat)
    case atStart => exact ⟨0, Nat.zero_le _, rfl, by simp [joinW]⟩
    case round =>
      obtain ⟨k, hk, rfl, rfl⟩ := hrel
      have hjl := HJL.out k
      by_cases hkl : k < m.words.length
      · have hc := HC.out k hkl
        have hj := HJT.out k hkl
        have hsz := HQ1.out _ (List.getElem_mem hkl)
        generalize hX : m.words[k] = X at *
        clear hX
        by_cases hk0 : k = 0
        · subst hk0
          rw [if_pos rfl, List.nil_append] at hj
          simp only [Nat.add_zero] at hc
          have HJ : Hid (⟨(P ++ joinW (m.words.take 0)).toArray⟩ ++ X = (⟨(P ++ joinW (m.words.take (0 + 1))).toArray⟩ : ByteArray)) := Lib.hid (by rw [hj, app_bytes]; simp)
          have p1 : ¬ 9223372036854775807 < P.length + (joinW (m.words.take 0)).length + X.size := by omega
          clear hj hsz hjl
          generalize joinW (m.words.take 0) = J at *
          go_wp2
          go_round
          case rel => exact ⟨0 + 1, by omega, by go_num, by rw [HJ.out]⟩
          case measure => simp [intOf]; omega
        · rw [if_neg hk0] at hj
          have HJ : Hid (((⟨(P ++ joinW (m.words.take k)).toArray⟩ ++ ⟨#[124]⟩) ++ X : ByteArray) = (⟨(P ++ joinW (m.words.take (k + 1))).toArray⟩ : ByteArray)) := Lib.hid (by rw [hj]; apply bytes_ext; simp [ByteArray.data_append])
          have p1 : ¬ 9223372036854775807 < P.length + (joinW (m.words.take k)).length + 1 := by omega
          have p2 : ¬ 9223372036854775807 < P.length + (joinW (m.words.take k)).length + 1 + X.size := by omega
          have hk1 : 0 < k := by omega
          clear hj hsz hjl hk0
          generalize joinW (m.words.take k) = J at *
          go_wp2
          go_round
          case rel => exact ⟨k + 1, by omega, by go_num, by rw [HJ.out]⟩
          case measure => simp [intOf]; omega
      · obtain rfl : k = m.words.length := by omega
        have e : ((⟨(P ++ joinW (m.words.take m.words.length)).toArray⟩ ++ ⟨#[34]⟩ : ByteArray)) = ⟨(textM m).toArray⟩ := by
          rw [HTM.out, List.take_length]; apply bytes_ext; simp [ByteArray.data_append]
        have HE := Lib.hid e
        have p1 : ¬ 9223372036854775807 < P.length + (joinW (m.words.take m.words.length)).length + 1 := by omega
        clear e hjl
        generalize joinW (m.words.take m.words.length) = J at *
        go_wp2
        go_ret
        exact ⟨by rw [← HE.out]; rfl, HBW.out⟩
end Go.Proofs.YtjkmnanadeffnaaDoor
