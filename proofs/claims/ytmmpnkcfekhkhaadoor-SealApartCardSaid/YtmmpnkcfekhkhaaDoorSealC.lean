/- The contract of package seal's Open. -/
import Derived.Test.YtmmpnkcfekhkhaaDoorSealB
namespace Go.Proofs.YtmmpnkcfekhkhaaDoor
open Go.RowKit
open Go.WideShapes (bytes_inj)

set_option maxHeartbeats 800000 in
set_option maxRecDepth 100000 in
theorem lite_prefix (s p : ByteArray) (B : Bool) (w : World) (hs : s.size ≤ maxLen) (hp : p.size ≤ s.size) (hB : ((s.extract 0 p.size).toList == p.toList) = B) :
    Calls Tryd.prog 44 #[.string s, .string p] w fun e w' => e = .returned (.bool B) ∧ w = w' := by
  unfold maxLen at hs
  have hpi : (p.size : Int) ≤ (s.size : Int) := by omega
  have hsl : ¬ (s.size : Int) < (p.size : Int) := by omega
  cases B
  all_goals
    go_enter Tryd.func44, Tryd.ntmps44
    go_wp2
    go_ret
    exact ⟨rfl, rfl⟩
theorem prefix_any (s p : ByteArray) (B : Bool) (w : World) (hs : s.size ≤ maxLen) (hp : p.size ≤ s.size) (hB : ((s.extract 0 p.size).toList == p.toList) = B) :
    Calls Tryd.prog 28 #[.string s, .string p] w fun e w' => e = .returned (.bool B) ∧ w = w' := by
  have h := fun W => lite_prefix s p B W hs hp hB
  have H := Lib.hid h
  clear h hB
  go_enter Tryd.func28, Tryd.ntmps28
  go_wp2_with ((with_reducible refine (H.out _).mono ?_); rintro e w2 ⟨rfl, rfl⟩)
  go_ret
  exact ⟨rfl, rfl⟩

theorem Tabs.drewN {w : World} (h : Tabs w) (n : Nat) : Tabs (w.drewN n) := h
theorem unf_size (f : ByteArray) : (unf f).1.size ≤ 4096 := by
  unfold unf
  match (loose f).1 with
  | [] => exact Nat.zero_le _
  | [_] => exact Nat.zero_le _
  | [x, y] =>
    simp only [unfP]
    split
    · split
      · rename_i h
        split
        · split
          · exact h
          · exact Nat.zero_le _
        · exact Nat.zero_le _
      · exact Nat.zero_le _
    · exact Nat.zero_le _
  | _ :: _ :: _ :: _ => exact Nat.zero_le _

theorem unfAll_step (fs acc : List ByteArray) (k : Nat) (hk : k < fs.length) : unfAll (fs.drop k) acc = if (unf fs[k]).2 = 0 then unfAll (fs.drop (k + 1)) (acc ++ [(unf fs[k]).1]) else ([], (unf fs[k]).2) := by
  rw [List.drop_eq_getElem_cons hk, unfAll]

theorem seal_at {s : ByteArray} (h : 4 ≤ s.size) : (s.extract 0 4 = (⟨#[115, 101, 97, 108]⟩ : ByteArray)) ↔ s.data.toList.take 4 = sealB := by
  constructor
  · intro e
    have := congrArg (fun x : ByteArray => x.data.toList) e
    simp only [extract_list] at this
    simpa [sealB] using this
  · intro e
    refine bytes_inj ?_
    rw [extract_list]
    simpa [sealB] using e

set_option maxHeartbeats 1600000 in
set_option maxRecDepth 100000 in
theorem open_any (s : ByteArray) (w : World) (hs : s.size ≤ 400000000) (hT : Tabs w) :
    Calls Tryd.prog 20 #[.string s] w (LoosePost (openF s) w) := by
  obtain ⟨i0, hi, hz0, hz1, hz2⟩ := info_parts Tryd.infoS
  by_cases h36 : s.size < 36
  · have hR : ([], 3) = openF s := by rw [openF, if_pos h36]
    have HR := Lib.hid hR
    clear hR
    go_enter Tryd.func20, Tryd.ntmps20
    go_wp2
    go_ret2
    exact loose_err HR.out (Below.refl _ _)
  have HT := Lib.hid hT
  by_cases hpre : s.data.toList.take 4 = sealB
  case neg =>
    have hR : ([], 6) = openF s := by rw [openF, if_neg h36, if_neg hpre]
    have HR := Lib.hid hR
    have hpf := fun W => prefix_any s ⟨#[115, 101, 97, 108]⟩ false W (by unfold maxLen; omega) (by show 4 ≤ _; omega) (toList_eq_false (fun e => hpre ((seal_at (by omega)).1 e)))
    have HP := Lib.hid hpf
    clear hR hpf hpre
    go_enter Tryd.func20, Tryd.ntmps20
    go_wp2_with ((with_reducible refine (HP.out _).mono ?_); rintro e w2 ⟨rfl, rfl⟩)
    go_ret2
    exact loose_err HR.out (Below.refl _ _)
  have hpf := fun W => prefix_any s ⟨#[115, 101, 97, 108]⟩ true W (by unfold maxLen; omega) (by show 4 ≤ _; omega) (toList_eq_true ((seal_at (by omega)).2 hpre))
  have HP := Lib.hid hpf
  obtain ⟨m, hm⟩ : ∃ m, m = s.size - 32 := ⟨_, rfl⟩
  have hm1 : IntKind.i64.wrap ((s.size : Int) - 32) = (m : Int) := by rw [IntWalk.i64_in _ (by omega)]; omega
  have hm2 : (s.size : Int) - 32 = (m : Int) := by omega
  have hm3 : m ≤ s.size := by omega
  have hm4 : (m : Int) ≤ (s.size : Int) := by omega
  have hm5 : 4 ≤ m := by omega
  obtain ⟨D, hD⟩ : ∃ D, s.extract 0 m = D := ⟨_, rfl⟩
  obtain ⟨U, hU⟩ : ∃ U, s.extract m s.size = U := ⟨_, rfl⟩
  obtain ⟨F, hF⟩ : ∃ F, D.extract 4 m = F := ⟨_, rfl⟩
  have hDs : D.size = m := by rw [← hD]; simp; omega
  have hDl : D.data.toList = s.data.toList.take m := by rw [← hD, extract_list]; simp
  have hUl : U.data.toList = s.data.toList.drop m := by rw [← hU, extract_list, List.take_of_length_le (by simp)]
  have hFs : F.size ≤ m := by rw [← hF]; simp; omega
  have hsm := fun W hW => sum_any D W (by omega) hW
  obtain ⟨S, hS⟩ : ∃ S : ByteArray, S = ⟨(shaL D.data.toList).toArray⟩ := ⟨_, rfl⟩
  have hSl : S.data.toList = shaL (s.data.toList.take m) := by rw [hS, hDl]
  rw [← hS] at hsm
  have HSM := Lib.hid hsm
  have hF2 : D.extract 4 D.size = F := by rw [hDs]; exact hF
  have hD4 : 4 ≤ D.size := by omega
  have hDi : (4 : Int) ≤ (D.size : Int) := by omega
  by_cases hsum : shaL (s.data.toList.take m) = s.data.toList.drop m
  case neg =>
    have hR : ([], 5) = openF s := by rw [openF, if_neg h36, if_pos hpre, ← hm, if_neg hsum]
    have HR := Lib.hid hR
    have hq := toList_eq_false (a := S) (b := U) (fun e => hsum (by rw [← hSl, e, hUl]))
    clear hR hpf hpre hsum hSl hS hsm hDl hUl hF hDs hm
    go_enter Tryd.func20, Tryd.ntmps20
    go_wp2_with ((with_reducible refine (HP.out _).mono ?_); rintro e w2 ⟨rfl, rfl⟩)
    go_quiet (fail)
    go_wp2_with (go_at_call 10; refine (HSM.out _ (Tabs.drewN HT.out _)).mono ?_; rintro e w3 ⟨rfl, hb3⟩)
    go_ret2
    exact loose_err HR.out (bthen (below_drewN (Below.refl _ _) _) hb3)
  have hq := toList_eq_true (a := S) (b := U) (bytes_inj (by rw [hSl, hUl, hsum]))
  obtain ⟨fs, k, hl⟩ : ∃ fs k, loose F = (fs, k) := ⟨_, _, rfl⟩
  have hR0 : openF s = openP (fs, k) := by rw [openF, if_neg h36, if_pos hpre, ← hm, if_pos hsum, hD, hF, hl]
  have hlo := fun W => loose_as hl W (by unfold maxLen; omega)
  clear hpf hpre hsum hSl hS hsm hDl hUl hF hDs hm
  by_cases hk : k = 0
  case neg =>
    have hps : fs = [] := by have := loose_nil (s := F) (by rw [hl]; exact hk); rw [hl] at this; exact this
    subst hps
    have hR : ([], k) = openF s := by rw [hR0, openP, if_neg hk]
    have HR := Lib.hid hR
    have HL := Lib.hid hlo
    have hk2 : ((k : Int) == 0) = false := by rw [beq_eq_false_iff_ne]; omega
    have hk3 : ((k : Int) != 0) = true := by rw [bne_iff_ne]; omega
    clear hR hR0 hlo hl hk
    go_enter Tryd.func20, Tryd.ntmps20
    go_wp2_with ((with_reducible refine (HP.out _).mono ?_); rintro e w2 ⟨rfl, rfl⟩)
    go_quiet (fail)
    go_wp2_with (first
      | (go_at_call 10; refine (HSM.out _ (Tabs.drewN HT.out _)).mono ?_; rintro e w3 ⟨rfl, hb3⟩)
      | (go_at_call 38; refine (HL.out _).mono ?_; rintro e w4 ⟨a, c, rfl, hL, hb4⟩))
    go_ret2
    exact loose_err HR.out (bthen (bthen (below_drewN (Below.refl _ _) _) hb3) hb4)
  subst hk
  by_cases h64 : fs.length ≤ 64
  case neg =>
    have h64' : 64 < fs.length := by omega
    have hR : ([], 2) = openF s := by rw [hR0, openP, if_pos rfl, if_neg h64]
    have HR := Lib.hid hR
    have HL := Lib.hid hlo
    clear hR hR0 hlo hl h64
    go_enter Tryd.func20, Tryd.ntmps20
    go_wp2_with ((with_reducible refine (HP.out _).mono ?_); rintro e w2 ⟨rfl, rfl⟩)
    go_quiet (fail)
    go_wp2_with (first
      | (go_at_call 10; refine (HSM.out _ (Tabs.drewN HT.out _)).mono ?_; rintro e w3 ⟨rfl, hb3⟩)
      | (go_at_call 38; refine (HL.out _).mono ?_; rintro e w4 ⟨a, c, rfl, hL, hb4⟩))
    go_ret2
    exact loose_err HR.out (bthen (bthen (below_drewN (Below.refl _ _) _) hb3) hb4)
  have hR : unfAll fs [] = openF s := by rw [hR0, openP, if_pos rfl, if_pos h64]
  have HR := Lib.hid hR
  have HL := Lib.hid hlo
  clear hR hR0 hlo hl
  go_enter Tryd.func20, Tryd.ntmps20
  go_wp2_with ((with_reducible refine (HP.out _).mono ?_); rintro e w2 ⟨rfl, rfl⟩)
  go_quiet (fail)
  go_wp2_with (first
    | (go_at_call 10; refine (HSM.out _ (Tabs.drewN HT.out _)).mono ?_; rintro e w3 ⟨rfl, hb3⟩)
    | (go_at_call 38; refine (HL.out _).mono ?_; rintro e w4 ⟨a, c, rfl, hL, hb4⟩))
  have hB4 : Below w.heap.size w w4 := bthen (bthen (below_drewN (Below.refl _ _) _) hb3) hb4
  have HLL := Lib.hid hL
  clear hb3 hb4 HSM HP HL hL hq
  go_loopw [8, 47] (fun v i wr => ∃ (k : Nat) (acc : List ByteArray), k ≤ fs.length ∧ i = .int .i64 k ∧ acc.length = k ∧ (∀ x ∈ acc, x.size ≤ 4096) ∧ unfAll (fs.drop k) acc = openF s ∧ wr.ownsRow w4.heap.size 9 1 v k (strsV acc) ∧ Below w4.heap.size w4 wr) (fun _ i _ => fs.length - (intOf i).toNat)
  case atStart => exact ⟨0, [], Nat.zero_le _, rfl, rfl, (fun x h => by cases h), HR.out, World.ownsRow_nil _ _ _ _, Below.refl _ _⟩
  case round =>
    obtain ⟨k, acc, hk, rfl, hal, has, hx, hown, hB⟩ := hrel
    have hLL := HLL.out.call hB
    by_cases hkl : k < fs.length
    · have hL2 := hLL
      obtain ⟨h1, h2, h3, h4⟩ := hL2
      obtain ⟨b, off, rfl, hb, hcell⟩ : ∃ b off, a = some ⟨b, off, none⟩ ∧ b < wr.heap.size ∧ ∀ i (h : i < fs.length), wr.cell? ⟨b, off + i, none⟩ = some (.string fs[i]) := by
        rcases h4 with rfl | h4
        · exact absurd hkl (by simp)
        · exact h4
      have hc := hcell k hkl
      have hfz := h3 fs[k] (List.getElem_mem _)
      have huf := fun W => unframe_any fs[k] W hfz
      have hus := unf_size fs[k]
      rw [unfAll_step fs acc k hkl] at hx
      have hfz' := hfz
      unfold maxLen at hfz' h2
      have HU := Lib.hid huf
      have HAS := Lib.hid has
      have HAL := Lib.hid hal
      clear h3 h4 hcell huf hLL has hal hfz
      obtain ⟨X, E, hXE⟩ : ∃ X E, unf fs[k] = (X, E) := ⟨_, _, rfl⟩
      rw [hXE] at hx hus HU
      clear hXE
      simp only [] at hx hus
      by_cases hE : E = 0
      · subst hE
        rw [if_pos rfl] at hx
        have HX := Lib.hid hx
        clear hx
        go_wp2_with (first
          | (go_at_call 39; refine (HU.out _).mono ?_; rintro e w5 ⟨rfl, hb5⟩; have hown5 := owns_call hown hb5; have hB5 := bthen hB hb5; have hs5 := hB5.size)
          | (at_builtin; refine wpList_push _ rfl _ _ 29 rfl w4.heap.size 9 i0 (.string ⟨#[]⟩) 16 Tryd.underlying29 hi hz0 hz1 hz2 rfl _ _ _ rfl hown5 _ rfl rfl ?c1 ?c2 ?c3 ?_))
        case c1 => unfold maxLen; omega
        case c2 => omega
        case c3 => exact hs5
        intro g c2 w6 hown6 hg6
        go_wp2
        go_roundw
        case rel => exact ⟨k + 1, acc ++ [X], by omega, by go_num, by simp [HAL.out], (fun x hx => by
          rcases List.mem_append.1 hx with hx | hx
          · exact HAS.out x hx
          · rw [List.mem_singleton] at hx; subst hx; exact hus), HX.out, by rw [← strsV_push]; exact hown6, hB5.grown hg6 hs5 (fun k hk => (hown5.lt k hk).1)⟩
        case measure => simp [intOf]; omega
      · rw [if_neg hE] at hx
        have HX := Lib.hid hx
        have hk2 : ((E : Int) == 0) = false := by rw [beq_eq_false_iff_ne]; omega
        have hk3 : ((E : Int) != 0) = true := by rw [bne_iff_ne]; omega
        clear hx hE
        go_wp2_with (go_at_call 39; refine (HU.out _).mono ?_; rintro e w5 ⟨rfl, hb5⟩)
        go_ret2
        exact loose_err HX.out (bthen (bthen hB4 hB) hb5)
    · have hkk : k = fs.length := by omega
      rw [hkk, List.drop_length, unfAll] at hx
      have hal2 : k = acc.length := hal.symm
      rw [hal2] at hown
      obtain ⟨a', c', rfl, hh⟩ := strs_of_own (w := wr) (base := w4.heap.size) (e := 9) hown (fun s hs => by have := has s hs; unfold maxLen; omega)
      have HH := Lib.hid hh
      have HX := Lib.hid hx
      clear hx hkk hal2 hal hh hown hLL has
      go_wp2
      go_ret2
      rw [← HX.out]
      exact ⟨a', c', rfl, HH.out, bthen hB4 hB⟩
end Go.Proofs.YtmmpnkcfekhkhaaDoor
