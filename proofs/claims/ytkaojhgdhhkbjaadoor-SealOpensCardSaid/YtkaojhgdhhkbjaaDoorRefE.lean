/- The contract of the document's own Open. -/
import Derived.Test.YtkaojhgdhhkbjaaDoorRefD
import Derived.Test.YtkaojhgdhhkbjaaDoorSealC
import Derived.Test.YtkaojhgdhhkbjaaDoorLooseRef
namespace Go.Proofs.YtkaojhgdhhkbjaaDoor
open Go.RowKit
open Go.WideShapes (bytes_inj)

theorem rloose_as {s : ByteArray} {ps : List ByteArray} {k : Nat} (h : loose s = (ps, k)) (w : World) (hs : s.size ≤ maxLen) : Calls Tryd.prog 40 #[.string s] w (LoosePost (ps, k) w) := by
  rw [← h]; exact rloose_any s w hs
theorem lit_seal : ([115, 101, 97, 108] : List UInt8) = (⟨#[115, 101, 97, 108]⟩ : ByteArray).toList := by rw [ByteArray.toList_eq]
theorem extract_in (s : ByteArray) (m : Nat) : (s.extract 0 m).extract 4 m = s.extract 4 m := by
  apply bytes_inj
  rw [extract_list, extract_list, extract_list]
  simp [List.drop_take, List.take_take]

set_option maxHeartbeats 1600000 in
set_option maxRecDepth 100000 in
theorem ropen_any (s : ByteArray) (w : World) (hs : s.size ≤ 400000000) :
    Calls Tryd.prog 21 #[.string s] w (LoosePost (openF s) w) := by
  obtain ⟨i0, hi, hz0, hz1, hz2⟩ := info_parts Tryd.infoS
  by_cases h36 : s.size < 36
  · have hR : ([], 3) = openF s := by rw [openF, if_pos h36]
    have HR := Lib.hid hR
    clear hR
    go_enter Tryd.func21, Tryd.ntmps21
    go_wp2
    go_ret2
    exact loose_err HR.out (Below.refl _ _)
  obtain ⟨X4, hX4⟩ : ∃ X4, s.extract 0 4 = X4 := ⟨_, rfl⟩
  by_cases hpre : s.data.toList.take 4 = sealB
  case neg =>
    have hR : ([], 6) = openF s := by rw [openF, if_neg h36, if_neg hpre]
    have HR := Lib.hid hR
    have hpf : (X4.toList == ([115, 101, 97, 108] : List UInt8)) = false := by rw [lit_seal]; exact toList_eq_false (fun e => hpre ((seal_at (by omega)).1 (by rw [hX4]; exact e)))
    clear hR hpre
    go_enter Tryd.func21, Tryd.ntmps21
    go_wp2
    go_ret2
    exact loose_err HR.out (Below.refl _ _)
  have hpf : (X4.toList == ([115, 101, 97, 108] : List UInt8)) = true := by rw [lit_seal]; exact toList_eq_true (by rw [← hX4]; exact (seal_at (by omega)).2 hpre)
  obtain ⟨m, hm⟩ : ∃ m, m = s.size - 32 := ⟨_, rfl⟩
  have hm1 : IntKind.i64.wrap ((s.size : Int) - 32) = (m : Int) := by rw [IntWalk.i64_in _ (by omega)]; omega
  have hm2 : (s.size : Int) - 32 = (m : Int) := by omega
  have hm3 : m ≤ s.size := by omega
  have hm4 : (m : Int) ≤ (s.size : Int) := by omega
  have hm5 : 4 ≤ m := by omega
  obtain ⟨D, hD⟩ : ∃ D, s.extract 0 m = D := ⟨_, rfl⟩
  obtain ⟨U, hU⟩ : ∃ U, s.extract m s.size = U := ⟨_, rfl⟩
  obtain ⟨F, hF⟩ : ∃ F, D.extract 4 m = F := ⟨_, rfl⟩
  have hF3 : s.extract 4 m = F := by rw [← hF, ← hD]; exact (extract_in s m).symm
  have hDs : D.size = m := by rw [← hD]; simp; omega
  have hDl : D.data.toList = s.data.toList.take m := by rw [← hD, extract_list]; simp
  have hUl : U.data.toList = s.data.toList.drop m := by rw [← hU, extract_list, List.take_of_length_le (by simp)]
  have hFs : F.size ≤ m := by rw [← hF]; simp; omega
  have hsm := fun W => rsum_any D W (by omega)
  obtain ⟨S, hS⟩ : ∃ S : ByteArray, S = ⟨(shaL D.data.toList).toArray⟩ := ⟨_, rfl⟩
  have hSl : S.data.toList = shaL (s.data.toList.take m) := by rw [hS, hDl]
  rw [← hS] at hsm
  have HSM := Lib.hid hsm
  have hF2 : D.extract 4 D.size = F := by rw [hDs]; exact hF
  have hD4 : 4 ≤ D.size := by omega
  have hDi : (4 : Int) ≤ (D.size : Int) := by omega
  by_cases hsum : shaL (s.data.toList.take m) = s.data.toList.drop m
  case neg =>
    have hR : ([], 5) = openF s := by rw [openF, if_neg h36, if_pos hpre, ← hm, if_neg hsum]
    have HR := Lib.hid hR
    have hq := toList_eq_false (a := S) (b := U) (fun e => hsum (by rw [← hSl, e, hUl]))
    clear hR hpre hsum hSl hS hsm hDl hUl hF hDs hm
    go_enter Tryd.func21, Tryd.ntmps21
    go_wp2_with fail
    go_region_held3 (fun w' => True) (trivial)
      (first | (go_at_call 11; refine (HSM.out _).mono ?_; rintro e w3 ⟨rfl, hb3⟩))
    go_wp2
    go_ret2
    exact loose_err HR.out (bthen (below_drewN (Below.refl _ _) 1) hb3)
  have hq := toList_eq_true (a := S) (b := U) (bytes_inj (by rw [hSl, hUl, hsum]))
  obtain ⟨fs, k, hl⟩ : ∃ fs k, loose F = (fs, k) := ⟨_, _, rfl⟩
  have hR0 : openF s = openP (fs, k) := by rw [openF, if_neg h36, if_pos hpre, ← hm, if_pos hsum, hD, hF, hl]
  have hlo := fun W => rloose_as hl W (by unfold maxLen; omega)
  clear hpre hsum hSl hS hsm hDl hUl hF hDs hm
  by_cases hk : k = 0
  case neg =>
    have hps : fs = [] := by have := loose_nil (s := F) (by rw [hl]; exact hk); rw [hl] at this; exact this
    subst hps
    have hR : ([], k) = openF s := by rw [hR0, openP, if_neg hk]
    have HR := Lib.hid hR
    have HL := Lib.hid hlo
    have hk2 : ((k : Int) == 0) = false := by rw [beq_eq_false_iff_ne]; omega
    have hk3 : ((k : Int) != 0) = true := by rw [bne_iff_ne]; omega
    clear hR hR0 hlo hl hk
    go_enter Tryd.func21, Tryd.ntmps21
    go_wp2_with fail
    go_region_held3 (fun w' => True) (trivial)
      (first | (go_at_call 11; refine (HSM.out _).mono ?_; rintro e w3 ⟨rfl, hb3⟩))
    go_wp2_with (first
      | (go_at_call 40; refine (HL.out _).mono ?_; rintro e w4 ⟨a, c, rfl, hL, hb4⟩))
    go_ret2
    exact loose_err HR.out (bthen (bthen (below_drewN (Below.refl _ _) 1) hb3) hb4)
  subst hk
  by_cases h64 : fs.length ≤ 64
  case neg =>
    have h64' : 64 < fs.length := by omega
    have hR : ([], 2) = openF s := by rw [hR0, openP, if_pos rfl, if_neg h64]
    have HR := Lib.hid hR
    have HL := Lib.hid hlo
    clear hR hR0 hlo hl h64
    go_enter Tryd.func21, Tryd.ntmps21
    go_wp2_with fail
    go_region_held3 (fun w' => True) (trivial)
      (first | (go_at_call 11; refine (HSM.out _).mono ?_; rintro e w3 ⟨rfl, hb3⟩))
    go_wp2_with (first
      | (go_at_call 40; refine (HL.out _).mono ?_; rintro e w4 ⟨a, c, rfl, hL, hb4⟩))
    go_ret2
    exact loose_err HR.out (bthen (bthen (below_drewN (Below.refl _ _) 1) hb3) hb4)
  have hR : unfAll fs [] = openF s := by rw [hR0, openP, if_pos rfl, if_pos h64]
  have HR := Lib.hid hR
  have HL := Lib.hid hlo
  clear hR hR0 hlo hl
  go_enter Tryd.func21, Tryd.ntmps21
  go_wp2_with fail
  go_region_held3 (fun w' => True) (trivial)
    (first | (go_at_call 11; refine (HSM.out _).mono ?_; rintro e w3 ⟨rfl, hb3⟩))
  go_wp2_with (first
    | (go_at_call 40; refine (HL.out _).mono ?_; rintro e w4 ⟨a, c, rfl, hL, hb4⟩))
  have hB4 : Below w.heap.size w w4 := bthen (bthen (below_drewN (Below.refl _ _) 1) hb3) hb4
  have HLL := Lib.hid hL
  clear hb3 hb4 HSM HL hL hq
  go_loopw [7, 45] (fun v i wr => ∃ (k : Nat) (acc : List ByteArray), k ≤ fs.length ∧ i = .int .i64 k ∧ acc.length = k ∧ (∀ x ∈ acc, x.size ≤ 4096) ∧ unfAll (fs.drop k) acc = openF s ∧ wr.ownsRow w4.heap.size 9 1 v k (strsV acc) ∧ Below w4.heap.size w4 wr) (fun _ i _ => fs.length - (intOf i).toNat)
  case atStart => exact ⟨0, [], Nat.zero_le _, rfl, rfl, (fun x h => by cases h), HR.out, World.ownsRow_made w4 #[] 0 (Nat.le_refl _) (by unfold maxLen; omega) (by simp), (Below.refl _ _).alloc (Nat.le_refl _) _⟩
  case round =>
    obtain ⟨k, acc, hk, rfl, hal, has, hx, hown, hB⟩ := hrel
    have hLL := HLL.out.call hB
    by_cases hkl : k < fs.length
    · have hL2 := hLL
      obtain ⟨h1, h2, h3, h4⟩ := hL2
      obtain ⟨b, off, rfl, hb, hcell⟩ : ∃ b off, a = some ⟨b, off, none⟩ ∧ b < wr.heap.size ∧ ∀ i (h : i < fs.length), wr.cell? ⟨b, off + i, none⟩ = some (.string fs[i]) := by
        rcases h4 with rfl | h4
        · exact absurd hkl (by simp)
        · exact h4
      have hc := hcell k hkl
      have hfz := h3 fs[k] (List.getElem_mem _)
      rw [unfAll_step fs acc k hkl] at hx
      obtain ⟨f, hf⟩ : ∃ f, fs[k] = f := ⟨_, rfl⟩
      rw [hf] at hc hfz hx
      obtain ⟨ps, E, hl⟩ : ∃ ps E, loose f = (ps, E) := ⟨_, _, rfl⟩
      have hu : unf f = unfP ps f := by rw [unf, hl]
      have hus := unf_size f
      rw [hu] at hx hus
      have hlo := fun W => rloose_as hl W hfz
      have hfz' := hfz
      unfold maxLen at hfz' h2
      have HAS := Lib.hid has
      have HAL := Lib.hid hal
      have HL := Lib.hid hlo
      clear h3 h4 hcell hLL has hal hfz hl hu hf hlo
      by_cases hp2 : ps.length = 2
      case neg =>
        have hk2 : ((ps.length : Int) == 2) = false := by rw [beq_eq_false_iff_ne]; omega
        have hk3 : ((ps.length : Int) != 2) = true := by rw [bne_iff_ne]; omega
        have hu : unfP ps f = (⟨#[]⟩, 6) := by
          match ps, hp2 with
          | [], _ => rfl
          | [_], _ => rfl
          | [_, _], h => exact absurd rfl h
          | _ :: _ :: _ :: _, _ => rfl
        rw [hu] at hx
        have HX : Hid (([], 6) = openF s) := Lib.hid (by simpa using hx)
        clear hx hu hus hp2
        go_wp2_with (go_at_call 40; (with_reducible refine (HL.out _).mono ?_); rintro e w5 ⟨a5, c5, rfl, hL5, hb5⟩)
        go_ret2
        exact loose_err HX.out (bthen (bthen hB4 hB) hb5)
      obtain ⟨x, y, rfl⟩ : ∃ x y, ps = [x, y] := by
        match ps, hp2 with
        | [x, y], _ => exact ⟨x, y, rfl⟩
      clear hp2
      by_cases hy4 : y.size = 4
      case neg =>
        have hk2 : ((y.size : Int) == 4) = false := by rw [beq_eq_false_iff_ne]; omega
        have hk3 : ((y.size : Int) != 4) = true := by rw [bne_iff_ne]; omega
        have hu : unfP [x, y] f = (⟨#[]⟩, 6) := by simp only [unfP, if_neg hy4]
        rw [hu] at hx
        have HX : Hid (([], 6) = openF s) := Lib.hid (by simpa using hx)
        clear hx hu hus hy4
        go_wp2_with (go_at_call 40; (with_reducible refine (HL.out _).mono ?_); rintro e w5 ⟨a5, c5, rfl, hL5, hb5⟩; obtain ⟨b5, o5, rfl, hg5, c50, c51, h2c, hxs, hys⟩ := hL5.pair; unfold maxLen at hxs hys)
        go_ret2
        exact loose_err HX.out (bthen (bthen hB4 hB) hb5)
      have hk2 : ((y.size : Int) == 4) = true := by rw [beq_iff_eq]; omega
      have hk3 : ((y.size : Int) != 4) = false := by rw [bne, hk2]; rfl
      by_cases hx4 : x.size ≤ 4096
      case neg =>
        have hx5 : 4096 < x.size := by omega
        have hu : unfP [x, y] f = (⟨#[]⟩, 2) := by simp only [unfP, if_pos hy4, if_neg hx4]
        rw [hu] at hx
        have HX : Hid (([], 2) = openF s) := Lib.hid (by simpa using hx)
        clear hx hu hus hy4 hx4
        go_wp2_with (go_at_call 40; (with_reducible refine (HL.out _).mono ?_); rintro e w5 ⟨a5, c5, rfl, hL5, hb5⟩; obtain ⟨b5, o5, rfl, hg5, c50, c51, h2c, hxs, hys⟩ := hL5.pair; unfold maxLen at hxs hys)
        go_ret2
        exact loose_err HX.out (bthen (bthen hB4 hB) hb5)
      have hck := fun W => rcheck_any x W (by unfold maxLen; omega)
      have HCK := Lib.hid hck
      clear hck
      by_cases hcc : y = checkS x
      case neg =>
        have hq := toList_eq_false hcc
        have hu : unfP [x, y] f = (⟨#[]⟩, 4) := by simp only [unfP, if_pos hy4, if_pos hx4, if_neg hcc]
        rw [hu] at hx
        have HX : Hid (([], 4) = openF s) := Lib.hid (by simpa using hx)
        clear hx hu hus hy4 hcc
        generalize checkS x = C at *
        go_wp2_with (go_at_call 40; (with_reducible refine (HL.out _).mono ?_); rintro e w5 ⟨a5, c5, rfl, hL5, hb5⟩; obtain ⟨b5, o5, rfl, hg5, c50, c51, h2c, hxs, hys⟩ := hL5.pair; unfold maxLen at hxs hys)
        have c1d : w5.drew.cell? ⟨b5, o5, none⟩ = some (.string x) ∧ w5.drew.cell? ⟨b5, o5 + 1, none⟩ = some (.string y) := ⟨c50, c51⟩
        go_region_held3 (fun w' => w'.cell? ⟨b5, o5, none⟩ = some (.string x) ∧ w'.cell? ⟨b5, o5 + 1, none⟩ = some (.string y))
          (first | exact c1d | exact ⟨(Below.cell (by assumption) (p := ⟨b5, o5, none⟩) hg5).trans c1d.1, (Below.cell (by assumption) (p := ⟨b5, o5 + 1, none⟩) hg5).trans c1d.2⟩)
          (first | (go_at_call 26; (with_reducible refine (HCK.out _).mono ?_); rintro e w6 ⟨rfl, hb6⟩))
        go_wp2
        go_ret2
        exact loose_err HX.out (bthen (bthen (bthen hB4 hB) (below_drewN hb5 1)) hb6)
      have hq := toList_eq_true hcc
      have hp28 : ∀ s ∈ [x, y], s.size ≤ 8200 := fun s hs => by
        simp only [List.mem_cons, List.not_mem_nil, or_false] at hs
        rcases hs with rfl | rfl <;> omega
      obtain ⟨B, hBd⟩ : ∃ B : ByteArray, B = ⟨(bindL [x, y]).toArray⟩ := ⟨_, rfl⟩
      have hBl : B.data.toList = bindL [x, y] := by rw [hBd]
      have hbd : ∀ a c W, HasStrs W a c [x, y] → Calls Tryd.prog 25 #[.slice a 2 c] W fun e w' => e = .returned (.string B) ∧ Below W.heap.size W w' := fun a c W hw => by
        have := rbind_any a c [x, y] W hw (by simp) hp28
        rw [← hBd] at this
        exact this
      have HBD := Lib.hid hbd
      clear hbd hp28 hBd
      by_cases hfb : f.data.toList = bindL [x, y]
      case neg =>
        have hq2 : (B.toList == f.toList) = false := toList_eq_false (fun e => hfb (by rw [← e, hBl]))
        have hu : unfP [x, y] f = (⟨#[]⟩, 6) := by simp only [unfP, if_pos hy4, if_pos hx4, if_pos hcc, if_neg hfb]
        rw [hu] at hx
        have HX : Hid (([], 6) = openF s) := Lib.hid (by simpa using hx)
        clear hx hu hus hy4 hcc hfb hBl
        generalize checkS x = C at *
        go_wp2_with (go_at_call 40; (with_reducible refine (HL.out _).mono ?_); rintro e w5 ⟨a5, c5, rfl, hL5, hb5⟩; obtain ⟨b5, o5, rfl, hg5, c50, c51, h2c, hxs, hys⟩ := hL5.pair; unfold maxLen at hxs hys)
        have c1d : w5.drew.cell? ⟨b5, o5, none⟩ = some (.string x) ∧ w5.drew.cell? ⟨b5, o5 + 1, none⟩ = some (.string y) := ⟨c50, c51⟩
        go_region_held3 (fun w' => w'.cell? ⟨b5, o5, none⟩ = some (.string x) ∧ w'.cell? ⟨b5, o5 + 1, none⟩ = some (.string y))
          (first | exact c1d | exact ⟨(Below.cell (by assumption) (p := ⟨b5, o5, none⟩) hg5).trans c1d.1, (Below.cell (by assumption) (p := ⟨b5, o5 + 1, none⟩) hg5).trans c1d.2⟩)
          (first | (go_at_call 26; (with_reducible refine (HCK.out _).mono ?_); rintro e w6 ⟨rfl, hb6⟩))
        have hLd := hL5.drew
        go_wp2_with (go_at_call 25; (with_reducible refine (HBD.out _ _ _ (hLd.call hb6)).mono ?_); rintro e w7 ⟨rfl, hb7⟩)
        go_wp2
        go_ret2
        exact loose_err HX.out (bthen (bthen (bthen (bthen hB4 hB) (below_drewN hb5 1)) hb6) hb7)
      have hq2 : (B.toList == f.toList) = true := toList_eq_true (bytes_inj (by rw [hBl, hfb]))
      have hu : unfP [x, y] f = (x, 0) := by simp only [unfP, if_pos hy4, if_pos hx4, if_pos hcc, if_pos hfb]
      rw [hu] at hx hus
      have HX : Hid (unfAll (fs.drop (k + 1)) (acc ++ [x]) = openF s) := Lib.hid (by simpa using hx)
      clear hx hu hy4 hcc hfb hBl
      generalize checkS x = C at *
      go_wp2_with (go_at_call 40; (with_reducible refine (HL.out _).mono ?_); rintro e w5 ⟨a5, c5, rfl, hL5, hb5⟩; obtain ⟨b5, o5, rfl, hg5, c50, c51, h2c, hxs, hys⟩ := hL5.pair; unfold maxLen at hxs hys)
      have c1d : w5.drew.cell? ⟨b5, o5, none⟩ = some (.string x) ∧ w5.drew.cell? ⟨b5, o5 + 1, none⟩ = some (.string y) := ⟨c50, c51⟩
      go_region_held3 (fun w' => w'.cell? ⟨b5, o5, none⟩ = some (.string x) ∧ w'.cell? ⟨b5, o5 + 1, none⟩ = some (.string y))
        (first | exact c1d | exact ⟨(Below.cell (by assumption) (p := ⟨b5, o5, none⟩) hg5).trans c1d.1, (Below.cell (by assumption) (p := ⟨b5, o5 + 1, none⟩) hg5).trans c1d.2⟩)
        (first | (go_at_call 26; (with_reducible refine (HCK.out _).mono ?_); rintro e w6 ⟨rfl, hb6⟩))
      have hLd := hL5.drew
      go_wp2_with (first
        | (go_at_call 25; (with_reducible refine (HBD.out _ _ _ (hLd.call hb6)).mono ?_); rintro e w7 ⟨rfl, hb7⟩; have c70 := (hb7.cell (p := ⟨b5, o5, none⟩) (Nat.lt_of_lt_of_le hg5 hb6.size)).trans ((hb6.cell (p := ⟨b5, o5, none⟩) hg5).trans c1d.1); have hb8 : Below wr.heap.size wr w7 := bthen (bthen (below_drewN hb5 1) hb6) hb7; have hown7 := owns_call hown hb8; have hB7 := bthen hB hb8; have hs7 := hB7.size)
        | (at_builtin; refine wpList_push _ rfl _ _ 29 rfl w4.heap.size 9 i0 (.string ⟨#[]⟩) 16 Tryd.underlying29 hi hz0 hz1 hz2 rfl _ _ _ rfl hown7 _ rfl rfl ?c1 ?c2 ?c3 ?_))
      case c1 => unfold maxLen; omega
      case c2 => omega
      case c3 => exact hs7
      intro g c2 w8 hown8 hg8
      go_wp2
      go_roundw
      case rel => exact ⟨k + 1, acc ++ [x], by omega, by go_num, by simp [HAL.out], (fun z hz => by
        rcases List.mem_append.1 hz with hz | hz
        · exact HAS.out z hz
        · rw [List.mem_singleton] at hz; subst hz; exact hus), HX.out, by rw [← strsV_push]; exact hown8, hB7.grown hg8 hs7 (fun k hk => (hown7.lt k hk).1)⟩
      case measure => simp [intOf]; omega
    · have hkk : k = fs.length := by omega
      rw [hkk, List.drop_length, unfAll] at hx
      have hal2 : k = acc.length := hal.symm
      rw [hal2] at hown
      obtain ⟨a', c', rfl, hh⟩ := strs_of_own (w := wr) (base := w4.heap.size) (e := 9) hown (fun s hs => by have := has s hs; unfold maxLen; omega)
      have HH := Lib.hid hh
      have HX := Lib.hid hx
      clear hx hkk hal2 hal hh hown hLL has
      go_wp2
      go_ret2
      rw [← HX.out]
      exact ⟨a', c', rfl, HH.out, bthen hB4 hB⟩
end Go.Proofs.YtkaojhgdhhkbjaaDoor
