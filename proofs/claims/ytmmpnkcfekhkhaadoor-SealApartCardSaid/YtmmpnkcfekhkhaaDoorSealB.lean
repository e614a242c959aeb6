/- The contracts of package seal's unframe and Open. -/
import Derived.Test.YtmmpnkcfekhkhaaDoorSealA
import Derived.Test.YtmmpnkcfekhkhaaDoorLoose
import Derived.Deep.RegionHeld3
namespace Go.Proofs.YtmmpnkcfekhkhaaDoor
open Go.RowKit
open Go.WideShapes (bytes_inj)

theorem looseF_nil : ∀ (f : Nat) (s : ByteArray) (acc : List ByteArray), (looseF f s acc).2 ≠ 0 → (looseF f s acc).1 = []
  | 0, _, _, _ => rfl
  | f + 1, s, acc, h => by
    rw [looseF] at h ⊢
    split at h
    · exact absurd rfl h
    · rename_i h0
      rw [if_neg h0]
      split at h
      · rename_i h1; rw [if_pos h1]
      · rename_i h1
        rw [if_neg h1]
        split at h
        · rename_i h2; rw [if_pos h2]
        · rename_i h2
          rw [if_neg h2]
          split at h
          · rename_i h3; rw [if_pos h3]
          · rename_i h3
            rw [if_neg h3]
            exact looseF_nil f _ _ h
theorem loose_nil {s : ByteArray} (h : (loose s).2 ≠ 0) : (loose s).1 = [] := looseF_nil _ _ _ h
theorem loose_as {s : ByteArray} {ps : List ByteArray} {k : Nat} (h : loose s = (ps, k)) (w : World) (hs : s.size ≤ maxLen) : Calls Tryd.prog 38 #[.string s] w (LoosePost (ps, k) w) := by
  rw [← h]; exact loose_any s w hs
theorem toList_eq_true {a b : ByteArray} (h : a = b) : (a.toList == b.toList) = true := by rw [h]; simp
theorem toList_eq_false {a b : ByteArray} (h : a ≠ b) : (a.toList == b.toList) = false := by
  rw [beq_eq_false_iff_ne, ne_eq, ByteArray.toList_eq, ByteArray.toList_eq]
  intro e
  exact h (bytes_inj e)
theorem HasStrs.pair {w : World} {a : Option Addr} {c : Nat} {x y : ByteArray} (h : HasStrs w a c [x, y]) : ∃ b off, a = some ⟨b, off, none⟩ ∧ b < w.heap.size ∧ w.cell? ⟨b, off, none⟩ = some (.string x) ∧ w.cell? ⟨b, off + 1, none⟩ = some (.string y) ∧ 2 ≤ c ∧ x.size ≤ maxLen ∧ y.size ≤ maxLen := by
  obtain ⟨h1, h2, h3, h4⟩ := h
  rcases h4 with h4 | ⟨b, off, rfl, hb, hc⟩
  · cases h4
  · exact ⟨b, off, rfl, hb, hc 0 (by simp), hc 1 (by simp), h1, h3 x (by simp), h3 y (by simp)⟩

def UnfPost (R : ByteArray × Nat) (w : World) (e : Ending) (w' : World) : Prop := e = .returned (.tuple #[.string R.1, .int .i64 (R.2 : Int)]) ∧ Below w.heap.size w w'

set_option maxHeartbeats 1600000 in
set_option maxRecDepth 100000 in
theorem unframe_any (f : ByteArray) (w : World) (hf : f.size ≤ maxLen) :
    Calls Tryd.prog 39 #[.string f] w (UnfPost (unf f) w) := by
  obtain ⟨ps, k, hl⟩ : ∃ ps k, loose f = (ps, k) := ⟨_, _, rfl⟩
  have hu : unf f = unfP ps f := by rw [unf, hl]
  have hlo := fun W => loose_as hl W hf
  unfold maxLen at hf
  rw [hu]
  clear hu
  by_cases hk : k = 0
  case neg =>
    have hps : ps = [] := by have := loose_nil (s := f) (by rw [hl]; exact hk); rw [hl] at this; exact this
    subst hps
    have hk2 : ((k : Int) == 0) = false := by rw [beq_eq_false_iff_ne]; omega
    have hk3 : ((k : Int) != 0) = true := by rw [bne_iff_ne]; omega
    have HL := Lib.hid hlo
    clear hlo hl hk
    go_enter Tryd.func39, Tryd.ntmps39
    go_wp2_with (go_at_call 38; refine (HL.out _).mono ?_; rintro e w2 ⟨a, c, rfl, hL, hb2⟩)
    go_ret2
    exact ⟨rfl, hb2⟩
  subst hk
  by_cases h2 : ps.length = 2
  case neg =>
    have hk2 : ((ps.length : Int) == 2) = false := by rw [beq_eq_false_iff_ne]; omega
    have hk3 : ((ps.length : Int) != 2) = true := by rw [bne_iff_ne]; omega
    have hu : unfP ps f = (⟨#[]⟩, 6) := by
      match ps, h2 with
      | [], _ => rfl
      | [_], _ => rfl
      | [_, _], h => exact absurd rfl h
      | _ :: _ :: _ :: _, _ => rfl
    rw [hu]
    have HL := Lib.hid hlo
    clear hlo hl h2 hu
    go_enter Tryd.func39, Tryd.ntmps39
    go_wp2_with (go_at_call 38; refine (HL.out _).mono ?_; rintro e w2 ⟨a, c, rfl, hL, hb2⟩)
    go_ret2
    exact ⟨rfl, hb2⟩
  obtain ⟨x, y, rfl⟩ : ∃ x y, ps = [x, y] := by
    match ps, h2 with
    | [x, y], _ => exact ⟨x, y, rfl⟩
  have HL := Lib.hid hlo
  clear hlo hl h2
  by_cases h4 : y.size = 4
  case neg =>
    have hk2 : ((y.size : Int) == 4) = false := by rw [beq_eq_false_iff_ne]; omega
    have hu : unfP [x, y] f = (⟨#[]⟩, 6) := by simp only [unfP, if_neg h4]
    rw [hu]
    clear hu h4
    go_enter Tryd.func39, Tryd.ntmps39
    go_wp2_with (go_at_call 38; refine (HL.out _).mono ?_; rintro e w2 ⟨a, c, rfl, hL, hb2⟩; obtain ⟨b, off, rfl, hb, c0, c1, h2c, hxs, hys⟩ := hL.pair; unfold maxLen at hxs hys)
    go_ret2
    exact ⟨rfl, hb2⟩
  have hk2 : ((y.size : Int) == 4) = true := by rw [beq_iff_eq]; omega
  by_cases hx : x.size ≤ 4096
  case neg =>
    have hx' : 4096 < x.size := by omega
    have hu : unfP [x, y] f = (⟨#[]⟩, 2) := by simp only [unfP, if_pos h4, if_neg hx]
    rw [hu]
    clear hu h4 hx
    go_enter Tryd.func39, Tryd.ntmps39
    go_wp2_with (go_at_call 38; refine (HL.out _).mono ?_; rintro e w2 ⟨a, c, rfl, hL, hb2⟩; obtain ⟨b, off, rfl, hb, c0, c1, h2c, hxs, hys⟩ := hL.pair; unfold maxLen at hxs hys)
    go_ret2
    exact ⟨rfl, hb2⟩
  have hmb : mayB [x, y] = true := mayB_mk (by simp) (fun s hs => by
    simp only [List.mem_cons, List.not_mem_nil, or_false] at hs
    rcases hs with rfl | rfl <;> omega)
  have hck := fun W => check_any x W (by unfold maxLen; omega)
  have HCK := Lib.hid hck
  clear hck
  by_cases hc : y = checkS x
  case neg =>
    have hq := toList_eq_false hc
    have hu : unfP [x, y] f = (⟨#[]⟩, 4) := by simp only [unfP, if_pos h4, if_pos hx, if_neg hc]
    rw [hu]
    clear hu h4 hc
    generalize checkS x = C at *
    go_enter Tryd.func39, Tryd.ntmps39
    go_wp2_with (go_at_call 38; refine (HL.out _).mono ?_; rintro e w2 ⟨a, c, rfl, hL, hb2⟩; obtain ⟨b, off, rfl, hb, c0, c1, h2c, hxs, hys⟩ := hL.pair; unfold maxLen at hxs hys)
    have c1d : w2.drew.cell? ⟨b, off + 1, none⟩ = some (.string y) := c1
    go_region_held3 (fun w' => w'.cell? ⟨b, off + 1, none⟩ = some (.string y))
      (first | exact c1d | exact (Below.cell (by assumption) (p := ⟨b, off + 1, none⟩) hb).trans c1d)
      (first | (go_at_call 37; refine (HCK.out _).mono ?_; rintro e w3 ⟨rfl, hb3⟩))
    go_wp2
    go_ret2
    exact ⟨rfl, bthen (below_drewN hb2 1) hb3⟩
  have hq := toList_eq_true hc
  have hbd := fun a c W (hw : HasStrs W a c [x, y]) => bind_ok a c [x, y] W hw hmb
  obtain ⟨B, hB⟩ : ∃ B : ByteArray, B = ⟨(bindL [x, y]).toArray⟩ := ⟨_, rfl⟩
  rw [← hB] at hbd
  have hbd : ∀ a c W, HasStrs W a c [x, y] → Calls Tryd.prog 36 #[.slice a 2 c] W fun e w' => e = .returned (.tuple #[.string B, .int .i64 0]) ∧ Below W.heap.size W w' := hbd
  have HBD := Lib.hid hbd
  have hBl : B.data.toList = bindL [x, y] := by rw [hB]
  by_cases hfb : f.data.toList = bindL [x, y]
  all_goals
    first
      | (have hq2 : (B.toList == f.toList) = true := toList_eq_true (bytes_inj (by rw [hBl, hfb]))
         have hu : unfP [x, y] f = (x, 0) := by simp only [unfP, if_pos h4, if_pos hx, if_pos hc, if_pos hfb]
         rw [hu]
         clear hu)
      | (have hq2 : (B.toList == f.toList) = false := toList_eq_false (fun e => hfb (by rw [← e, hBl]))
         have hu : unfP [x, y] f = (⟨#[]⟩, 6) := by simp only [unfP, if_pos h4, if_pos hx, if_pos hc, if_neg hfb]
         rw [hu]
         clear hu)
    clear h4 hc hbd hB hBl hfb
    generalize checkS x = C at *
    go_enter Tryd.func39, Tryd.ntmps39
    go_wp2_with (go_at_call 38; refine (HL.out _).mono ?_; rintro e w2 ⟨a, c, rfl, hL, hb2⟩; obtain ⟨b, off, rfl, hb, c0, c1, h2c, hxs, hys⟩ := hL.pair; unfold maxLen at hxs hys)
    have c1d : w2.drew.cell? ⟨b, off + 1, none⟩ = some (.string y) := c1
    have hLd := hL.drew
    go_region_held3 (fun w' => w'.cell? ⟨b, off + 1, none⟩ = some (.string y))
      (first | exact c1d | exact (Below.cell (by assumption) (p := ⟨b, off + 1, none⟩) hb).trans c1d)
      (first | (go_at_call 37; refine (HCK.out _).mono ?_; rintro e w3 ⟨rfl, hb3⟩))
    go_wp2_with (go_at_call 36; refine (HBD.out _ _ _ (hLd.call hb3)).mono ?_; rintro e w4 ⟨rfl, hb4⟩)
    go_ret2
    exact ⟨rfl, bthen (bthen (below_drewN hb2 1) hb3) hb4⟩
end Go.Proofs.YtmmpnkcfekhkhaaDoor
