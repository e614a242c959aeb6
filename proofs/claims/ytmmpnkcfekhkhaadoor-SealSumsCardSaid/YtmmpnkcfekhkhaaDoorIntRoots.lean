/- The contracts of the document's own Roots and Same. -/
import Derived.Test.YtmmpnkcfekhkhaaDoorIntR3
import Derived.Test.YtmmpnkcfekhkhaaDoorIntK
import Derived.Test.YtmmpnkcfekhkhaaDoorAppQ
import Derived.Deep.QuietTactic
import Derived.BigQuiet
namespace Go.Proofs.YtmmpnkcfekhkhaaDoor
open Go.RowKit

theorem rootF_lt (p n : Nat) : rootF p n < 4294967296 := Nat.mod_lt _ (by omega)

set_option maxHeartbeats 1600000 in
set_option maxRecDepth 100000 in
theorem roots_any (m J n : Nat) (L : List Nat) (w : World) (hJ : 0 < J) (hJ4 : J ≤ 400) (h1 : (primAt (J - 1)).1.length < m) (hL : (primAt J).1 = L) (hm : L.length = m) (hm100 : m ≤ 100)
    (hroot : ∀ (p : Nat) (W : World), p ≤ 1000 → Calls Tryd.prog 35 #[.int .i64 (p : Int), .int .i64 (n : Int)] W fun e w' => e = .returned (.int .u32 (rootF p n : Nat)) ∧ Below W.heap.size W w') :
    Calls Tryd.prog 16 #[.int .i64 (m : Int), .int .i64 (n : Int)] w fun e w' => ∃ g c, e = .returned (.slice (some ⟨g, 0, none⟩) m c) ∧ HasWs w' g c (L.map fun p => rootF p n) ∧ Below w.heap.size w w' := by
  obtain ⟨i0, hi, hz0, hz1, hz2⟩ := info_parts Tryd.infoU
  have hpr := fun W => primes_any m J W hJ hJ4 h1 (by rw [hL]; exact hm) hm100
  rw [hL] at hpr
  have hsm := primAt_small J hJ4
  rw [hL] at hsm
  have hm0 : 0 < m := by omega
  have HPR := Lib.hid hpr
  have HSM := Lib.hid hsm
  have HM := Lib.hid hm
  have HR := Lib.hid hroot
  clear hpr hsm hm hroot hJ hJ4 h1 hL
  go_enter Tryd.func16, Tryd.ntmps16
  go_wp2_with ((with_reducible refine (HPR.out _).mono ?_); rintro e w1 ⟨gp, cp, rfl, hcp, hgp, hgp1, hcell, hb1⟩)
  have hown0 : OwnsM (w.alloc (.cells #[] 40)) w.heap.size 40 1 (.slice (some ⟨w.heap.size, 0, none⟩) 0 0) 0 [] := OwnsM.new w [] _ (by unfold maxLen; simp)
  have hown1 := hown0.call hb1
  have hBB : Below w.heap.size w w1 := bthen ((Below.refl _ _).alloc (Nat.le_refl _) _) hb1
  have hgp2 : w.heap.size ≠ gp := by simp at hgp; omega
  have HC := Lib.hid hcell
  clear hown0 hb1 hgp hcell
  go_loopg [5, 12] m (fun gg v iv wr => ∃ (i go c : Nat), v = .slice (some ⟨go, 0, none⟩) i c ∧ i + gg = m ∧ iv = .int .i64 (i : Int) ∧ OwnsM wr w.heap.size 40 1 v i (wordsV ((L.take i).map fun p => rootF p n)) ∧ go ≠ gp ∧ gp < wr.heap.size ∧ (∀ k, k < m → wr.cell? ⟨gp, k, none⟩ = some (.int .i64 ((L.getD k 0 : Nat) : Int))) ∧ Below w.heap.size w wr)
  case atStart => exact ⟨0, _, _, rfl, by omega, rfl, hown1, hgp2, hgp1, HC.out, hBB⟩
  case round =>
    clear hown1 hgp2 hgp1 HC hBB
    obtain ⟨i, go, c, rfl, hig, rfl, hown, hne, hgl, hcell, hB⟩ := hrel
    have hBs := hB.size
    cases gk with
    | zero =>
      obtain rfl : i = m := by omega
      have e : L.take i = L := List.take_of_length_le (by rw [HM.out]; exact Nat.le_refl _)
      rw [e] at hown
      have hlen : (L.map fun p => rootF p n).length = i := by rw [List.length_map, HM.out]
      have hne2 : (L.map fun p => rootF p n) ≠ [] := by intro h; rw [h] at hlen; simp at hlen; omega
      have hx := hasWs_of_own (X := L.map fun p => rootF p n) (by rw [hlen]; exact hown) hne2
      rw [hlen] at hx
      obtain ⟨g', c', hv, _, hws⟩ := hx
      obtain ⟨rfl, rfl⟩ : go = g' ∧ c = c' := by simpa using hv
      have HW := Lib.hid hws
      clear e hown hlen hne2 hv hws hcell
      go_wp2_with fail
      go_ret
      exact ⟨go, c, rfl, HW.out, hB⟩
    | succ gg =>
      have hlt : i < m := by omega
      have hc := hcell i hlt
      have hLi : i < L.length := by rw [HM.out]; exact hlt
      have hq := HSM.out _ (List.getElem_mem hLi)
      have hgd : L.getD i 0 = L[i] := by simp [List.getD, hLi]
      rw [hgd] at hc
      have htk : (L.take (i + 1)).map (fun p => rootF p n) = (L.take i).map (fun p => rootF p n) ++ [rootF L[i] n] := by
        rw [List.take_succ_eq_append_getElem hLi, List.map_append]; rfl
      obtain ⟨p, hp⟩ : ∃ p, L[i] = p := ⟨_, rfl⟩
      rw [hp] at hc hq htk
      have hp1 : p ≤ 1000 := by omega
      have hrt := fun W => HR.out p W hp1
      have hlr := rootF_lt p n
      have HTK := Lib.hid htk
      have HRT := Lib.hid hrt
      have HCC := Lib.hid hcell
      have hcap : m ≤ cp := hcp
      generalize rootF p n = R at *
      generalize (L.take i).map (fun p => rootF p n) = T at *
      clear htk hrt hgd hp hcell hq
      go_wp2_with (first
        | ((with_reducible refine (HRT.out _).mono ?_); rintro e w2 ⟨rfl, hb2⟩)
        | (at_builtin; refine (wpList_pushQ w2 rfl _ _ 25 rfl w.heap.size 40 i0 (.int .u32 0) 4 Tryd.underlying25 hi hz0 hz1 hz2 rfl go c i _ rfl (hown.call hb2) (.int .u32 (R : Int)) w2.heap.size rfl rfl rfl (by unfold maxLen; omega) (by omega) (Nat.le_trans hBs hb2.size) ?_)))
      intro g3 c3 w3 hown3 hg3 hor
      have hs2 := hb2.size
      have HO3 := Lib.hid hown3
      have hB3 : Below w.heap.size w w3 := (bthen hB hb2).grown hg3 (Nat.le_trans hBs hs2) (fun k hk => by cases hk; exact (hown.lt go rfl).1)
      have hcell3 : ∀ k, k < m → w3.cell? ⟨gp, k, none⟩ = some (.int .i64 ((L.getD k 0 : Nat) : Int)) := fun k hk => by
        rw [← HCC.out k hk, ← hb2.cell (p := ⟨gp, k, none⟩) hgl]
        exact World.cell?_of_block (hg3.block gp (by omega) (by simpa using Ne.symm hne))
      have hgl3 : gp < w3.heap.size := by have := hg3.size; omega
      have hne3 : g3 ≠ gp := by rcases hor with rfl | h; exact hne; omega
      have HC3 := Lib.hid hcell3
      clear hown3 hcell3 hg3
      go_wp2_with fail
      go_roundg gg
      case measure => omega
      case rel => exact ⟨i + 1, _, _, rfl, by omega, by go_num, by rw [HTK.out, wordsV_app]; exact HO3.out, hne3, hgl3, HC3.out, hB3⟩

theorem roots_keys (w : World) : Calls Tryd.prog 16 #[.int .i64 64, .int .i64 3] w fun e w' => ∃ g c, e = .returned (.slice (some ⟨g, 0, none⟩) 64 c) ∧ HasWs w' g c KK ∧ Below w.heap.size w w' := by
  have h := roots_any 64 310 3 (firstP ++ restP) w (by omega) (by omega) (by rw [prim64b]; omega) prim64 rfl (by omega) (fun p W hp => root3_any p W hp)
  rw [roots64] at h
  exact h
theorem roots_first (w : World) : Calls Tryd.prog 16 #[.int .i64 8, .int .i64 2] w fun e w' => ∃ g c, e = .returned (.slice (some ⟨g, 0, none⟩) 8 c) ∧ HasWs w' g c HH ∧ Below w.heap.size w w' := by
  have h := roots_any 8 18 2 firstP w (by omega) (by omega) (by rw [prim8b]; omega) prim8 rfl (by omega) (fun p W hp => root2_any p W hp)
  rw [roots8] at h
  exact h

set_option maxHeartbeats 1600000 in
set_option maxRecDepth 100000 in
theorem rsame_any (X : List Nat) (n ga ca gb cb : Nat) (w : World) (hn : X.length = n) (hA : HasWs w ga ca X) (hB : HasWs w gb cb X) (hn100 : n ≤ 100) :
    Calls Tryd.prog 14 #[.slice (some ⟨ga, 0, none⟩) n ca, .slice (some ⟨gb, 0, none⟩) n cb] w fun e w' => e = .returned (.bool true) ∧ Below w.heap.size w w' := by
  have hca : n ≤ ca := by rw [← hn]; exact hA.2.1
  have hcb : n ≤ cb := by rw [← hn]; exact hB.2.1
  have HA := Lib.hid hA
  have HB := Lib.hid hB
  have HN := Lib.hid hn
  clear hA hB hn
  go_enter Tryd.func14, Tryd.ntmps14
  go_wp2_with fail
  go_loopg [13] n (fun gg iv wr => ∃ k : Nat, k + gg = n ∧ iv = .int .i64 (k : Int) ∧ Below w.heap.size w wr)
  case atStart => exact ⟨0, by omega, rfl, Below.refl _ _⟩
  case round =>
    obtain ⟨k, hkg, rfl, hb⟩ := hrel
    cases gk with
    | zero =>
      obtain rfl : k = n := by omega
      go_wp2_with fail
      go_ret
      exact ⟨rfl, hb⟩
    | succ gg =>
      have hlt : k < n := by omega
      have hc := (hb.cell (p := ⟨ga, k, none⟩) HA.out.1).trans (HA.out.2.2.2 k (by rw [HN.out]; exact hlt))
      have hc' := (hb.cell (p := ⟨gb, k, none⟩) HB.out.1).trans (HB.out.2.2.2 k (by rw [HN.out]; exact hlt))
      generalize X.getD k 0 = x at *
      go_wp2_with fail
      go_quiet (fail)
      go_wp2
      go_roundg gg
      case measure => omega
      case rel => exact ⟨k + 1, by omega, by go_num, below_drewN hb _⟩
end Go.Proofs.YtmmpnkcfekhkhaaDoor
