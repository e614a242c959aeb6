/- The contracts of the document's own sum: a word turned, a round, the words behind a block. -/
import Derived.Test.YtmmpnkcfekhkhaaDoorShaB
import Derived.Test.YtmmpnkcfekhkhaaDoorMark
namespace Go.Proofs.YtmmpnkcfekhkhaaDoor
open Go.RowKit

theorem rturn_any (x n : Nat) (k : Int) (w : World) (hk : k = n) (hx : x < 4294967296) (hn : n ≤ 31) :
    Calls Tryd.prog 47 #[.int .u32 x, .int .i64 k] w fun e w' => e = .returned (.int .u32 (rotN x n : Nat)) ∧ w = w' := by
  subst hk
  go_enter Tryd.func47, Tryd.ntmps47
  go_wp2
  go_loop [0, 5] (fun v i => ∃ k : Nat, k ≤ n ∧ i = .int .i64 k ∧ v = .int .u32 (rotN x k : Nat)) (fun _ i => n - (intOf i).toNat)
  case atStart => exact ⟨0, by omega, rfl, by rw [rotN_zero]⟩
  case round =>
    obtain ⟨k, hk, rfl, rfl⟩ := hrel
    have hlt := rotN_lt (n := k) (by omega) hx
    by_cases h1 : k < n
    · have hs := rotN_succ (x := x) (k := k) (by omega)
      have hlt2 := rotN_lt (n := k + 1) (by omega) hx
      have HS := Lib.hid hs
      generalize rotN x k = X at *
      clear hs
      go_wp2
      go_round
      case rel => exact ⟨k + 1, by omega, by go_num, by rw [← HS.out]; rfl⟩
      case measure => simp [intOf]; omega
    · obtain rfl : k = n := by omega
      go_wp2
      go_ret
      exact ⟨rfl, rfl⟩
/-- the slice at the head of block g reads as these words -/
def HasWs (w : World) (g c : Nat) (X : List Nat) : Prop := g < w.heap.size ∧ X.length ≤ c ∧ c ≤ maxLen ∧ ∀ i, i < X.length → w.cell? ⟨g, i, none⟩ = some (.int .u32 ((X.getD i 0 : Nat) : Int))
theorem HasWs.below {w w' : World} {B g c : Nat} {X : List Nat} (h : HasWs w g c X) (hb : Below B w w') (hg : g < B) (hs : B ≤ w'.heap.size) : HasWs w' g c X :=
  ⟨by omega, h.2.1, h.2.2.1, fun i hi => (hb.cell (p := ⟨g, i, none⟩) hg).trans (h.2.2.2 i hi)⟩
theorem HasWs.call {w w' : World} {g c : Nat} {X : List Nat} (h : HasWs w g c X) (hb : Below w.heap.size w w') : HasWs w' g c X := h.below hb h.1 hb.size
theorem HasWs.drewN {w : World} {g c : Nat} {X : List Nat} (h : HasWs w g c X) (n : Nat) : HasWs (w.drewN n) g c X := h
theorem HasWs.new (w : World) (X : List Nat) (T : Nat) (h : X.length ≤ maxLen) : HasWs (w.alloc (.cells (wordsV X).toArray T)) w.heap.size X.length X :=
  ⟨by simp, Nat.le_refl _, h, fun i hi => (IsRow.new w T (wordsV X)).cell i _ (word_at X i hi)⟩
def WsPost (X : List Nat) (w : World) (e : Ending) (w' : World) : Prop := ∃ g c, e = .returned (.slice (some ⟨g, 0, none⟩) X.length c) ∧ HasWs w' g c X ∧ Below w.heap.size w w'

theorem sum_t1 (h b c k w : Nat) : ((h : Int) + (b : Int) + (c : Int) + (k : Int) + (w : Int)) % 4294967296 = ((add2 (add2 (add2 (add2 h b) c) k) w : Nat) : Int) := by unfold add2; omega
theorem ch_ref {e f g : Nat} (he : e < 4294967296) (hf : f < 4294967296) (hg : g < 4294967296) :
    bits .xor .u32 (bits .and .u32 (e : Int) (f : Int)) (bits .and .u32 (4294967295 - (e : Int)) (g : Int)) = ((chN e f g : Nat) : Int) := by
  rw [show (4294967295 : Int) - (e : Int) = ((4294967295 - e : Nat) : Int) by omega, u32_and_nat _ _ he hf, u32_and_nat _ _ (by omega) hg, u32_xor_nat _ _ (and_lt he) (and_lt (by omega))]
  rfl

set_option maxHeartbeats 1600000 in
set_option maxRecDepth 100000 in
theorem rround_any (st : List Nat) (g c k x : Nat) (w : World) (hst : Eight st) (hws : HasWs w g c st) (hk : k < 4294967296) (hx : x < 4294967296) :
    Calls Tryd.prog 48 #[.slice (some ⟨g, 0, none⟩) 8 c, .int .u32 k, .int .u32 x] w (WsPost (rndL st k x) w) := by
  obtain ⟨A, B, C, D, E, F, G, H, rfl, hA, hB, hC, hD, hE, hF, hG, hH⟩ := hst.parts
  obtain ⟨hg, hc1, hc2, hcell⟩ := hws
  have hc1 : 8 ≤ c := hc1
  have c0 := hcell 0 (by simp)
  have c1 := hcell 1 (by simp)
  have c2 := hcell 2 (by simp)
  have c3 := hcell 3 (by simp)
  have c4 := hcell 4 (by simp)
  have c5 := hcell 5 (by simp)
  have c6 := hcell 6 (by simp)
  have c7 := hcell 7 (by simp)
  simp only [List.getD_cons_zero, List.getD_cons_succ] at c0 c1 c2 c3 c4 c5 c6 c7
  have A2 := u32_add
  have M2 := u32_mod
  have hch := ch_ref hE hF hG
  have hma := u32_ma hA hB hC
  have e6 := rotN_lt (n := 6) (by omega) hE
  have e11 := rotN_lt (n := 11) (by omega) hE
  have e25 := rotN_lt (n := 25) (by omega) hE
  have a2 := rotN_lt (n := 2) (by omega) hA
  have a13 := rotN_lt (n := 13) (by omega) hA
  have a22 := rotN_lt (n := 22) (by omega) hA
  have hb1 : bits .xor .u32 (bits .xor .u32 (rotN E 6 : Nat) (rotN E 11 : Nat)) (rotN E 25 : Nat) = ((bg1 E : Nat) : Int) := by rw [u32_xor_nat _ _ e6 e11, u32_xor_nat _ _ (xor_lt e6 e11) e25]; rfl
  have hb0 : bits .xor .u32 (bits .xor .u32 (rotN A 2 : Nat) (rotN A 13 : Nat)) (rotN A 22 : Nat) = ((bg0 A : Nat) : Int) := by rw [u32_xor_nat _ _ a2 a13, u32_xor_nat _ _ (xor_lt a2 a13) a22]; rfl
  have r6 := fun W => rturn_any E 6 6 W rfl hE (by omega)
  have r11 := fun W => rturn_any E 11 11 W rfl hE (by omega)
  have r25 := fun W => rturn_any E 25 25 W rfl hE (by omega)
  have q2 := fun W => rturn_any A 2 2 W rfl hA (by omega)
  have q13 := fun W => rturn_any A 13 13 W rfl hA (by omega)
  have q22 := fun W => rturn_any A 22 22 W rfl hA (by omega)
  have H6 := Lib.hid r6
  have H11 := Lib.hid r11
  have H25 := Lib.hid r25
  have Q2 := Lib.hid q2
  have Q13 := Lib.hid q13
  have Q22 := Lib.hid q22
  unfold maxLen at hc2
  clear r6 r11 r25 q2 q13 q22 hcell
  go_enter Tryd.func48, Tryd.ntmps48
  go_wp2_with fail
  go_quiet ((go_at_call 47; first | (with_reducible exact quiet_left (H6.out _)) | (with_reducible exact quiet_left (H11.out _)) | (with_reducible exact quiet_left (H25.out _))))
  go_wp2_with fail
  go_quiet ((go_at_call 47; first | (with_reducible exact quiet_add_left (Q2.out _)) | (with_reducible exact quiet_add_left (Q13.out _)) | (with_reducible exact quiet_add_left (Q22.out _))))
  go_wp2_with fail
  refine wp_world (fun wx => (wx.cell? ⟨g, 1, none⟩ = some (.int .u32 B) ∧ wx.cell? ⟨g, 2, none⟩ = some (.int .u32 C) ∧ wx.cell? ⟨g, 3, none⟩ = some (.int .u32 D) ∧ wx.cell? ⟨g, 5, none⟩ = some (.int .u32 F) ∧ wx.cell? ⟨g, 6, none⟩ = some (.int .u32 G)) ∧ Below w.heap.size w wx) ⟨⟨c1, c2, c3, c5, c6⟩, below_drewN (below_drewN (Below.refl _ _) _) _⟩ ?_
  clear c0 c1 c2 c3 c4 c5 c6 c7
  rintro wx ⟨⟨c1, c2, c3, c5, c6⟩, hbx⟩
  go_still_tail 22, (by kernel_rfl)
  refine wpList_world (fun wy => Below w.heap.size w wy) ?_ ?_
  · exact below_drewN hbx 1
  intro wy hby
  go_wp2
  go_ret
  exact ⟨wy.heap.size, 8, rfl, HasWs.new wy [add2 (add2 (add2 (add2 (add2 H (bg1 E)) (chN E F G)) k) x) (add2 (bg0 A) (maN A B C)), A, B, C, add2 D (add2 (add2 (add2 (add2 H (bg1 E)) (chN E F G)) k) x), E, F, G] _ (by unfold maxLen; simp), hby.alloc hby.size _⟩
end Go.Proofs.YtmmpnkcfekhkhaaDoor
