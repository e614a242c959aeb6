/- The contract of the texts of layer 8. -/
import Derived.Test.YtdlhmjdjoadioabGreatDoorMg8
namespace Go.Proofs.YtdlhmjdjoadioabGreatDoor
open Go.RowKit

def cut700 (s : ByteArray) : ByteArray := if s.size ≤ 700 then s else s.extract 0 700
theorem cut700_ext (s : ByteArray) : s.extract 0 (min s.size 700) = cut700 s := by
  unfold cut700
  split
  · rename_i h
    rw [Nat.min_eq_left h]; simp
  · rename_i h
    rw [Nat.min_eq_right (by omega)]
theorem cut700_size (s : ByteArray) : (cut700 s).size ≤ 700 := by
  unfold cut700; split
  · assumption
  · simp; omega
theorem cut700_int (s : ByteArray) : s.extract 0 (min (s.size : Int) 700).toNat = cut700 s := by
  rw [show (min (s.size : Int) 700).toNat = min s.size 700 by omega, cut700_ext]
def textsL (ss : List ByteArray) : List ByteArray := (ss.take 10).map cut700
theorem textsL_len (ss : List ByteArray) : (textsL ss).length ≤ 10 := by simp [textsL]; omega
theorem textsL_size (ss : List ByteArray) : ∀ s ∈ textsL ss, s.size ≤ 700 := by
  intro s hs
  obtain ⟨x, _, rfl⟩ := List.mem_map.1 hs
  exact cut700_size x
def TextsPost (ss : List ByteArray) (w : World) (e : Ending) (w' : World) : Prop :=
  ∃ a c, e = .returned (.slice a (textsL ss).length c) ∧ HasStrs w' a c (textsL ss) ∧ (∀ b o s, a = some ⟨b, o, s⟩ → w.heap.size ≤ b) ∧ Below w.heap.size w w'
theorem own_freshS {T : TypeId} {w : World} {base size n n' c : Nat} {a : Option Addr} {xs : List Value} (h : w.ownsRow base T size (.slice a n c) n' xs) : ∀ b o s, a = some ⟨b, o, s⟩ → base ≤ b := by
  intro b o s e
  subst e
  rcases h.2 with ⟨e2, _⟩ | ⟨g2, cap2, cur2, e2, hb2, _⟩
  · cases e2
  · simp only [Value.slice.injEq, Option.some.injEq, Addr.mk.injEq] at e2
    omega

set_option maxHeartbeats 800000 in
set_option maxRecDepth 100000 in
theorem texts_some (b off c : Nat) (ss : List ByteArray) (w : World) (hne : ss ≠ []) (hlc : ss.length ≤ c) (_hcm : c ≤ maxLen) (hsz : ∀ s ∈ ss, s.size ≤ maxLen) (hb : b < w.heap.size)
    (hcell : ∀ i (h : i < ss.length), w.cell? ⟨b, off + i, none⟩ = some (.string ss[i])) :
    Calls Tryz.prog 6 #[.slice (some ⟨b, off, none⟩) ss.length c] w (TextsPost ss w) := by
  obtain ⟨i0, hi, hz0, hz1, hz2⟩ := info_parts Tryz.infoS
  unfold maxLen at _hcm
  have hpos : 0 < ss.length := List.length_pos_iff.2 hne
  have HC := Lib.hid hcell
  have HS := Lib.hid hsz
  clear hcell hsz hne
  go_enter Tryz.func6, Tryz.ntmps6
  go_upto_region 2 with fail
  go_cut [10, 11, 12] (fun v n i wx => ∃ L : Nat, L ≤ 10 ∧ L ≤ ss.length ∧ ss.take L = ss.take 10 ∧ v = .slice (some ⟨b, off, none⟩) L c ∧ n = .int .i64 L ∧ i = .int .i64 0 ∧ w = wx)
  case first =>
    by_cases h5 : ss.length ≤ 10
    · go_wp2_with fail
      go_meet
      exact ⟨ss.length, h5, Nat.le_refl _, by rw [List.take_of_length_le (Nat.le_refl _), List.take_of_length_le h5], by (congr 1; omega), by (congr 1; omega), rfl, rfl⟩
    · go_wp2_with fail
      go_meet
      exact ⟨10, Nat.le_refl _, by omega, rfl, by (congr 1; omega), by (congr 1; omega), rfl, rfl⟩
  case rest =>
    obtain ⟨L, hL5, hL, hT, rfl, rfl, rfl, rfl⟩ := hcut
    have HT := Lib.hid hT
    clear hT
    go_wp2_with fail
    go_loopw [3, 12] (fun v i wr => ∃ k : Nat, k ≤ L ∧ i = .int .i64 k ∧ wr.ownsRow w.heap.size 9 1 v k (strsV ((ss.take k).map cut700)) ∧ Below w.heap.size w wr) (fun _ i _ => L - (intOf i).toNat)
    case atStart => exact ⟨0, Nat.zero_le _, rfl, World.ownsRow_nil _ _ _ _, Below.refl _ _⟩
    case round =>
      obtain ⟨k, hk, rfl, hown, hbl⟩ := hrel
      by_cases hkL : k < L
      · have hc := (hbl.cell (p := ⟨b, off + k, none⟩) hb).trans (HC.out k (by omega))
        have hs := HS.out ss[k] (List.getElem_mem _)
        have hts : (ss.take (k + 1)).map cut700 = (ss.take k).map cut700 ++ [cut700 ss[k]] := by
          rw [List.take_succ_eq_append_getElem (by omega), List.map_append]; rfl
        have HTS := Lib.hid hts
        clear hts
        unfold maxLen at hs
        by_cases h8 : ss[k].size ≤ 700
        · have hx := cut700_int ss[k]
          have HX := Lib.hid hx
          clear hx
          go_wp2_with (at_builtin; refine wpList_push _ rfl _ _ 25 rfl w.heap.size 9 i0 (.string ⟨#[]⟩) 16 Tryz.underlying25 hi hz0 hz1 hz2 rfl _ _ _ rfl hown _ rfl rfl ?c1 ?c2 ?c3 ?_)
          case c1 => unfold maxLen; omega
          case c2 => omega
          case c3 => exact hbl.size
          intro g c2 w2 hown2 hg2
          go_wp2
          go_roundw
          case rel => exact ⟨k + 1, by omega, by go_num, by rw [HTS.out, ← strsV_push, ← HX.out, List.map_take]; exact hown2, hbl.grown hg2 hbl.size (fun k hk => (hown.lt k hk).1)⟩
          case measure => simp [intOf]; omega
        · have hx := cut700_int ss[k]
          have HX := Lib.hid hx
          clear hx
          go_wp2_with (at_builtin; refine wpList_push _ rfl _ _ 25 rfl w.heap.size 9 i0 (.string ⟨#[]⟩) 16 Tryz.underlying25 hi hz0 hz1 hz2 rfl _ _ _ rfl hown _ rfl rfl ?c1 ?c2 ?c3 ?_)
          case c1 => unfold maxLen; omega
          case c2 => omega
          case c3 => exact hbl.size
          intro g c2 w2 hown2 hg2
          go_wp2
          go_roundw
          case rel => exact ⟨k + 1, by omega, by go_num, by rw [HTS.out, ← strsV_push, ← HX.out, List.map_take]; exact hown2, hbl.grown hg2 hbl.size (fun k hk => (hown.lt k hk).1)⟩
          case measure => simp [intOf]; omega
      · obtain rfl : k = L := by omega
        have hfl : (ss.take k).map cut700 = textsL ss := by rw [textsL, HT.out]
        have hkl : k = (textsL ss).length := by rw [← hfl]; simp; omega
        rw [hfl] at hown
        obtain ⟨a', c', rfl, hh⟩ := strs_of_own (w := wr) (base := w.heap.size) (e := 9) (by rw [← hkl]; exact hown) (fun s hs => by have := textsL_size ss s hs; unfold maxLen; omega)
        have HH := Lib.hid hh
        have HFR := Lib.hid (own_freshS hown)
        clear hfl hown hh hkl
        go_wp2
        go_ret
        exact ⟨a', c', rfl, HH.out, HFR.out, hbl⟩

theorem texts_none (a : Option Addr) (c : Nat) (w : World) (hcm : c ≤ maxLen) : Calls Tryz.prog 6 #[.slice a 0 c] w (TextsPost [] w) := by
  unfold maxLen at hcm
  go_enter Tryz.func6, Tryz.ntmps6
  go_wp2
  refine wp_loop_rounds 1 ?_
  rw [rounds_succ]
  go_wp2
  go_ret
  exact ⟨none, 0, rfl, HasStrs.nil _ _ _ (by unfold maxLen; omega), fun _ _ _ h => (by cases h), Below.refl _ _⟩

theorem texts_any (a : Option Addr) (c : Nat) (ss : List ByteArray) (w : World) (h : HasStrs w a c ss) : Calls Tryz.prog 6 #[.slice a ss.length c] w (TextsPost ss w) := by
  obtain ⟨h1, h2, h3, h4⟩ := h
  by_cases he : ss = []
  · subst he; exact texts_none a c w h2
  · rcases h4 with h4 | ⟨b, off, rfl, hb, hc⟩
    · exact absurd h4 he
    · exact texts_some b off c ss w he h1 h2 h3 hb hc

end Go.Proofs.YtdlhmjdjoadioabGreatDoor
