/- The contract of 'few': a row of texts, cut to 66, each cut to 4100 bytes. -/
import Derived.Test.YtmmpnkcfekhkhaaDoorInfo
import Derived.WalkLawsBesides
import Derived.WalkSpells
import Derived.Deep.DeepCutAuto
namespace Go.Proofs.YtmmpnkcfekhkhaaDoor
open Go.RowKit

def cutS (s : ByteArray) : ByteArray := if s.size ≤ 4100 then s else s.extract 0 4100
theorem cutS_size (s : ByteArray) : (cutS s).size ≤ 4100 := by
  unfold cutS; split
  · assumption
  · simp; omega
def fewL (ss : List ByteArray) : List ByteArray := (ss.take 66).map cutS
theorem fewL_len (ss : List ByteArray) : (fewL ss).length ≤ 66 := by simp [fewL]; omega
theorem fewL_size (ss : List ByteArray) : ∀ s ∈ fewL ss, s.size ≤ 4100 := by
  intro s hs
  obtain ⟨x, _, rfl⟩ := List.mem_map.1 hs
  exact cutS_size x

def FewPost (ss : List ByteArray) (w : World) (e : Ending) (w' : World) : Prop :=
  ∃ a c, e = .returned (.slice a (fewL ss).length c) ∧ HasStrs w' a c (fewL ss) ∧ Below w.heap.size w w'

set_option maxHeartbeats 800000 in
set_option maxRecDepth 100000 in
theorem few_some (b off c : Nat) (ss : List ByteArray) (w : World) (hne : ss ≠ []) (hlc : ss.length ≤ c) (hcm : c ≤ maxLen) (hsz : ∀ s ∈ ss, s.size ≤ maxLen) (hb : b < w.heap.size)
    (hcell : ∀ i (h : i < ss.length), w.cell? ⟨b, off + i, none⟩ = some (.string ss[i])) :
    Calls Tryd.prog 18 #[.slice (some ⟨b, off, none⟩) ss.length c] w (FewPost ss w) := by
  obtain ⟨i0, hi, hz0, hz1, hz2⟩ := info_parts Tryd.infoS
  unfold maxLen at hcm
  have hpos : 0 < ss.length := List.length_pos_iff.2 hne
  have HC := Lib.hid hcell
  have HS := Lib.hid hsz
  clear hcell hsz hne
  go_enter Tryd.func18, Tryd.ntmps18
  go_upto_region 2 with fail
  go_cut [10, 11, 12] (fun v n i wx => ∃ L : Nat, L ≤ 66 ∧ L ≤ ss.length ∧ ss.take L = ss.take 66 ∧ v = .slice (some ⟨b, off, none⟩) L c ∧ n = .int .i64 L ∧ i = .int .i64 0 ∧ w = wx)
  case first =>
    by_cases h5 : ss.length ≤ 66
    · go_wp2_with fail
      go_meet
      exact ⟨ss.length, h5, Nat.le_refl _, by rw [List.take_of_length_le (Nat.le_refl _), List.take_of_length_le h5], rfl, rfl, rfl, rfl⟩
    · go_wp2_with fail
      go_meet
      exact ⟨66, Nat.le_refl _, by omega, rfl, rfl, rfl, rfl, rfl⟩
  case rest =>
    obtain ⟨L, hL5, hL, hT, rfl, rfl, rfl, rfl⟩ := hcut
    have HT := Lib.hid hT
    clear hT
    go_wp2_with fail
    go_loopw [3, 12] (fun v i wr => ∃ k : Nat, k ≤ L ∧ i = .int .i64 k ∧ wr.ownsRow w.heap.size 9 1 v k (strsV ((ss.take k).map cutS)) ∧ Below w.heap.size w wr) (fun _ i _ => L - (intOf i).toNat)
    case atStart => exact ⟨0, Nat.zero_le _, rfl, World.ownsRow_nil _ _ _ _, Below.refl _ _⟩
    case round =>
      obtain ⟨k, hk, rfl, hown, hbl⟩ := hrel
      by_cases hkL : k < L
      · have hc := (hbl.cell (p := ⟨b, off + k, none⟩) hb).trans (HC.out k (by omega))
        have hs := HS.out ss[k] (List.getElem_mem _)
        have hts : (ss.take (k + 1)).map cutS = (ss.take k).map cutS ++ [cutS ss[k]] := by
          rw [List.take_succ_eq_append_getElem (by omega), List.map_append]; rfl
        have HTS := Lib.hid hts
        clear hts
        unfold maxLen at hs
        by_cases h8 : ss[k].size ≤ 4100
        · have hx : ss[k] = cutS ss[k] := by unfold cutS; rw [if_pos h8]
          have HX := Lib.hid hx
          clear hx
          go_wp2_with (at_builtin; refine wpList_push _ rfl _ _ 29 rfl w.heap.size 9 i0 (.string ⟨#[]⟩) 16 Tryd.underlying29 hi hz0 hz1 hz2 rfl _ _ _ rfl hown _ rfl rfl ?c1 ?c2 ?c3 ?_)
          case c1 => unfold maxLen; omega
          case c2 => omega
          case c3 => exact hbl.size
          intro g c2 w2 hown2 hg2
          go_wp2
          go_roundw
          case rel => exact ⟨k + 1, by omega, by go_num, by rw [HTS.out, ← strsV_push, ← HX.out, List.map_take]; exact hown2, hbl.grown hg2 hbl.size (fun k hk => (hown.lt k hk).1)⟩
          case measure => simp [intOf]; omega
        · have hx : ss[k].extract 0 4100 = cutS ss[k] := by unfold cutS; rw [if_neg h8]
          have HX := Lib.hid hx
          clear hx
          go_wp2_with (at_builtin; refine wpList_push _ rfl _ _ 29 rfl w.heap.size 9 i0 (.string ⟨#[]⟩) 16 Tryd.underlying29 hi hz0 hz1 hz2 rfl _ _ _ rfl hown _ rfl rfl ?c1 ?c2 ?c3 ?_)
          case c1 => unfold maxLen; omega
          case c2 => omega
          case c3 => exact hbl.size
          intro g c2 w2 hown2 hg2
          go_wp2
          go_roundw
          case rel => exact ⟨k + 1, by omega, by go_num, by rw [HTS.out, ← strsV_push, ← HX.out, List.map_take]; exact hown2, hbl.grown hg2 hbl.size (fun k hk => (hown.lt k hk).1)⟩
          case measure => simp [intOf]; omega
      · obtain rfl : k = L := by omega
        have hfl : (ss.take k).map cutS = fewL ss := by rw [fewL, HT.out]
        have hkl : k = (fewL ss).length := by rw [← hfl]; simp; omega
        rw [hfl] at hown
        obtain ⟨a', c', rfl, hh⟩ := strs_of_own (w := wr) (base := w.heap.size) (e := 9) (by rw [← hkl]; exact hown) (fun s hs => by have := fewL_size ss s hs; unfold maxLen; omega)
        have HH := Lib.hid hh
        clear hfl hown hh hkl
        go_wp2
        go_ret
        exact ⟨a', c', rfl, HH.out, hbl⟩

theorem few_none (a : Option Addr) (c : Nat) (w : World) (hcm : c ≤ maxLen) : Calls Tryd.prog 18 #[.slice a 0 c] w (FewPost [] w) := by
  unfold maxLen at hcm
  go_enter Tryd.func18, Tryd.ntmps18
  go_wp2
  refine wp_loop_rounds 1 ?_
  rw [rounds_succ]
  go_wp2
  go_ret
  exact ⟨none, 0, rfl, HasStrs.nil _ _ _ (by unfold maxLen; omega), Below.refl _ _⟩

theorem few_any (a : Option Addr) (c : Nat) (ss : List ByteArray) (w : World) (h : HasStrs w a c ss) : Calls Tryd.prog 18 #[.slice a ss.length c] w (FewPost ss w) := by
  obtain ⟨h1, h2, h3, h4⟩ := h
  by_cases he : ss = []
  · subst he; exact few_none a c w h2
  · rcases h4 with h4 | ⟨b, off, rfl, hb, hc⟩
    · exact absurd h4 he
    · exact few_some b off c ss w he h1 h2 h3 hb hc
end Go.Proofs.YtmmpnkcfekhkhaaDoor
