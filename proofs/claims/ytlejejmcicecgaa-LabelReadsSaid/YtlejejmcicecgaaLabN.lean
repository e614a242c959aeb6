/- The contracts of 'names' and 'alive' of the statements of layer 3. -/
import Derived.Test.YtlejejmcicecgaaLabF
namespace Go.Proofs.Ytlejejmcicecgaa
open Go.RowKit

def namesL (ss : List ByteArray) : List ByteArray := (ss.take 10).map cut70
theorem namesL_len (ss : List ByteArray) : (namesL ss).length ≤ 10 := by simp [namesL]; omega
theorem namesL_size (ss : List ByteArray) : ∀ s ∈ namesL ss, s.size ≤ 70 := by
  intro s hs
  obtain ⟨x, _, rfl⟩ := List.mem_map.1 hs
  exact cut70_size x

theorem cut70_int (s : ByteArray) : s.extract 0 (min (s.size : Int) 70).toNat = cut70 s := by
  rw [show (min (s.size : Int) 70).toNat = min s.size 70 by omega, cut70_ext]
def NamesPost (ss : List ByteArray) (w : World) (e : Ending) (w' : World) : Prop :=
  ∃ a c, e = .returned (.slice a (namesL ss).length c) ∧ HasStrs w' a c (namesL ss) ∧ Below w.heap.size w w'

set_option maxHeartbeats 800000 in
set_option maxRecDepth 100000 in
theorem names_some (b off c : Nat) (ss : List ByteArray) (w : World) (hne : ss ≠ []) (hlc : ss.length ≤ c) (_hcm : c ≤ maxLen) (hsz : ∀ s ∈ ss, s.size ≤ maxLen) (hb : b < w.heap.size)
    (hcell : ∀ i (h : i < ss.length), w.cell? ⟨b, off + i, none⟩ = some (.string ss[i])) :
    Calls Try.prog 23 #[.slice (some ⟨b, off, none⟩) ss.length c] w (NamesPost ss w) := by
  obtain ⟨i0, hi, hz0, hz1, hz2⟩ := info_parts Try.infoS
  unfold maxLen at _hcm
  have hpos : 0 < ss.length := List.length_pos_iff.2 hne
  have HC := Lib.hid hcell
  have HS := Lib.hid hsz
  clear hcell hsz hne
  go_enter Try.func23, Try.ntmps23
  go_upto_region 2 with fail
  go_cut [10, 11, 12] (fun v n i wx => ∃ L : Nat, L ≤ 10 ∧ L ≤ ss.length ∧ ss.take L = ss.take 10 ∧ v = .slice (some ⟨b, off, none⟩) L c ∧ n = .int .i64 L ∧ i = .int .i64 0 ∧ w = wx)
  case first =>
    by_cases h5 : ss.length ≤ 10
    · go_wp2_with fail
      go_meet
      exact ⟨ss.length, h5, Nat.le_refl _, by rw [List.take_of_length_le (Nat.le_refl _), List.take_of_length_le h5], by (congr 1; omega), by (congr 1; omega), rfl, rfl⟩
    · go_wp2_with fail
      go_meet
      exact ⟨10, Nat.le_refl _, by omega, rfl, by (congr 1; omega), by (congr 1; omega), rfl, rfl⟩
  case rest =>
    obtain ⟨L, hL5, hL, hT, rfl, rfl, rfl, rfl⟩ := hcut
    have HT := Lib.hid hT
    clear hT
    go_wp2_with fail
    go_loopw [3, 12] (fun v i wr => ∃ k : Nat, k ≤ L ∧ i = .int .i64 k ∧ wr.ownsRow w.heap.size 9 1 v k (strsV ((ss.take k).map cut70)) ∧ Below w.heap.size w wr) (fun _ i _ => L - (intOf i).toNat)
    case atStart => exact ⟨0, Nat.zero_le _, rfl, World.ownsRow_nil _ _ _ _, Below.refl _ _⟩
    case round =>
      obtain ⟨k, hk, rfl, hown, hbl⟩ := hrel
      by_cases hkL : k < L
      · have hc := (hbl.cell (p := ⟨b, off + k, none⟩) hb).trans (HC.out k (by omega))
        have hs := HS.out ss[k] (List.getElem_mem _)
        have hts : (ss.take (k + 1)).map cut70 = (ss.take k).map cut70 ++ [cut70 ss[k]] := by
          rw [List.take_succ_eq_append_getElem (by omega), List.map_append]; rfl
        have HTS := Lib.hid hts
        clear hts
        unfold maxLen at hs
        by_cases h8 : ss[k].size ≤ 70
        · have hx := cut70_int ss[k]
          have HX := Lib.hid hx
          clear hx
          go_wp2_with (at_builtin; refine wpList_push _ rfl _ _ 40 rfl w.heap.size 9 i0 (.string ⟨#[]⟩) 16 Try.underlying40 hi hz0 hz1 hz2 rfl _ _ _ rfl hown _ rfl rfl ?c1 ?c2 ?c3 ?_)
          case c1 => unfold maxLen; omega
          case c2 => omega
          case c3 => exact hbl.size
          intro g c2 w2 hown2 hg2
          go_wp2
          go_roundw
          case rel => exact ⟨k + 1, by omega, by go_num, by rw [HTS.out, ← strsV_push, ← HX.out, List.map_take]; exact hown2, hbl.grown hg2 hbl.size (fun k hk => (hown.lt k hk).1)⟩
          case measure => simp [intOf]; omega
        · have hx := cut70_int ss[k]
          have HX := Lib.hid hx
          clear hx
          go_wp2_with (at_builtin; refine wpList_push _ rfl _ _ 40 rfl w.heap.size 9 i0 (.string ⟨#[]⟩) 16 Try.underlying40 hi hz0 hz1 hz2 rfl _ _ _ rfl hown _ rfl rfl ?c1 ?c2 ?c3 ?_)
          case c1 => unfold maxLen; omega
          case c2 => omega
          case c3 => exact hbl.size
          intro g c2 w2 hown2 hg2
          go_wp2
          go_roundw
          case rel => exact ⟨k + 1, by omega, by go_num, by rw [HTS.out, ← strsV_push, ← HX.out, List.map_take]; exact hown2, hbl.grown hg2 hbl.size (fun k hk => (hown.lt k hk).1)⟩
          case measure => simp [intOf]; omega
      · obtain rfl : k = L := by omega
        have hfl : (ss.take k).map cut70 = namesL ss := by rw [namesL, HT.out]
        have hkl : k = (namesL ss).length := by rw [← hfl]; simp; omega
        rw [hfl] at hown
        obtain ⟨a', c', rfl, hh⟩ := strs_of_own (w := wr) (base := w.heap.size) (e := 9) (by rw [← hkl]; exact hown) (fun s hs => by have := namesL_size ss s hs; unfold maxLen; omega)
        have HH := Lib.hid hh
        clear hfl hown hh hkl
        go_wp2
        go_ret
        exact ⟨a', c', rfl, HH.out, hbl⟩

theorem names_none (a : Option Addr) (c : Nat) (w : World) (hcm : c ≤ maxLen) : Calls Try.prog 23 #[.slice a 0 c] w (NamesPost [] w) := by
  unfold maxLen at hcm
  go_enter Try.func23, Try.ntmps23
  go_wp2
  refine wp_loop_rounds 1 ?_
  rw [rounds_succ]
  go_wp2
  go_ret
  exact ⟨none, 0, rfl, HasStrs.nil _ _ _ (by unfold maxLen; omega), Below.refl _ _⟩

theorem names_any (a : Option Addr) (c : Nat) (ss : List ByteArray) (w : World) (h : HasStrs w a c ss) : Calls Try.prog 23 #[.slice a ss.length c] w (NamesPost ss w) := by
  obtain ⟨h1, h2, h3, h4⟩ := h
  by_cases he : ss = []
  · subst he; exact names_none a c w h2
  · rcases h4 with h4 | ⟨b, off, rfl, hb, hc⟩
    · exact absurd h4 he
    · exact names_some b off c ss w he h1 h2 h3 hb hc

/-- a row of labels that has just been laid -/
theorem HasLabs.made (w : World) (T : TypeId) (ls : List Lab) (h : ls.length ≤ 1000) (hs : ∀ l ∈ ls, l.1.size ≤ maxLen ∧ l.2.size ≤ maxLen) :
    HasLabs (w.alloc (.cells (labsV ls).toArray T)) (some ⟨w.heap.size, 0, none⟩) ls.length ls := by
  refine ⟨Nat.le_refl _, by unfold maxLen; omega, hs, .inr ⟨w.heap.size, 0, rfl, by simp, fun i hi => ?_⟩⟩
  obtain ⟨g1, g2⟩ := labsV_get ls i hi
  refine ⟨?_, ?_⟩
  · rw [show (w.alloc (.cells (labsV ls).toArray T)).cell? ⟨w.heap.size, 0 + i * 2, none⟩ = _ from World.cell?_alloc_mark w (labsV ls).toArray T (0, 0) (0 + i * 2)]
    simpa using g1
  · rw [show (w.alloc (.cells (labsV ls).toArray T)).cell? ⟨w.heap.size, 0 + i * 2 + 1, none⟩ = _ from World.cell?_alloc_mark w (labsV ls).toArray T (0, 0) (0 + i * 2 + 1)]
    simpa using g2
def aliveL : List Lab := [(⟨#[97]⟩, ⟨#[98]⟩), (⟨#[99]⟩, ⟨#[100]⟩)]
theorem alive_right : rightC aliveL = true := by decide +kernel
theorem alive_text : textS aliveL = ⟨#[123, 97, 61, 34, 98, 34, 44, 99, 61, 34, 100, 34, 125]⟩ := by
  apply Go.WideShapes.bytes_inj
  decide +kernel
set_option maxRecDepth 100000 in
theorem alive_any (w : World) : Calls Try.prog 19 #[] w (BoolB true w) := by
  have hL := fun W => HasLabs.made W 49 aliveL (by decide) (by intro l hl; simp [aliveL] at hl; rcases hl with rfl | rfl <;> (unfold maxLen; decide))
  have ht := fun a c W (hW : HasLabs W a c aliveL) => text_ok a c aliveL W hW alive_right
  rw [alive_text] at ht
  have HL : Hid (∀ W : World, HasLabs (W.alloc (.cells #[.string ⟨#[97]⟩, .string ⟨#[98]⟩, .string ⟨#[99]⟩, .string ⟨#[100]⟩] 49)) (some ⟨W.heap.size, 0, none⟩) 2 aliveL) := Lib.hid hL
  have HT := Lib.hid ht
  clear hL ht
  go_enter Try.func19, Try.ntmps19
  go_wp2_with (go_at_call 13; refine (HT.out _ _ _ (HL.out w)).mono ?_; rintro e w1 ⟨rfl, hb1⟩)
  go_ret
  exact ⟨rfl, ((Below.refl _ _).alloc (Nat.le_refl _) _).trans (hb1.mono (by simp))⟩
end Go.Proofs.Ytlejejmcicecgaa
