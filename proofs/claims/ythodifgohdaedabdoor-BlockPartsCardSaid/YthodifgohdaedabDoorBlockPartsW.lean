/- The walk of the statement BlockParts: two texts that are read, one behind the other, are read as the blocks of both, unless there are too many. -/
import Derived.Test.YthodifgohdaedabDoorPrsJ
import Derived.Test.YthodifgohdaedabDoorPrtM
import Derived.Test.YthodifgohdaedabDoorDefApp
import Derived.Test.YthodifgohdaedabDoorBlkS
import Derived.Test.YthodifgohdaedabDoorBlkT
import Derived.Outline
import Derived.IntWalk
namespace Go.Proofs.YthodifgohdaedabDoor
open Go.RowKit

theorem catB (s t : ByteArray) : (s ++ t).data.toList = s.data.toList ++ t.data.toList := by simp [ByteArray.data_append]

set_option maxHeartbeats 6400000 in
set_option maxRecDepth 100000 in
theorem blockParts_walk {w : World} (s0 : ByteArray) (ws : s0.size ≤ maxLen) (t0 : ByteArray) (wt : t0.size ≤ maxLen) (hm : MaxC w) :
    Calls Tryd.prog 6 #[.string s0, .string t0] w (BoolW true w) := by
  unfold maxLen at ws wt
  have hm1 : ∀ W (t : TypeId) (ts : Array TypeId), (Builtin.min_ ts t #[.int .i64 (s0.size : Int), .int .i64 4000]).run Tryd.prog W = .ok (.int .i64 ((min s0.size 4000 : Nat) : Int)) W := fun W t ts => run_minN W ts t s0.size 4000
  have hm2 : ∀ W (t : TypeId) (ts : Array TypeId), (Builtin.min_ ts t #[.int .i64 (t0.size : Int), .int .i64 4000]).run Tryd.prog W = .ok (.int .i64 ((min t0.size 4000 : Nat) : Int)) W := fun W t ts => run_minN W ts t t0.size 4000
  have hs1 := fun W => run_cutN (P := Tryd.prog) W 9 4000 s0 Tryd.underlying9
  have hs2 := fun W => run_cutN (P := Tryd.prog) W 9 4000 t0 Tryd.underlying9
  have l1 := cutN_size 4000 s0
  have l2 := cutN_size 4000 t0
  generalize cutN 4000 s0 = S at *
  generalize cutN 4000 t0 = T at *
  generalize min s0.size 4000 = m1 at *
  generalize min t0.size 4000 = m2 at *
  have hP := fun W (h : Below w.heap.size w W) => parse_any S W (hm.call h) (by unfold maxLen; omega)
  have hQ := fun W (h : Below w.heap.size w W) => parse_any T W (hm.call h) (by unfold maxLen; omega)
  have hst : (S ++ T).size = S.size + T.size := ByteArray.size_append
  have hR := fun W (h : Below w.heap.size w W) => parse_any (S ++ T) W (hm.call h) (by unfold maxLen; omega)
  rw [catB] at hR
  have e1 := parse_err S.data.toList (by rw [lenB]; omega)
  have e2 := parse_err T.data.toList (by rw [lenB]; omega)
  have happ := parse_app (s := S.data.toList) (t := T.data.toList)
  have hlen : (S.data.toList ++ T.data.toList).length ≤ 8192 := by rw [List.length_append, lenB, lenB]; omega
  have hl1 := fun h => (parse_ok (s := S.data.toList) h).2.2.2
  have hl2 := fun h => (parse_ok (s := T.data.toList) h).2.2.2
  have HAPP := Lib.hid (fun h1 h2 => happ h1 h2 hlen)
  have HL1 := Lib.hid hl1
  have HL2 := Lib.hid hl2
  have HP := Lib.hid hP
  have HQ := Lib.hid hQ
  have HR := Lib.hid hR
  have E1 := Lib.hid e1
  have E2 := Lib.hid e2
  have pst : ¬ 9223372036854775807 < S.size + T.size := by omega
  clear hP hQ hR hst e1 e2 happ hlen hl1 hl2 hm
  generalize parseB S.data.toList = r1 at *
  generalize parseB T.data.toList = r2 at *
  generalize parseB (S.data.toList ++ T.data.toList) = r3 at *
  obtain ⟨L1, E1v, A1⟩ := r1
  obtain ⟨L2, E2v, A2⟩ := r2
  obtain ⟨L3, E3v, A3⟩ := r3
  have HP' := Lib.hid (show ∀ W, Below w.heap.size w W → Calls Tryd.prog 8 #[.string S] W fun e w' => ∃ a c, e = .returned (.tuple #[.slice a L1.length c, .int .i64 E1v, .int .i64 A1]) ∧ HasDefs w' a c L1 ∧ Below W.heap.size W w' from HP.out)
  have HQ' := Lib.hid (show ∀ W, Below w.heap.size w W → Calls Tryd.prog 8 #[.string T] W fun e w' => ∃ a c, e = .returned (.tuple #[.slice a L2.length c, .int .i64 E2v, .int .i64 A2]) ∧ HasDefs w' a c L2 ∧ Below W.heap.size W w' from HQ.out)
  have HR' := Lib.hid (show ∀ W, Below w.heap.size w W → Calls Tryd.prog 8 #[.string (S ++ T)] W fun e w' => ∃ a c, e = .returned (.tuple #[.slice a L3.length c, .int .i64 E3v, .int .i64 A3]) ∧ HasDefs w' a c L3 ∧ Below W.heap.size W w' from HR.out)
  simp only at HAPP HL1 HL2 E1 E2
  clear HP HQ HR
  go_enter Tryd.func6, Tryd.ntmps6
  go_wp2_with fail
  go_region
  all_goals
    go_upto_region 5 with (first
      | (go_at_call 8; (with_reducible refine (HP'.out _ (Below.refl _ _).drew).mono ?_); rintro e w2 ⟨a1, c1, rfl, hd1, hb2⟩; have hc2 := bthen (Below.refl _ _).drew hb2)
      | (go_at_call 8; (with_reducible refine (HQ'.out _ hc2).mono ?_); rintro e w3 ⟨a2, c2, rfl, hd2, hb3⟩; have hc3 := bthen hc2 hb3)
      | (go_at_call 8; (with_reducible refine (HR'.out _ hc3).mono ?_); rintro e w4 ⟨a3, c3, rfl, hd3, hb4⟩; have hc4 := bthen hc3 hb4))
    have HB4 := Lib.hid hc4
    have HD1 := Lib.hid (fun W (h : Below w4.heap.size w4 W) => hd1.call (bthen hb3 (bthen hb4 h)))
    have HD2 := Lib.hid (fun W (h : Below w4.heap.size w4 W) => hd2.call (bthen hb4 h))
    have HD3 := Lib.hid (fun W (h : Below w4.heap.size w4 W) => hd3.call h)
    clear hd1 hd2 hd3 hb2 hb3 hb4 hc2 hc3 hc4
    rcases E1.out with rfl | rfl
    case inr =>
      go_wp2_with (go_at_call 10; (with_reducible refine (alive_any _).mono ?_); rintro e w5 ⟨rfl, hb5⟩)
      go_ret
      exact ⟨rfl, bthen HB4.out hb5⟩
    rcases E2.out with rfl | rfl
    case inr =>
      go_wp2_with (go_at_call 10; (with_reducible refine (alive_any _).mono ?_); rintro e w5 ⟨rfl, hb5⟩)
      go_ret
      exact ⟨rfl, bthen HB4.out hb5⟩
    have n1 := HL1.out rfl
    have n2 := HL2.out rfl
    have hw1 : IntKind.i64.wrap ((L1.length : Int) + (L2.length : Int)) = (L1.length : Int) + (L2.length : Int) := IntWalk.i64_in _ (by omega)
    obtain ⟨ha1, ha2⟩ := HAPP.out rfl rfl
    by_cases h64 : L1.length + L2.length ≤ 64
    case neg =>
      obtain rfl := ha2 (by omega)
      have h64i : (64 : Int) < (L1.length : Int) + (L2.length : Int) := by omega
      clear ha1 ha2 h64 hw1
      go_wp2_with (go_at_call 10; (with_reducible refine (alive_any _).mono ?_); rintro e w5 ⟨rfl, hb5⟩)
      go_ret
      exact ⟨rfl, bthen HB4.out hb5⟩
    have h3 := ha1 h64
    simp only [Prod.mk.injEq] at h3
    obtain ⟨hL3, rfl, rfl⟩ := h3
    have HL3 := Lib.hid hL3
    clear hL3
    have h64i : ¬ (64 : Int) < (L1.length : Int) + (L2.length : Int) := by omega
    obtain ⟨i0, hi, hz0, hz1, hz2⟩ := info_partsD Tryd.infoD
    clear ha1 ha2 hw1
    go_upto_region 9 with fail
    clear h64i
    have q1 : ([] : List DefAt).length + L1.length ≤ 1000000 := by simp; omega
    go_wp2_with (first
      | (go_at_call 10; (with_reducible refine (alive_any _).mono ?_); rintro e w5 ⟨rfl, hb5⟩)
      | (at_builtin; refine (wpList_appD _ (by rfl) _ _ 22 rfl w5.heap.size 44 i0 (.agg #[.string ⟨#[]⟩, .slice none 0 0, .slice none 0 0]) Tryd.underlying22 hi hz0 hz1 hz2 rfl (.slice (some ⟨w5.heap.size, 0, none⟩) 0 0) [] rfl (OwnD.made _ w5) a1 c1 L1 rfl w5 (HD1.out _ hb5) ((Below.refl _ _).alloc (Nat.le_refl _) _) q1 (by simp) ?_)))
    intro v6 w6 qs1 hq1 ho1 hown1 hg1
    have hb6 : Below w5.heap.size w5 w6 := (OwnD.made 44 w5).grown ((Below.refl _ _).alloc (Nat.le_refl _) _) (Nat.le_refl _) (by simp) hg1
    have q2 : qs1.length + L2.length ≤ 1000000 := by
      have : (qs1.map (·.d)).length = qs1.length := by simp
      rw [hq1] at this
      omega
    have hz6 := hb6.size
    have hown1' : OwnD 44 w6 w5.heap.size v6 qs1 := hown1
    have HQ1 := Lib.hid hq1
    clear hg1 hown1 q1 hq1
    go_wp2_with (at_builtin; refine (wpList_appD _ (by rfl) _ _ 22 rfl w5.heap.size 44 i0 (.agg #[.string ⟨#[]⟩, .slice none 0 0, .slice none 0 0]) Tryd.underlying22 hi hz0 hz1 hz2 rfl v6 qs1 rfl hown1' a2 c2 L2 rfl w5 (HD2.out _ hb5) hb6 q2 hz6 ?_))
    intro v7 w7 qs2 hq2 ho2 hown2 hg2
    have hb7 : Below w5.heap.size w5 w7 := hown1'.grown hb6 (Nat.le_refl _) hz6 hg2
    obtain ⟨a7, c7, e9, hd7⟩ := hown2.defs (fun q hq => by
      have hq : q ∈ qs1 ++ qs2 := by simpa using hq
      rw [List.mem_append] at hq
      rcases hq with hq | hq
      · exact (ho1 q hq).call hb7
      · exact (ho2 q hq).call hb7)
    have hmap : List.map (fun x : DefAt => x.d) (qs1 ++ qs2) = L3 := by rw [List.map_append, HQ1.out, hq2, HL3.out]
    have hlen : (qs1 ++ qs2).length = L3.length := by rw [← hmap]; simp
    rw [hmap] at hd7
    rw [hlen] at e9
    subst e9
    have hlk := rLike_any a3 a7 c3 c7 L3 L3 w7 (HD3.out _ (bthen hb5 hb7)) hd7
    rw [(likeDs_iff _ _).2 rfl] at hlk
    have HLK := Lib.hid hlk
    have HB7 := Lib.hid (bthen HB4.out (bthen hb5 hb7))
    clear hlk hd7 hmap hlen hg2 hown2 hown1' q2 hz6 hq2 ho1 ho2
    go_wp2_with (go_at_call 11; (with_reducible refine HLK.out.mono ?_); rintro e w8 ⟨rfl, hb8⟩)
    go_ret
    exact ⟨rfl, bthen HB7.out hb8⟩
end Go.Proofs.YthodifgohdaedabDoor
