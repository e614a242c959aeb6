/- The contract of the document's own Parse of layer 3. -/
import Derived.Test.YtdlhmjdjoadioabGreatDoorMg14
import Derived.Test.YtdlhmjdjoadioabGreatDoorMg13
import Derived.Test.YtdlhmjdjoadioabGreatDoorZLabJ
namespace Go.Proofs.YtdlhmjdjoadioabGreatDoor
open Go.RowKit

theorem blk_pushL {w w1 : World} {g base : Nat} {t e : TypeId} {cs : Array Value} {v : Value} {l : List Lab} (h : Blk w g t cs) (hown : OwnL e w base v l) (hne : e ≠ t) (hg : w.grownBy w1 v.ownBlock) : Blk w1 g t cs := by
  refine h.push hg fun e1 => ?_
  rcases hown.2 with ⟨rfl, _⟩ | ⟨g1, cap, cur, rfl, _, hh, _⟩
  · cases e1
  · have e2 : g = g1 := by simpa [Value.ownBlock] using e1
    subst e2
    unfold Blk at h
    rw [h] at hh
    simp at hh
    exact hne hh.2.symm

set_option maxHeartbeats 6400000 in
set_option maxRecDepth 100000 in
theorem rParse_any (s : ByteArray) (w : World) (hs : s.size ≤ 1000000) :
    Calls Tryz.prog 25 #[.string s] w (LabsB (refP s.data.toList).1 (refP s.data.toList).2 w) := by
  obtain ⟨i0, hi, hz0, hz1, hz2⟩ := info_parts Tryz.infoL
  have hownE := OwnL.empty 60 w
  have hbE := (Below.refl _ w).alloc (Nat.le_refl _) (.cells #[] 60)
  by_cases he : s.data.toList = [123, 125]
  · skip
    have hR : refP s.data.toList = ([], true) := ref_yes rfl (by rw [he]; rfl)
    rw [hR]
    have hsl : s = ⟨#[123, 125]⟩ := bytes_ext he
    subst hsl
    clear he hR
    go_enter Tryz.func25, Tryz.ntmps25
    go_wp2
    go_ret2
    obtain ⟨a, c, hv, hL⟩ := hownE.labs (by simp)
    refine ⟨a, c, ?_, hL, hbE⟩
    show Ending.returned (.tuple #[.slice (some ⟨w.heap.size, 0, none⟩) 0 0, .bool true]) = _
    rw [hv]
  · have t0 : (s.toList == [123, 125]) = false := by rw [beq_eq_false_iff_ne, ByteArray.toList_eq]; exact he
    obtain ⟨O, hO⟩ : ∃ O, loopR 9 s.data.toList [] = O := ⟨_, rfl⟩
    have HNO := Lib.hid (ref_no he hO)
    have HO := Lib.hid hO
    obtain ⟨R, hR⟩ : ∃ R, refP s.data.toList = R := ⟨_, rfl⟩
    rw [hR]
    have HR := Lib.hid hR
    clear hO hR he
    go_enter Tryz.func25, Tryz.ntmps25
    go_wp2
    go_loopw [4, 5] (fun l i wr => ∃ (n : Nat) (out : List Lab) (k : Nat), n + out.length = 9 ∧ k ≤ s.size ∧ Hid (loopR n (s.data.toList.drop k) out = O) ∧ i = .int .i64 k ∧ (k = 0 ↔ out = []) ∧ sliceLen l = out.length ∧ (∀ x ∈ out, x.1.size ≤ 1000000 ∧ x.2.size ≤ 1000000) ∧ OwnL 60 wr w.heap.size l out ∧ Below w.heap.size w wr ∧ w.heap.size ≤ wr.heap.size) (fun l _ _ => 9 - sliceLen l)
    case atStart => exact ⟨9, [], 0, rfl, Nat.zero_le _, HO, rfl, by simp, rfl, by simp, hownE, hbE, hbE.size⟩
    case round =>
      clear HO hownE hbE
      obtain ⟨n, out, k, hn, hk, HO, rfl, hk0, hsl, hsz, hown, hb, hz⟩ := hrel
      have hszm : ∀ x ∈ out, x.1.size ≤ maxLen ∧ x.2.size ≤ maxLen := fun x hx => by unfold maxLen; have := hsz x hx; omega
      obtain ⟨a, c, rfl, hL⟩ := hown.labs hszm
      by_cases hks : k < s.size
      · have hd := drop_byte s k hks
        by_cases h9 : out.length < 9
        · obtain ⟨n, rfl⟩ : ∃ n', n = n' + 1 := ⟨n - 1, by omega⟩
          have t9 : decide ((out.length : Int) < 9) = true := by rw [decide_eq_true_iff]; omega
          have hO1 := HO.out
          rw [hd, loopR] at hO1
          rcases Nat.eq_zero_or_pos k with hk1 | hk1
          · have ho : out = [] := hk0.1 hk1
            subst hk1
            have hsg : signLb out = 123 := by rw [ho]; rfl
            by_cases hc : s[0] = 123
            · have tc : ((s[0].toNat : Int) != 123) = false := by rw [hc]; rfl
              rw [hsg, if_pos hc] at hO1
              have hon : Calls Tryz.prog 50 #[.string s, .int .i64 (1)] wr (OnePost (rdOne (s.data.toList.drop (0 + 1))) s.size wr) := one_any s (0 + 1) wr hs (by omega)
              cases hq : rdOne (s.data.toList.drop (0 + 1)) with
              | none =>
                rw [hq] at hO1 hon
                obtain rfl : none = O := hO1
                have hRe : ([], false) = R := by
                  rw [← HR.out]
                  exact (HNO.out fun ls e _ _ => by simp at e).symm
                subst hRe
                obtain ⟨m, hm⟩ : ∃ m : Int, m = -1 := ⟨_, rfl⟩
                have hon2 : Calls Tryz.prog 50 #[.string s, .int .i64 (1)] wr fun e w' => e = .returned (.agg #[.string ⟨#[]⟩, .string ⟨#[]⟩, .int .i64 m]) ∧ Below wr.heap.size wr w' := by rw [hm]; exact hon
                have tm : (m < 0) = True := by rw [hm]; simp
                have HON := Lib.hid hon2
                clear HO HR HNO hd hon hon2 hq hc hm ho hk0 hsg hsz hszm hown hL
                go_wp2_with (go_at_call 50; (with_reducible refine HON.out.mono ?_); rintro e w3 ⟨rfl, hb3⟩)
                go_ret2
                exact labsB_nil ((bthen hb hb3).alloc (bthen hb hb3).size _)
              | some p =>
                obtain ⟨X, r⟩ := p
                rw [hq] at hO1 hon
                obtain ⟨⟨pp, hpp⟩, s1, s2⟩ := rdOne_suffix hq
                obtain ⟨hbk, hrl⟩ := drop_back hpp s (0 + 1) (by omega) rfl
                have hlt : 0 < s.size - r.length := by
                  have := congrArg List.length hpp
                  simp at this
                  omega
                simp only [List.length_drop, Array.length_toList, ByteArray.size_data] at s1 s2
                obtain ⟨K, hK⟩ : ∃ K, s.size - r.length = K := ⟨_, rfl⟩
                have hon' : Calls Tryz.prog 50 #[.string s, .int .i64 (1)] wr fun e w' => e = .returned (.agg #[.string X.1, .string X.2, .int .i64 (K : Int)]) ∧ Below wr.heap.size wr w' := by rw [← hK]; exact hon
                have hre : Hid (loopR n (s.data.toList.drop K) (out ++ [X]) = O) := Lib.hid (by rw [← hK, hbk]; exact hO1)
                have HON := Lib.hid hon'
                have hsz2 : ∀ x ∈ out ++ [X], x.1.size ≤ 1000000 ∧ x.2.size ≤ 1000000 := by
                  intro x hx
                  rcases List.mem_append.1 hx with hx | hx
                  · exact hsz x hx
                  · rw [List.mem_singleton.1 hx]; omega
                have HSZ := Lib.hid hsz2
                have hKs : K ≤ s.size := by omega
                have hK0 : (K = 0 ↔ out ++ [X] = []) := ⟨fun h => by omega, fun h => by simp at h⟩
                have HK0 := Lib.hid hK0
                have tK : ((K : Int) < 0) = False := by simp
                have hownD := fun W (hW : Below wr.heap.size wr W) => hown.call hW
                clear HO HR HNO hd hon hon' hq hc hO1 hpp hbk hrl hK hsz2 hsz hszm hown hL hK0 hsg ho hk0 s1 s2
                go_upto_region 11 with (go_at_call 50; (with_reducible refine HON.out.mono ?_); rintro e w3 ⟨rfl, hb3⟩)
                have hbx := Blk.new w3 78 #[.string X.1, .string X.2, .int .i64 (K : Int)]
                have hown2 := (hownD w3 hb3).alloc (.cells #[.string X.1, .string X.2, .int .i64 (K : Int)] 78)
                have hb4 := bthen hb hb3
                have hb5 := hb4.alloc hb4.size (.cells #[.string X.1, .string X.2, .int .i64 (K : Int)] 78)
                have hz5 := hb5.size
                clear hownD hb3 hb4 hb HON
                generalize w3.alloc (.cells #[.string X.1, .string X.2, .int .i64 (K : Int)] 78) = W at *
                generalize w3.heap.size = G at *
                have q0 := hbx.cell 0
                have q1 := hbx.cell 1
                have q2 := hbx.cell 2
                go_wp2_with (at_builtin; refine (wpList_pushL W rfl _ _ 22 rfl w.heap.size 60 i0 (.agg #[.string ⟨#[]⟩, .string ⟨#[]⟩]) Tryz.underlying22 hi hz0 hz1 hz2 rfl (.slice a out.length c) out X rfl hown2 [.string X.1, .string X.2] rfl rfl (by omega) hz5 ?_))
                intro v6 w6 hown6 hg6
                have hb6 : Below w.heap.size w w6 := hown2.grown hb5 hz5 hg6
                have hz6 := Nat.le_trans hz5 hg6.size
                have hbx6 : Blk w6 G 78 #[.string X.1, .string X.2, .int .i64 (K : Int)] := blk_pushL hbx hown2 (by decide) hg6
                have hv6 : sliceLen v6 = (out ++ [X]).length := by
                  obtain ⟨_, _, rfl, _⟩ := hown6.labs (fun x hx => by unfold maxLen; have := HSZ.out x hx; omega)
                  rfl
                clear hown2 hb5 hz5 hg6 hbx q0 q1 q2
                have q2 := hbx6.cell 2
                go_wp2
                go_roundw
                case rel => exact ⟨n, out ++ [X], K, by simp; omega, hKs, hre, rfl, HK0.out, hv6, HSZ.out, hown6, hb6, hz6⟩
                case measure => rw [hv6]; simp [sliceLen]; omega
            · have tc : ((s[0].toNat : Int) != 123) = true := by
                rw [bne_iff_ne]
                intro e
                exact hc (UInt8.toNat_inj.1 (by rw [show s[0].toNat = 123 by omega]; rfl))
              rw [hsg, if_neg hc, ← hd] at hO1
              have hre : some (out, s.data.toList.drop 0) = O := hO1
              subst hre
              clear HO hsg ho hk0 hc
              by_cases hl : 0 + 1 = s.size
              · have tl : (s.size : Int) = 1 := by omega
                have hd1 : s.data.toList.drop 0 = [s[0]] := by rw [hd, drop_end s (0 + 1) (by omega)]
                by_cases h125 : s[0] = 125
                · have tc2 : ((s[0].toNat : Int) != 125) = false := by rw [h125]; rfl
                  have hrr := rRight_any a c out wr hL
                  cases hr : rightC out with
                  | false =>
                    rw [hr] at hrr
                    have hRe : ([], false) = R := by
                      rw [← HR.out]
                      refine (HNO.out fun ls e h1 _ => ?_).symm
                      simp only [Option.some.injEq, Prod.mk.injEq] at e
                      rw [← e.1, hr] at h1
                      cases h1
                    subst hRe
                    have HRR := Lib.hid hrr
                    clear HR HNO hr hrr hd hd1 h125 hl
                    go_wp2_with (go_at_call 33; (with_reducible refine HRR.out.mono ?_); rintro e w3 ⟨rfl, hb3⟩)
                    go_ret2
                    exact labsB_nil (bthen hb hb3)
                  | true =>
                    rw [hr] at hrr
                    have hrt := fun V (h : HasLabs V a c out) => rText_any a c out V h hr
                    have HRR := Lib.hid hrr
                    have HRT := Lib.hid hrt
                    by_cases hx : textL out = s.data.toList
                    · have tx : ((textS out).toList == s.toList) = true := by rw [beq_iff_eq, ByteArray.toList_eq, ByteArray.toList_eq]; exact hx
                      have hRe : (out, true) = R := by rw [← HR.out]; exact (ref_yes hr hx).symm
                      subst hRe
                      clear HR HNO hr hrr hrt hd hd1 h125 hx hl
                      generalize textS out = TX at *
                      go_wp2_with (first
                        | (go_at_call 33; (with_reducible refine HRR.out.mono ?_); rintro e w3 ⟨rfl, hb3⟩; have hL3 := hL.call hb3)
                        | (go_at_call 34; (with_reducible refine (HRT.out _ hL3).mono ?_); rintro e w4 ⟨rfl, hb4⟩))
                      go_ret2
                      exact ⟨a, c, rfl, hL3.call hb4, bthen (bthen hb hb3) hb4⟩
                    · have tx : ((textS out).toList == s.toList) = false := by rw [beq_eq_false_iff_ne, ByteArray.toList_eq, ByteArray.toList_eq]; exact hx
                      have hRe : ([], false) = R := by
                        rw [← HR.out]
                        refine (HNO.out fun ls e _ h2 => ?_).symm
                        simp only [Option.some.injEq, Prod.mk.injEq] at e
                        exact hx (by rw [e.1]; exact h2)
                      subst hRe
                      clear HR HNO hr hrr hrt hd hd1 h125 hx hl
                      generalize textS out = TX at *
                      go_wp2_with (first
                        | (go_at_call 33; (with_reducible refine HRR.out.mono ?_); rintro e w3 ⟨rfl, hb3⟩; have hL3 := hL.call hb3)
                        | (go_at_call 34; (with_reducible refine (HRT.out _ hL3).mono ?_); rintro e w4 ⟨rfl, hb4⟩))
                      go_ret2
                      exact labsB_nil (bthen (bthen hb hb3) hb4)
                · have tc2 : ((s[0].toNat : Int) != 125) = true := by
                    rw [bne_iff_ne]
                    intro e
                    exact h125 (UInt8.toNat_inj.1 (by rw [show s[0].toNat = 125 by omega]; rfl))
                  have hRe : ([], false) = R := by
                    rw [← HR.out]
                    refine (HNO.out fun ls e _ _ => ?_).symm
                    simp only [Option.some.injEq, Prod.mk.injEq] at e
                    rw [hd1] at e
                    simp at e
                    exact h125 e.2
                  subst hRe
                  clear HR HNO hd hd1 h125 hl
                  go_wp2
                  go_ret2
                  exact labsB_nil hb
              · have tl : ((0 : Int) != (s.size : Int) - 1) = true := by rw [bne_iff_ne]; omega
                have hRe : ([], false) = R := by
                  rw [← HR.out]
                  refine (HNO.out fun ls e _ _ => ?_).symm
                  simp only [Option.some.injEq, Prod.mk.injEq] at e
                  have := congrArg List.length e.2
                  simp at this
                  omega
                subst hRe
                clear HR HNO hd
                go_wp2
                go_ret2
                exact labsB_nil hb
          · have ho : out ≠ [] := fun e => by have := hk0.2 e; omega
            have tk : ((k : Int) == 0) = false := by rw [beq_eq_false_iff_ne]; omega
            have hsg : signLb out = 44 := by rw [signLb, if_neg ho]
            by_cases hc : s[k] = 44
            · have tc : ((s[k].toNat : Int) != 44) = false := by rw [hc]; rfl
              rw [hsg, if_pos hc] at hO1
              have hon : Calls Tryz.prog 50 #[.string s, .int .i64 ((k : Int) + 1)] wr (OnePost (rdOne (s.data.toList.drop (k + 1))) s.size wr) := one_any s (k + 1) wr hs (by omega)
              cases hq : rdOne (s.data.toList.drop (k + 1)) with
              | none =>
                rw [hq] at hO1 hon
                obtain rfl : none = O := hO1
                have hRe : ([], false) = R := by
                  rw [← HR.out]
                  exact (HNO.out fun ls e _ _ => by simp at e).symm
                subst hRe
                obtain ⟨m, hm⟩ : ∃ m : Int, m = -1 := ⟨_, rfl⟩
                have hon2 : Calls Tryz.prog 50 #[.string s, .int .i64 ((k : Int) + 1)] wr fun e w' => e = .returned (.agg #[.string ⟨#[]⟩, .string ⟨#[]⟩, .int .i64 m]) ∧ Below wr.heap.size wr w' := by rw [hm]; exact hon
                have tm : (m < 0) = True := by rw [hm]; simp
                have HON := Lib.hid hon2
                clear HO HR HNO hd hon hon2 hq hc hm ho hk0 hsg hsz hszm hown hL
                go_wp2_with (go_at_call 50; (with_reducible refine HON.out.mono ?_); rintro e w3 ⟨rfl, hb3⟩)
                go_ret2
                exact labsB_nil ((bthen hb hb3).alloc (bthen hb hb3).size _)
              | some p =>
                obtain ⟨X, r⟩ := p
                rw [hq] at hO1 hon
                obtain ⟨⟨pp, hpp⟩, s1, s2⟩ := rdOne_suffix hq
                obtain ⟨hbk, hrl⟩ := drop_back hpp s (k + 1) (by omega) rfl
                have hlt : k < s.size - r.length := by
                  have := congrArg List.length hpp
                  simp at this
                  omega
                simp only [List.length_drop, Array.length_toList, ByteArray.size_data] at s1 s2
                obtain ⟨K, hK⟩ : ∃ K, s.size - r.length = K := ⟨_, rfl⟩
                have hon' : Calls Tryz.prog 50 #[.string s, .int .i64 ((k : Int) + 1)] wr fun e w' => e = .returned (.agg #[.string X.1, .string X.2, .int .i64 (K : Int)]) ∧ Below wr.heap.size wr w' := by rw [← hK]; exact hon
                have hre : Hid (loopR n (s.data.toList.drop K) (out ++ [X]) = O) := Lib.hid (by rw [← hK, hbk]; exact hO1)
                have HON := Lib.hid hon'
                have hsz2 : ∀ x ∈ out ++ [X], x.1.size ≤ 1000000 ∧ x.2.size ≤ 1000000 := by
                  intro x hx
                  rcases List.mem_append.1 hx with hx | hx
                  · exact hsz x hx
                  · rw [List.mem_singleton.1 hx]; omega
                have HSZ := Lib.hid hsz2
                have hKs : K ≤ s.size := by omega
                have hK0 : (K = 0 ↔ out ++ [X] = []) := ⟨fun h => by omega, fun h => by simp at h⟩
                have HK0 := Lib.hid hK0
                have tK : ((K : Int) < 0) = False := by simp
                have hownD := fun W (hW : Below wr.heap.size wr W) => hown.call hW
                clear HO HR HNO hd hon hon' hq hc hO1 hpp hbk hrl hK hsz2 hsz hszm hown hL hK0 hsg ho hk0 s1 s2
                go_upto_region 11 with (go_at_call 50; (with_reducible refine HON.out.mono ?_); rintro e w3 ⟨rfl, hb3⟩)
                have hbx := Blk.new w3 78 #[.string X.1, .string X.2, .int .i64 (K : Int)]
                have hown2 := (hownD w3 hb3).alloc (.cells #[.string X.1, .string X.2, .int .i64 (K : Int)] 78)
                have hb4 := bthen hb hb3
                have hb5 := hb4.alloc hb4.size (.cells #[.string X.1, .string X.2, .int .i64 (K : Int)] 78)
                have hz5 := hb5.size
                clear hownD hb3 hb4 hb HON
                generalize w3.alloc (.cells #[.string X.1, .string X.2, .int .i64 (K : Int)] 78) = W at *
                generalize w3.heap.size = G at *
                have q0 := hbx.cell 0
                have q1 := hbx.cell 1
                have q2 := hbx.cell 2
                go_wp2_with (at_builtin; refine (wpList_pushL W rfl _ _ 22 rfl w.heap.size 60 i0 (.agg #[.string ⟨#[]⟩, .string ⟨#[]⟩]) Tryz.underlying22 hi hz0 hz1 hz2 rfl (.slice a out.length c) out X rfl hown2 [.string X.1, .string X.2] rfl rfl (by omega) hz5 ?_))
                intro v6 w6 hown6 hg6
                have hb6 : Below w.heap.size w w6 := hown2.grown hb5 hz5 hg6
                have hz6 := Nat.le_trans hz5 hg6.size
                have hbx6 : Blk w6 G 78 #[.string X.1, .string X.2, .int .i64 (K : Int)] := blk_pushL hbx hown2 (by decide) hg6
                have hv6 : sliceLen v6 = (out ++ [X]).length := by
                  obtain ⟨_, _, rfl, _⟩ := hown6.labs (fun x hx => by unfold maxLen; have := HSZ.out x hx; omega)
                  rfl
                clear hown2 hb5 hz5 hg6 hbx q0 q1 q2
                have q2 := hbx6.cell 2
                go_wp2
                go_roundw
                case rel => exact ⟨n, out ++ [X], K, by simp; omega, hKs, hre, rfl, HK0.out, hv6, HSZ.out, hown6, hb6, hz6⟩
                case measure => rw [hv6]; simp [sliceLen]; omega
            · have tc : ((s[k].toNat : Int) != 44) = true := by
                rw [bne_iff_ne]
                intro e
                exact hc (UInt8.toNat_inj.1 (by rw [show s[k].toNat = 44 by omega]; rfl))
              rw [hsg, if_neg hc, ← hd] at hO1
              have hre : some (out, s.data.toList.drop k) = O := hO1
              subst hre
              clear HO hsg ho hk0 hc
              by_cases hl : k + 1 = s.size
              · have tl : (s.size : Int) = (k : Int) + 1 := by omega
                have hd1 : s.data.toList.drop k = [s[k]] := by rw [hd, drop_end s (k + 1) (by omega)]
                by_cases h125 : s[k] = 125
                · have tc2 : ((s[k].toNat : Int) != 125) = false := by rw [h125]; rfl
                  have hrr := rRight_any a c out wr hL
                  cases hr : rightC out with
                  | false =>
                    rw [hr] at hrr
                    have hRe : ([], false) = R := by
                      rw [← HR.out]
                      refine (HNO.out fun ls e h1 _ => ?_).symm
                      simp only [Option.some.injEq, Prod.mk.injEq] at e
                      rw [← e.1, hr] at h1
                      cases h1
                    subst hRe
                    have HRR := Lib.hid hrr
                    clear HR HNO hr hrr hd hd1 h125 hl
                    go_wp2_with (go_at_call 33; (with_reducible refine HRR.out.mono ?_); rintro e w3 ⟨rfl, hb3⟩)
                    go_ret2
                    exact labsB_nil (bthen hb hb3)
                  | true =>
                    rw [hr] at hrr
                    have hrt := fun V (h : HasLabs V a c out) => rText_any a c out V h hr
                    have HRR := Lib.hid hrr
                    have HRT := Lib.hid hrt
                    by_cases hx : textL out = s.data.toList
                    · have tx : ((textS out).toList == s.toList) = true := by rw [beq_iff_eq, ByteArray.toList_eq, ByteArray.toList_eq]; exact hx
                      have hRe : (out, true) = R := by rw [← HR.out]; exact (ref_yes hr hx).symm
                      subst hRe
                      clear HR HNO hr hrr hrt hd hd1 h125 hx hl
                      generalize textS out = TX at *
                      go_wp2_with (first
                        | (go_at_call 33; (with_reducible refine HRR.out.mono ?_); rintro e w3 ⟨rfl, hb3⟩; have hL3 := hL.call hb3)
                        | (go_at_call 34; (with_reducible refine (HRT.out _ hL3).mono ?_); rintro e w4 ⟨rfl, hb4⟩))
                      go_ret2
                      exact ⟨a, c, rfl, hL3.call hb4, bthen (bthen hb hb3) hb4⟩
                    · have tx : ((textS out).toList == s.toList) = false := by rw [beq_eq_false_iff_ne, ByteArray.toList_eq, ByteArray.toList_eq]; exact hx
                      have hRe : ([], false) = R := by
                        rw [← HR.out]
                        refine (HNO.out fun ls e _ h2 => ?_).symm
                        simp only [Option.some.injEq, Prod.mk.injEq] at e
                        exact hx (by rw [e.1]; exact h2)
                      subst hRe
                      clear HR HNO hr hrr hrt hd hd1 h125 hx hl
                      generalize textS out = TX at *
                      go_wp2_with (first
                        | (go_at_call 33; (with_reducible refine HRR.out.mono ?_); rintro e w3 ⟨rfl, hb3⟩; have hL3 := hL.call hb3)
                        | (go_at_call 34; (with_reducible refine (HRT.out _ hL3).mono ?_); rintro e w4 ⟨rfl, hb4⟩))
                      go_ret2
                      exact labsB_nil (bthen (bthen hb hb3) hb4)
                · have tc2 : ((s[k].toNat : Int) != 125) = true := by
                    rw [bne_iff_ne]
                    intro e
                    exact h125 (UInt8.toNat_inj.1 (by rw [show s[k].toNat = 125 by omega]; rfl))
                  have hRe : ([], false) = R := by
                    rw [← HR.out]
                    refine (HNO.out fun ls e _ _ => ?_).symm
                    simp only [Option.some.injEq, Prod.mk.injEq] at e
                    rw [hd1] at e
                    simp at e
                    exact h125 e.2
                  subst hRe
                  clear HR HNO hd hd1 h125 hl
                  go_wp2
                  go_ret2
                  exact labsB_nil hb
              · have tl : ((k : Int) != (s.size : Int) - 1) = true := by rw [bne_iff_ne]; omega
                have hRe : ([], false) = R := by
                  rw [← HR.out]
                  refine (HNO.out fun ls e _ _ => ?_).symm
                  simp only [Option.some.injEq, Prod.mk.injEq] at e
                  have := congrArg List.length e.2
                  simp at this
                  omega
                subst hRe
                clear HR HNO hd
                go_wp2
                go_ret2
                exact labsB_nil hb
        · have t9 : decide ((out.length : Int) < 9) = false := by rw [decide_eq_false_iff_not]; omega
          obtain rfl : n = 0 := by omega
          have hre : some (out, s.data.toList.drop k) = O := HO.out
          subst hre
          have hnr : rightC out = false := by
            rw [← Bool.not_eq_true]
            exact fun h => by have := ((rightC_iff _).1 h).1; omega
          have hRe : ([], false) = R := by
            rw [← HR.out]
            refine (HNO.out fun ls e h1 _ => ?_).symm
            simp only [Option.some.injEq, Prod.mk.injEq] at e
            rw [← e.1, hnr] at h1
            cases h1
          subst hRe
          have hrr := rRight_any a c out wr hL
          rw [hnr] at hrr
          have HRR := Lib.hid hrr
          clear HO HR HNO hnr hrr hd
          by_cases hl : k + 1 = s.size
          · have tl : (s.size : Int) = (k : Int) + 1 := by omega
            clear hl
            by_cases h125 : s[k] = 125
            · have tc : ((s[k].toNat : Int) != 125) = false := by rw [h125]; rfl
              clear h125
              go_wp2_with (go_at_call 33; (with_reducible refine HRR.out.mono ?_); rintro e w3 ⟨rfl, hb3⟩)
              go_ret2
              exact labsB_nil (bthen hb hb3)
            · have tc : ((s[k].toNat : Int) != 125) = true := by
                rw [bne_iff_ne]
                intro e
                exact h125 (UInt8.toNat_inj.1 (by rw [show s[k].toNat = 125 by omega]; rfl))
              clear h125
              go_wp2
              go_ret2
              exact labsB_nil hb
          · have tl : ((k : Int) != (s.size : Int) - 1) = true := by rw [bne_iff_ne]; omega
            go_wp2
            go_ret2
            exact labsB_nil hb
      · have hdr := drop_end s k (by omega)
        have hre : some (out, []) = O := by
          rw [← HO.out, hdr]
          cases n <;> rfl
        subst hre
        have hRe : ([], false) = R := by
          rw [← HR.out]
          exact (HNO.out fun ls e _ _ => by simp at e).symm
        subst hRe
        have tl : ((k : Int) != (s.size : Int) - 1) = true := by rw [bne_iff_ne]; omega
        clear HO HR HNO hdr
        go_wp2
        go_ret2
        exact labsB_nil hb
end Go.Proofs.YtdlhmjdjoadioabGreatDoor
