/- The contract of label.Parse. -/
import Derived.Test.YtdlhmjdjoadioabGreatDoorZLabRL
import Derived.Test.YtdlhmjdjoadioabGreatDoorMg9
namespace Go.Proofs.YtdlhmjdjoadioabGreatDoor
open Go.RowKit

theorem quoteL_ge (v : Bs) : v.length ≤ (quoteL v).length := by
  induction v with
  | nil => simp [quoteL]
  | cons c v ih =>
    rw [quoteL_cons, List.length_append, List.length_cons]
    split <;> simp <;> omega
theorem rdLab_sizes {s ahead : Bs} {l : Lab} {r : Bs} (h : rdLab s ahead = some (l, r)) : l.1.size ≤ s.length ∧ l.2.size ≤ s.length ∧ r.length ≤ s.length := by
  have e := congrArg List.length (rdLab_sound h)
  have hq := quoteL_ge l.2.data.toList
  simp only [labT, List.length_append, List.length_cons, List.length_nil, Array.length_toList, ByteArray.size_data] at e hq
  omega
def parseP (s : Bs) : List Lab × Int := match parseL s with | some l => (l, 0) | none => ([], 6)
def sliceLen : Value → Nat
  | .slice _ n _ => n
  | _ => 0

set_option maxHeartbeats 3200000 in
set_option maxRecDepth 100000 in
theorem parse_any (s : ByteArray) (w : World) (hm : MaxC w) (hs : s.size ≤ 1000000) :
    Calls Tryz.prog 21 #[.string s] w (LabsE (parseP s.data.toList).1 (parseP s.data.toList).2 w) := by
  obtain ⟨i0, hi, hz0, hz1, hz2⟩ := info_parts Tryz.infoL
  have hcp := fun W => Tryz.strings_CutPrefix s ⟨#[123]⟩ W
  rw [show (⟨#[123]⟩ : ByteArray).data.toList = [123] from rfl] at hcp
  obtain ⟨R, hR⟩ : ∃ R, parseP s.data.toList = R := ⟨_, rfl⟩
  rw [hR]
  have HM := Lib.hid hm
  clear hm
  unfold parseP parseL at hR
  have htl : (Lib.trimPrefix s.data.toList [123]).length ≤ 1000000 := by
    unfold Lib.trimPrefix
    split
    · simp; omega
    · simpa using hs
  generalize Lib.trimPrefix s.data.toList [123] = T at *
  generalize Lib.hasPrefix s.data.toList [123] = B at *
  have hcs := fun W => Tryz.strings_CutSuffix ⟨T.toArray⟩ ⟨#[125]⟩ W (by simp [ByteArray.size]; omega)
  rw [show (⟨#[125]⟩ : ByteArray).data.toList = [125] from rfl, show (⟨T.toArray⟩ : ByteArray).data.toList = T from rfl] at hcs
  have hul : (Lib.trimSuffix T [125]).length ≤ 1000000 := by
    unfold Lib.trimSuffix
    split
    · simp; omega
    · exact htl
  generalize Lib.trimSuffix T [125] = U at *
  generalize Lib.hasSuffix T [125] = D at *
  have HCP := Lib.hid fun W => (hcp W).mono fun _ _ h => (⟨h.1, h.2.symm⟩ : _ ∧ W = _)
  have HCS := Lib.hid fun W => (hcs W).mono fun _ _ h => (⟨h.1, h.2.symm⟩ : _ ∧ W = _)
  clear hcp hcs htl
  cases B with
  | false =>
    obtain rfl : ([], 6) = R := by rw [← hR]; rfl
    go_enter Tryz.func21, Tryz.ntmps21
    go_wp2_with (first
      | (go_at_call 46; (with_reducible refine (HCP.out _).mono ?_); rintro e w1 ⟨rfl, rfl⟩)
      | (go_at_call 47; (with_reducible refine (HCS.out _).mono ?_); rintro e w2 ⟨rfl, rfl⟩))
    go_ret2
    exact labsE_nil (Below.refl _ _)
  | true =>
    cases D with
    | false =>
      obtain rfl : ([], 6) = R := by rw [← hR]; rfl
      go_enter Tryz.func21, Tryz.ntmps21
      go_wp2_with (first
        | (go_at_call 46; (with_reducible refine (HCP.out _).mono ?_); rintro e w1 ⟨rfl, rfl⟩)
        | (go_at_call 47; (with_reducible refine (HCS.out _).mono ?_); rintro e w2 ⟨rfl, rfl⟩))
      go_ret2
      exact labsE_nil (Below.refl _ _)
    | true =>
      obtain ⟨O, hO⟩ : ∃ O, rdAll 9 U [] = O := ⟨_, rfl⟩
      rw [hO] at hR
      have HO := Lib.hid hO
      have HR := Lib.hid hR
      clear hO hR
      go_enter Tryz.func21, Tryz.ntmps21
      go_wp2_with (first
        | (go_at_call 46; (with_reducible refine (HCP.out _).mono ?_); rintro e w1 ⟨rfl, rfl⟩)
        | (go_at_call 47; (with_reducible refine (HCS.out _).mono ?_); rintro e w2 ⟨rfl, rfl⟩))
      go_loopw [4, 7] (fun r l wr => ∃ (n : Nat) (acc : List Lab) (rest : Bs), n + acc.length = 9 ∧ rest.length ≤ 1000000 ∧ Hid (rdAll n rest acc = O) ∧ r = .string ⟨rest.toArray⟩ ∧ sliceLen l = acc.length ∧ (∀ x ∈ acc, x.1.size ≤ 1000000 ∧ x.2.size ≤ 1000000) ∧ OwnL 60 wr w.heap.size l acc ∧ Below w.heap.size w wr ∧ w.heap.size ≤ wr.heap.size) (fun _ l _ => 9 - sliceLen l)
      case atStart => exact ⟨9, [], U, rfl, hul, HO, rfl, rfl, by simp, OwnL.nil _ _ _, Below.refl _ _, Nat.le_refl _⟩
      case round =>
        clear HO hul HCP HCS
        obtain ⟨n, acc, rest, hn, hrl, HO, rfl, hsl, hsz, hown, hb, hz⟩ := hrel
        have hszm : ∀ x ∈ acc, x.1.size ≤ maxLen ∧ x.2.size ≤ maxLen := fun x hx => by unfold maxLen; have := hsz x hx; omega
        obtain ⟨a, c, rfl, hL⟩ := hown.labs hszm
        by_cases hr0 : rest = []
        · have t1 : rest.isEmpty = true := by rw [hr0]; rfl
          have hre : some acc = O := by
            rw [← HO.out, hr0]
            cases n with
            | zero => rfl
            | succ n => rw [rdAll, if_pos rfl]
          subst hre
          clear HO
          cases hri : rightC acc with
          | false =>
            have hRe : ([], 6) = R := by rw [← HR.out]; simp [hri]
            subst hRe
            have hrr := right_any a c acc wr hL
            rw [hri] at hrr
            have HRR := Lib.hid hrr
            clear hrr hri HR
            go_wp2_with (go_at_call 39; (with_reducible refine HRR.out.mono ?_); rintro e w3 ⟨rfl, hb3⟩)
            go_ret2
            exact labsE_nil (bthen hb hb3)
          | true =>
            have hRe : (acc, 0) = R := by rw [← HR.out]; simp [hri]
            subst hRe
            have hrr := right_any a c acc wr hL
            rw [hri] at hrr
            have HRR := Lib.hid hrr
            clear hrr hri HR
            go_wp2_with (go_at_call 39; (with_reducible refine HRR.out.mono ?_); rintro e w3 ⟨rfl, hb3⟩)
            go_ret2
            exact ⟨a, c, rfl, hL.call hb3, bthen hb hb3⟩
        · have t1 : rest.isEmpty = false := by cases rest with | nil => exact absurd rfl hr0 | cons _ _ => rfl
          by_cases h8 : acc.length ≤ 8
          · obtain ⟨n, rfl⟩ : ∃ n', n = n' + 1 := ⟨n - 1, by omega⟩
            have t2 : decide ((acc.length : Int) ≤ 8) = true := by rw [decide_eq_true_iff]; omega
            rcases Nat.eq_zero_or_pos acc.length with ha | ha
            · have t3 : decide (0 < acc.length) = false := by rw [decide_eq_false_iff_not]; omega
              have hrl' := readLabel_any ⟨rest.toArray⟩ ⟨#[]⟩ wr (HM.out.call (hb.mono (Nat.le_refl _))) (by simpa [ByteArray.size] using hrl)
              rw [show (⟨rest.toArray⟩ : ByteArray).data.toList = rest from rfl, show (⟨#[]⟩ : ByteArray).data.toList = aheadL acc by rw [List.eq_nil_of_length_eq_zero ha]; rfl] at hrl'
              clear ha
              cases hq : rdLab rest (aheadL acc) with
              | none =>
                rw [hq] at hrl'
                have hre : none = O := by rw [← HO.out, rdAll, if_neg hr0, hq]
                subst hre
                have hRe : ([], 6) = R := by rw [← HR.out]; simp
                subst hRe
                have HRL := Lib.hid hrl'
                clear hq hrl' HO HR hr0 h8
                go_wp2_with (go_at_call 48; (with_reducible refine HRL.out.mono ?_); rintro e w3 ⟨⟨l, r, rfl⟩, hb3⟩)
                go_ret2
                exact labsE_nil ((bthen hb hb3).alloc (bthen hb hb3).size _)
              | some p =>
                obtain ⟨X, r⟩ := p
                rw [hq] at hrl'
                obtain ⟨s1, s2, s3⟩ := rdLab_sizes hq
                have hre : Hid (rdAll n r (acc ++ [X]) = O) := Lib.hid (by rw [← HO.out, rdAll, if_neg hr0, hq])
                have HRL := Lib.hid hrl'
                have hsz2 : ∀ x ∈ acc ++ [X], x.1.size ≤ 1000000 ∧ x.2.size ≤ 1000000 := by
                  intro x hx
                  rcases List.mem_append.1 hx with hx | hx
                  · exact hsz x hx
                  · rw [List.mem_singleton.1 hx]; omega
                have HSZ := Lib.hid hsz2
                have hownD := fun W (hW : Below wr.heap.size wr W) => hown.call hW
                clear hq hrl' HO hr0 h8 hsz2 hsz hszm hown hL
                go_upto_region 11 with (go_at_call 48; (with_reducible refine HRL.out.mono ?_); rintro e w3 ⟨rfl, hb3⟩)
                have hbx := Blk.new w3 60 #[.string X.1, .string X.2]
                have hown2 := (hownD w3 hb3).alloc (.cells #[.string X.1, .string X.2] 60)
                have hb4 := bthen hb hb3
                have hb5 := hb4.alloc hb4.size (.cells #[.string X.1, .string X.2] 60)
                have hz5 := hb5.size
                clear hownD hb3 hb4 hb HRL
                generalize w3.alloc (.cells #[.string X.1, .string X.2] 60) = W at *
                generalize w3.heap.size = G at *
                have q1 := hbx.cell 0
                have q2 := hbx.cell 1
                go_wp2_with (at_builtin; refine (wpList_pushL W rfl _ _ 22 rfl w.heap.size 60 i0 (.agg #[.string ⟨#[]⟩, .string ⟨#[]⟩]) Tryz.underlying22 hi hz0 hz1 hz2 rfl (.slice a acc.length c) acc X rfl hown2 [.string X.1, .string X.2] rfl rfl (by omega) hz5 ?_))
                intro v6 w6 hown6 hg6
                have hb6 : Below w.heap.size w w6 := hown2.grown hb5 hz5 hg6
                have hz6 := Nat.le_trans hz5 hg6.size
                have hv6 : sliceLen v6 = (acc ++ [X]).length := by
                  obtain ⟨_, _, rfl, _⟩ := hown6.labs (fun x hx => by unfold maxLen; have := HSZ.out x hx; omega)
                  rfl
                clear hown2 hb5 hz5 hg6 hbx q1 q2
                go_wp2
                go_roundw
                case rel => exact ⟨n, acc ++ [X], r, by simp; omega, by omega, hre, rfl, hv6, HSZ.out, hown6, hb6, hz6⟩
                case measure => rw [hv6]; simp [sliceLen]; omega
            · have t3 : decide (0 < acc.length) = true := by rw [decide_eq_true_iff]; omega
              have hne : acc ≠ [] := fun h => by rw [h] at ha; simp at ha
              have hrl' := readLabel_any ⟨rest.toArray⟩ ⟨#[44]⟩ wr (HM.out.call (hb.mono (Nat.le_refl _))) (by simpa [ByteArray.size] using hrl)
              rw [show (⟨rest.toArray⟩ : ByteArray).data.toList = rest from rfl, show (⟨#[44]⟩ : ByteArray).data.toList = aheadL acc by rw [aheadL, if_neg hne]] at hrl'
              clear hne
              cases hq : rdLab rest (aheadL acc) with
              | none =>
                rw [hq] at hrl'
                have hre : none = O := by rw [← HO.out, rdAll, if_neg hr0, hq]
                subst hre
                have hRe : ([], 6) = R := by rw [← HR.out]; simp
                subst hRe
                have HRL := Lib.hid hrl'
                clear hq hrl' HO HR hr0 h8
                go_wp2_with (go_at_call 48; (with_reducible refine HRL.out.mono ?_); rintro e w3 ⟨⟨l, r, rfl⟩, hb3⟩)
                go_ret2
                exact labsE_nil ((bthen hb hb3).alloc (bthen hb hb3).size _)
              | some p =>
                obtain ⟨X, r⟩ := p
                rw [hq] at hrl'
                obtain ⟨s1, s2, s3⟩ := rdLab_sizes hq
                have hre : Hid (rdAll n r (acc ++ [X]) = O) := Lib.hid (by rw [← HO.out, rdAll, if_neg hr0, hq])
                have HRL := Lib.hid hrl'
                have hsz2 : ∀ x ∈ acc ++ [X], x.1.size ≤ 1000000 ∧ x.2.size ≤ 1000000 := by
                  intro x hx
                  rcases List.mem_append.1 hx with hx | hx
                  · exact hsz x hx
                  · rw [List.mem_singleton.1 hx]; omega
                have HSZ := Lib.hid hsz2
                have hownD := fun W (hW : Below wr.heap.size wr W) => hown.call hW
                clear hq hrl' HO hr0 h8 hsz2 hsz hszm hown hL
                go_upto_region 11 with (go_at_call 48; (with_reducible refine HRL.out.mono ?_); rintro e w3 ⟨rfl, hb3⟩)
                have hbx := Blk.new w3 60 #[.string X.1, .string X.2]
                have hown2 := (hownD w3 hb3).alloc (.cells #[.string X.1, .string X.2] 60)
                have hb4 := bthen hb hb3
                have hb5 := hb4.alloc hb4.size (.cells #[.string X.1, .string X.2] 60)
                have hz5 := hb5.size
                clear hownD hb3 hb4 hb HRL
                generalize w3.alloc (.cells #[.string X.1, .string X.2] 60) = W at *
                generalize w3.heap.size = G at *
                have q1 := hbx.cell 0
                have q2 := hbx.cell 1
                go_wp2_with (at_builtin; refine (wpList_pushL W rfl _ _ 22 rfl w.heap.size 60 i0 (.agg #[.string ⟨#[]⟩, .string ⟨#[]⟩]) Tryz.underlying22 hi hz0 hz1 hz2 rfl (.slice a acc.length c) acc X rfl hown2 [.string X.1, .string X.2] rfl rfl (by omega) hz5 ?_))
                intro v6 w6 hown6 hg6
                have hb6 : Below w.heap.size w w6 := hown2.grown hb5 hz5 hg6
                have hz6 := Nat.le_trans hz5 hg6.size
                have hv6 : sliceLen v6 = (acc ++ [X]).length := by
                  obtain ⟨_, _, rfl, _⟩ := hown6.labs (fun x hx => by unfold maxLen; have := HSZ.out x hx; omega)
                  rfl
                clear hown2 hb5 hz5 hg6 hbx q1 q2
                go_wp2
                go_roundw
                case rel => exact ⟨n, acc ++ [X], r, by simp; omega, by omega, hre, rfl, hv6, HSZ.out, hown6, hb6, hz6⟩
                case measure => rw [hv6]; simp [sliceLen]; omega
          · have hn0 : n = 0 := by omega
            have t2 : decide ((acc.length : Int) ≤ 8) = false := by rw [decide_eq_false_iff_not]; omega
            subst hn0
            have hre : some acc = O := HO.out
            subst hre
            have hri : rightC acc = false := by
              rw [← Bool.not_eq_true]
              exact fun h => h8 ((rightC_iff _).1 h).1
            have hRe : ([], 6) = R := by rw [← HR.out]; simp [hri]
            subst hRe
            have hrr := right_any a c acc wr hL
            rw [hri] at hrr
            have HRR := Lib.hid hrr
            clear hrr hri HR HO hr0
            go_wp2_with (go_at_call 39; (with_reducible refine HRR.out.mono ?_); rintro e w3 ⟨rfl, hb3⟩)
            go_ret2
            exact labsE_nil (bthen hb hb3)
end Go.Proofs.YtdlhmjdjoadioabGreatDoor
