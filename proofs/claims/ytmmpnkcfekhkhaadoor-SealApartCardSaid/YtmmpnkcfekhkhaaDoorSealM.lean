/- Plain mathematics for layer 2: what is sealed is opened, and the other way round. It speaks of no program's text. -/
import Derived.Test.YtmmpnkcfekhkhaaDoorSealC
namespace Go.Proofs.YtmmpnkcfekhkhaaDoor
open Go.RowKit
open Go.WideShapes (bytes_inj)

theorem numB_rdv : ∀ (j : Nat) (l : List UInt8) (hj : j < l.length), (∀ k (hk : k < j), 128 ≤ (l[k]'(by omega)).toNat) → l[j].toNat < 128 → ¬ (l[j].toNat = 0 ∧ 0 < j) → numB (rdv (l.take (j + 1))) = l.take (j + 1)
  | 0, l, hj, _, hlow, _ => by
    match l, hj with
    | b :: t, _ =>
      simp only [List.getElem_cons_zero] at hlow
      have e : rdv ((b :: t).take 1) = b.toNat := by simp [rdv]; omega
      rw [e, numB_lt hlow]
      simp
  | j + 1, l, hj, hall, hlow, hz => by
    match l, hj with
    | b :: t, hj =>
      simp only [List.getElem_cons_succ] at hlow hz
      have h0 : 128 ≤ b.toNat := hall 0 (by omega)
      have hb := b.toNat_lt
      have hj' : j < t.length := by simpa using hj
      have ih := numB_rdv j t hj' (fun k hk => by have := hall (k + 1) (by omega); simpa using this) hlow (fun h => hz ⟨h.1, by omega⟩)
      have e : rdv ((b :: t).take (j + 1 + 1)) = b.toNat % 128 + 128 * rdv (t.take (j + 1)) := by rw [List.take_succ_cons, rdv]
      have hpos : rdv (t.take (j + 1)) ≠ 0 := by
        intro h
        rw [h, numB_lt (by omega)] at ih
        have hl := congrArg List.length ih
        rw [List.length_take] at hl
        have hj0 : j = 0 := by simp at hl; omega
        subst hj0
        match t, hj' with
        | c :: t', _ =>
          simp at ih
          apply hz
          refine ⟨?_, by omega⟩
          simp only [List.getElem_cons_zero]
          rw [← ih]; rfl
      rw [e, numB_ge (by omega), List.take_succ_cons, show (b.toNat % 128 + 128 * rdv (t.take (j + 1))) / 128 = rdv (t.take (j + 1)) by omega, ih]
      congr 1
      rw [show (b.toNat % 128 + 128 * rdv (t.take (j + 1))) % 128 + 128 = b.toNat by omega]
      simp
theorem rd_inv {l : List UInt8} (h : (rd l).2.2 = 0) : numB (rd l).1 = l.take (rd l).2.1 := by
  rcases low_or_high l 9 with ⟨j, h9, hj, hall, hlow⟩ | hall
  · rw [rd_low h9 hj hall hlow] at h ⊢
    split at h
    · simp at h
    · rename_i hn
      rw [if_neg hn]
      exact numB_rdv j l hj hall hlow hn
  · rw [rd_high hall] at h
    split at h <;> simp at h

theorem looseF_inv : ∀ (f : Nat) (s : ByteArray) (acc R : List ByteArray), acc.length ≤ 512 → looseF f s acc = (R, 0) → ∃ T, R = acc ++ T ∧ bindL T = s.data.toList ∧ (∀ x ∈ T, x.size ≤ 8192) ∧ R.length ≤ 512
  | 0, s, acc, R, _, h => by simp [looseF] at h
  | f + 1, s, acc, R, ha, h => by
    rw [looseF] at h
    split at h
    · rename_i h0
      have : acc = R := congrArg Prod.fst h
      subst this
      refine ⟨[], by simp, ?_, (fun x hx => by cases hx), ha⟩
      have : s.data.toList.length = 0 := by rw [← size_list]; exact h0
      rw [List.eq_nil_of_length_eq_zero this]; rfl
    · split at h
      · rename_i h1
        have := congrArg Prod.snd h
        exact absurd this h1
      · rename_i h1
        split at h
        · have := congrArg Prod.snd h; simp at this
        · rename_i h2
          split at h
          · have := congrArg Prod.snd h; simp at this
          · rename_i h3
            have he : (rd s.data.toList).2.2 = 0 := by simpa using h1
            have hinv := rd_inv he
            generalize (rd s.data.toList).1 = n at *
            generalize (rd s.data.toList).2.1 = u at *
            obtain ⟨T, rfl, hT, hTs, hRl⟩ := looseF_inv f _ _ R (by simp; omega) h
            have hxs : ((s.extract u s.size).extract 0 n).size = n := by simp at h3 ⊢; omega
            refine ⟨(s.extract u s.size).extract 0 n :: T, by simp, ?_, ?_, hRl⟩
            · have e : bindL ((s.extract u s.size).extract 0 n :: T) = numB ((s.extract u s.size).extract 0 n).size ++ ((s.extract u s.size).extract 0 n).data.toList ++ bindL T := rfl
              rw [e, hxs, hT, hinv]
              simp only [extract_list]
              have e1 : (s.data.toList.drop u).take (s.size - u) = s.data.toList.drop u := List.take_of_length_le (by rw [List.length_drop, ← size_list]; omega)
              rw [e1, List.drop_zero, Nat.sub_zero]
              have e2 : ((s.data.toList.drop u).drop n).take ((s.extract u s.size).size - n) = (s.data.toList.drop u).drop n := List.take_of_length_le (by
                rw [List.length_drop, List.length_drop, ← size_list]; simp)
              rw [e2, List.append_assoc, List.take_append_drop, List.take_append_drop]
            · intro x hx
              rcases List.mem_cons.1 hx with rfl | hx
              · rw [hxs]; omega
              · exact hTs x hx
theorem loose_inv {s : ByteArray} {fs : List ByteArray} (h : loose s = (fs, 0)) : bindL fs = s.data.toList ∧ mayB fs = true := by
  obtain ⟨T, h0, hT, hs, hl⟩ := looseF_inv _ _ _ _ (by simp) h
  have : fs = T := by simpa using h0
  subst this
  exact ⟨hT, mayB_mk hl hs⟩

theorem unf_frame {x : ByteArray} (h : x.size ≤ 4096) : unf (frameS x) = (x, 0) := by
  have hl : loose (frameS x) = ([x, checkS x], 0) := loose_bind (mayB_pair (by omega))
  rw [unf, hl]
  simp only [unfP]
  rw [if_pos (checkS_size x), if_pos h, if_pos trivial, if_pos (frameS_list x)]
theorem unfAll_frames : ∀ (ss acc : List ByteArray), (∀ s ∈ ss, s.size ≤ 4096) → unfAll (ss.map frameS) acc = (acc ++ ss, 0)
  | [], acc, _ => by simp [unfAll]
  | s :: ss, acc, h => by
    rw [List.map_cons, unfAll, unf_frame (h s (by simp)), if_pos rfl, unfAll_frames ss _ (fun x hx => h x (by simp [hx]))]
    simp
theorem unf_inv {f x : ByteArray} (h : unf f = (x, 0)) : f = frameS x ∧ x.size ≤ 4096 := by
  rw [unf] at h
  match hp : (loose f).1 with
  | [] => rw [hp] at h; simp [unfP] at h
  | [_] => rw [hp] at h; simp [unfP] at h
  | [a, b] =>
    rw [hp] at h
    simp only [unfP] at h
    split at h
    · split at h
      · rename_i hs
        split at h
        · rename_i hc
          split at h
          · rename_i hf
            have : a = x := congrArg Prod.fst h
            subst this
            refine ⟨bytes_inj ?_, hs⟩
            rw [hf, hc]; rfl
          · simp at h
        · simp at h
      · simp at h
    · simp at h
  | _ :: _ :: _ :: _ => rw [hp] at h; simp [unfP] at h
theorem unfAll_inv : ∀ (fs acc R : List ByteArray), unfAll fs acc = (R, 0) → ∃ ss, R = acc ++ ss ∧ fs = ss.map frameS ∧ ∀ s ∈ ss, s.size ≤ 4096
  | [], acc, R, h => by
    rw [unfAll] at h
    have : acc = R := congrArg Prod.fst h
    exact ⟨[], by simp [this], rfl, (fun s hs => by cases hs)⟩
  | f :: fs, acc, R, h => by
    rw [unfAll] at h
    split at h
    · rename_i h0
      obtain ⟨ss, h1, h2, h3⟩ := unfAll_inv fs _ R h
      have hf := unf_inv (f := f) (x := (unf f).1) (by rw [← h0])
      refine ⟨(unf f).1 :: ss, by rw [h1]; simp, by rw [List.map_cons, ← hf.1, h2], ?_⟩
      intro s hs
      rcases List.mem_cons.1 hs with rfl | hs
      · exact hf.2
      · exact h3 s hs
    · rename_i h0
      exact absurd (congrArg Prod.snd h) h0

theorem unfAll_nil : ∀ (fs acc : List ByteArray), (unfAll fs acc).2 ≠ 0 → (unfAll fs acc).1 = []
  | [], acc, h => absurd rfl h
  | f :: fs, acc, h => by
    rw [unfAll] at h ⊢
    split at h
    · rename_i h0; rw [if_pos h0]; exact unfAll_nil fs _ h
    · rename_i h0; rw [if_neg h0]
theorem openP_nil {R : List ByteArray × Nat} (h : (openP R).2 ≠ 0) : (openP R).1 = [] := by
  rw [openP] at h ⊢
  by_cases h1 : R.2 = 0
  · rw [if_pos h1] at h ⊢
    by_cases h2 : R.1.length ≤ 64
    · rw [if_pos h2] at h ⊢; exact unfAll_nil _ _ h
    · rw [if_neg h2]
  · rw [if_neg h1]
theorem openF_nil {s : ByteArray} (h : (openF s).2 ≠ 0) : (openF s).1 = [] := by
  rw [openF] at h ⊢
  by_cases h1 : s.size < 36
  · rw [if_pos h1]
  · rw [if_neg h1] at h ⊢
    by_cases h2 : s.data.toList.take 4 = sealB
    · rw [if_pos h2] at h ⊢
      by_cases h3 : shaL (s.data.toList.take (s.size - 32)) = s.data.toList.drop (s.size - 32)
      · rw [if_pos h3] at h ⊢; exact openP_nil h
      · rw [if_neg h3]
    · rw [if_neg h2]

theorem open_close {ss : List ByteArray} (h : mayC ss = true) : openF (closeS ss) = (ss, 0) := by
  obtain ⟨hl, hs⟩ := mayC_true h
  have hS : (closeS ss).data.toList = closeL ss := by rw [closeS_true h]
  have hz : (closeS ss).size = (bodyL ss).length + 32 := by rw [size_list, hS, closeL_len]
  have hb4 : 4 ≤ (bodyL ss).length := by rw [bodyL, List.length_append]; show 4 ≤ 4 + _; omega
  have e1 : (closeS ss).data.toList.take ((closeS ss).size - 32) = bodyL ss := by rw [hS, hz, Nat.add_sub_cancel, closeL]; exact List.take_left
  have e2 : (closeS ss).data.toList.drop ((closeS ss).size - 32) = shaL (bodyL ss) := by rw [hS, hz, Nat.add_sub_cancel, closeL]; exact List.drop_left
  have e3 : (closeS ss).data.toList.take 4 = sealB := by rw [hS, closeL, bodyL, List.append_assoc]; exact List.take_left' rfl
  have e4 : ((closeS ss).extract 0 ((closeS ss).size - 32)).extract 4 ((closeS ss).size - 32) = ⟨(bindL (ss.map frameS)).toArray⟩ := by
    refine ba_of_list ?_
    rw [extract_list, extract_list, List.drop_zero, Nat.sub_zero, e1, hz, Nat.add_sub_cancel, bodyL]
    rw [List.take_of_length_le (by rw [List.length_drop, ← bodyL]; omega)]
    exact List.drop_left' rfl
  rw [openF, if_neg (by omega), if_pos e3, e1, e2, if_pos rfl, e4, loose_bind (mayB_frames h), openP, if_pos rfl, if_pos (by simpa using hl), unfAll_frames ss [] hs]
  simp
theorem close_open {s : ByteArray} {b : List ByteArray} (h : openF s = (b, 0)) : mayC b = true ∧ closeS b = s := by
  rw [openF] at h
  split at h
  · have := congrArg Prod.snd h; simp at this
  · rename_i h36
    split at h
    · rename_i hp
      split at h
      · rename_i hsum
        rw [openP] at h
        split at h
        · rename_i h0
          split at h
          · rename_i h64
            obtain ⟨ss, h1, h2, h3⟩ := unfAll_inv _ _ _ h
            rw [List.nil_append] at h1
            subst h1
            obtain ⟨fs, k, hl⟩ : ∃ fs k, loose ((s.extract 0 (s.size - 32)).extract 4 (s.size - 32)) = (fs, k) := ⟨_, _, rfl⟩
            rw [hl] at h0 h2 h64
            simp only [] at h0 h2 h64
            subst h0
            have hi := (loose_inv hl).1
            have hm : mayC b = true := mayC_mk (by rw [h2] at h64; simpa using h64) h3
            refine ⟨hm, ?_⟩
            rw [closeS_true hm]
            refine (ba_of_list ?_).symm
            rw [h2, extract_list, extract_list, List.drop_zero, Nat.sub_zero] at hi
            have htl : (s.data.toList.take (s.size - 32)).length = s.size - 32 := by rw [List.length_take, ← size_list]; omega
            have hp' : (s.data.toList.take (s.size - 32)).take 4 = sealB := by rw [List.take_take, show min 4 (s.size - 32) = 4 by omega]; exact hp
            have hbody : s.data.toList.take (s.size - 32) = bodyL b := by
              rw [List.take_of_length_le (by rw [List.length_drop, htl]; omega)] at hi
              rw [bodyL, hi, ← hp']
              exact (List.take_append_drop _ _).symm
            rw [closeL, ← hbody, hsum, List.take_append_drop]
          · have := congrArg Prod.snd h; simp at this
        · rename_i h0
          exact absurd (congrArg Prod.snd h) h0
      · have := congrArg Prod.snd h; simp at this
    · have := congrArg Prod.snd h; simp at this
theorem close_inj {l m : List ByteArray} (hl : mayC l = true) (hm : mayC m = true) (h : closeS l = closeS m) : l = m := by
  have h1 := open_close hl
  rw [h, open_close hm] at h1
  exact (congrArg Prod.fst h1).symm
end Go.Proofs.YtmmpnkcfekhkhaaDoor
