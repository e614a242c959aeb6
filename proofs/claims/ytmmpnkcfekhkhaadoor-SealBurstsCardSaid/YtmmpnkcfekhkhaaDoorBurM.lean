/- What is opened of frames, one of which has another section's check. Mathematics alone. -/
import Derived.Test.YtmmpnkcfekhkhaaDoorSealM
import Derived.Test.YtmmpnkcfekhkhaaDoorMath2
namespace Go.Proofs.YtmmpnkcfekhkhaaDoor

theorem open_frames {fs : List ByteArray} (hm : mayB fs = true) (h64 : fs.length ≤ 64) : openF ⟨((sealB ++ bindL fs) ++ shaL (sealB ++ bindL fs)).toArray⟩ = unfAll fs [] := by
  obtain ⟨B, hB⟩ : ∃ B, sealB ++ bindL fs = B := ⟨_, rfl⟩
  rw [hB]
  obtain ⟨S, hSd⟩ : ∃ S : ByteArray, (⟨(B ++ shaL B).toArray⟩ : ByteArray) = S := ⟨_, rfl⟩
  rw [hSd]
  have hS : S.data.toList = B ++ shaL B := by rw [← hSd]
  have hz : S.size = B.length + 32 := by rw [size_list, hS, List.length_append, shaL_len]
  have hb4 : 4 ≤ B.length := by rw [← hB, List.length_append]; show 4 ≤ 4 + _; omega
  have e1 : S.data.toList.take (S.size - 32) = B := by rw [hS, hz, Nat.add_sub_cancel]; exact List.take_left
  have e2 : S.data.toList.drop (S.size - 32) = shaL B := by rw [hS, hz, Nat.add_sub_cancel]; exact List.drop_left
  have e3 : S.data.toList.take 4 = sealB := by rw [hS, ← hB, List.append_assoc]; exact List.take_left' rfl
  have e4 : (S.extract 0 (S.size - 32)).extract 4 (S.size - 32) = ⟨(bindL fs).toArray⟩ := by
    refine ba_of_list ?_
    rw [extract_list, extract_list, List.drop_zero, Nat.sub_zero, e1, hz, Nat.add_sub_cancel]
    rw [List.take_of_length_le (by rw [List.length_drop]; omega), ← hB]
    exact List.drop_left' rfl
  rw [openF, if_neg (by omega), if_pos e3, e1, e2, if_pos rfl, e4, loose_bind hm, openP, if_pos rfl, if_pos h64]
theorem unfAll_hurt : ∀ (ss acc : List ByteArray) (f : ByteArray) (rest : List ByteArray), (∀ s ∈ ss, s.size ≤ 4096) → (unf f).2 ≠ 0 → unfAll (ss.map frameS ++ f :: rest) acc = ([], (unf f).2)
  | [], acc, f, rest, _, hf => by rw [List.map_nil, List.nil_append, unfAll, if_neg hf]
  | s :: ss, acc, f, rest, h, hf => by
    rw [List.map_cons, List.cons_append, unfAll, unf_frame (h s (by simp)), if_pos rfl, unfAll_hurt ss _ f rest (fun x hx => h x (by simp [hx])) hf]
theorem le4_inj {x y : Nat} (hx : x < 4294967296) (hy : y < 4294967296) (h : le4 x = le4 y) : x = y := by
  simp only [le4, List.cons.injEq, and_true] at h
  obtain ⟨h0, h1, h2, h3⟩ := h
  have g : ∀ a b : Nat, UInt8.ofNat a = UInt8.ofNat b → a % 256 = b % 256 := fun a b e => by
    have := congrArg UInt8.toNat e
    simpa using this
  have h0 := g _ _ h0
  have h1 := g _ _ h1
  have h2 := g _ _ h2
  have h3 := g _ _ h3
  omega
theorem checkS_ne {x y : ByteArray} (h : crcN x.data.toList ≠ crcN y.data.toList) : checkS x ≠ checkS y := fun e => by
  have : le4 (crcN x.data.toList) = le4 (crcN y.data.toList) := by
    have := congrArg (·.data.toList) e
    exact this
  exact h (le4_inj (crcN_lt _) (crcN_lt _) this)
/-- a frame with another check -/
def hurtF (X s : ByteArray) : ByteArray := ⟨(bindL [X, checkS s]).toArray⟩
theorem unf_hurt {X s : ByteArray} (hX : X.size ≤ 4096) (hc : checkS s ≠ checkS X) : unf (hurtF X s) = (⟨#[]⟩, 4) := by
  have hl : loose (hurtF X s) = ([X, checkS s], 0) := loose_bind (mayB_mk (by simp) (fun y hy => by
    simp only [List.mem_cons, List.not_mem_nil, or_false] at hy
    rcases hy with rfl | rfl
    · omega
    · rw [checkS_size]; omega))
  rw [unf, hl]
  simp only [unfP]
  rw [if_pos (checkS_size s), if_pos hX, if_neg hc]
/-- the frames of sections, of which one is another -/
def hurtL (ss : List ByteArray) (j : Nat) (X : ByteArray) : List ByteArray := (ss.take j).map frameS ++ hurtF X ss[j]! :: (ss.drop (j + 1)).map frameS
theorem hurt_size {X s : ByteArray} (hX : X.size ≤ 60) : (hurtF X s).size ≤ 100 := by
  rw [size_list]
  show (bindL [X, checkS s]).length ≤ 100
  have h1 := numB_len2 (n := X.size) (by omega)
  have h2 := numB_len2 (n := (checkS s).size) (by rw [checkS_size]; omega)
  have e1 : X.data.toList.length = X.size := (size_list X).symm
  have e2 : (checkS s).data.toList.length = 4 := rfl
  simp only [bindL, List.flatMap_cons, List.flatMap_nil, List.length_append, List.length_nil]
  omega
theorem open_hurt {ss : List ByteArray} {j : Nat} {X : ByteArray} (hl : ss.length ≤ 5) (hs : ∀ s ∈ ss, s.size ≤ 60) (hX : X.size ≤ 60) (hc : checkS ss[j]! ≠ checkS X) :
    openF ⟨((sealB ++ bindL (hurtL ss j X)) ++ shaL (sealB ++ bindL (hurtL ss j X))).toArray⟩ = ([], 4) := by
  have hm : mayB (hurtL ss j X) = true := mayB_mk (by simp [hurtL]; omega) (fun f hf => by
    have hfr : ∀ x ∈ ss, (frameS x).size ≤ 8192 := fun x hx => Nat.le_trans (frameS_size (by have := hs x hx; omega)) (by omega)
    unfold hurtL at hf
    rcases List.mem_append.1 hf with hf | hf
    · obtain ⟨x, hx, rfl⟩ := List.mem_map.1 hf
      exact hfr x (List.mem_of_mem_take hx)
    · rcases List.mem_cons.1 hf with rfl | hf
      · exact Nat.le_trans (hurt_size hX) (by omega)
      · obtain ⟨x, hx, rfl⟩ := List.mem_map.1 hf
        exact hfr x (List.mem_of_mem_drop hx))
  have hu := unf_hurt (X := X) (s := ss[j]!) (by omega) hc
  rw [open_frames hm (by simp [hurtL]; omega)]
  unfold hurtL
  rw [unfAll_hurt _ _ _ _ (fun s hx => by have := hs s (List.mem_of_mem_take hx); omega) (by rw [hu]; decide), hu]
theorem hurtL_take (ss : List ByteArray) (j : Nat) (X : ByteArray) (hj : j < ss.length) (k : Nat) (hk : k < ss.length) :
    (hurtL ss j X).take (k + 1) = (hurtL ss j X).take k ++ [⟨(bindL [if k = j then X else ss[k], checkS ss[k]]).toArray⟩] := by
  have hlen : (hurtL ss j X).length = ss.length := by simp [hurtL]; omega
  rw [List.take_succ_eq_append_getElem (by omega)]
  congr 2
  by_cases h : k = j
  · subst h
    rw [if_pos rfl]
    simp only [hurtL]
    rw [List.getElem_append_right (by simp; omega)]
    have e : k - ((ss.take k).map frameS).length = 0 := by simp; omega
    simp only [e, List.getElem_cons_zero]
    rw [hurtF, getElem!_pos ss k hk]
  · rw [if_neg h]
    simp only [hurtL]
    by_cases hlt : k < j
    · rw [List.getElem_append_left (by simp; omega)]
      simp only [List.getElem_map, List.getElem_take]
      rfl
    · rw [List.getElem_append_right (by simp; omega)]
      have e : k - ((ss.take j).map frameS).length = (k - j - 1) + 1 := by simp; omega
      simp only [e, List.getElem_cons_succ, List.getElem_map, List.getElem_drop]
      have e2 : j + 1 + (k - j - 1) = k := by omega
      simp only [e2]
      rfl
theorem hurtL_length (ss : List ByteArray) (j : Nat) (X : ByteArray) (hj : j < ss.length) : (hurtL ss j X).length = ss.length := by simp [hurtL]; omega
end Go.Proofs.YtmmpnkcfekhkhaaDoor
