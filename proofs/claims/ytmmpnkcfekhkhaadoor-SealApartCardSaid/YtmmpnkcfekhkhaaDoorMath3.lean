/- Plain mathematics of what is read as it was: a number's bytes, and texts that are bound. It speaks of no program. -/
import Derived.Test.YtmmpnkcfekhkhaaDoorLoose
import Derived.Lib.Strings
namespace Go.Proofs.YtmmpnkcfekhkhaaDoor

theorem rdF_num : ∀ (f n i acc : Nat) (rest : List UInt8), (numB n).length ≤ f → (n ≠ 0 ∨ i = 0) → rdF f i (numB n ++ rest) acc = (acc + n * 2 ^ (7 * i), i + (numB n).length, 0) := by
  intro f
  induction f with
  | zero => intro n i acc rest h; have := numB_pos n; omega
  | succ f ih =>
    intro n i acc rest h hn
    by_cases h1 : n < 128
    · rw [numB_lt h1]
      have e : (UInt8.ofNat n).toNat = n := by simp; omega
      rw [List.singleton_append, rdF, e, if_neg (by omega), if_neg (by omega)]
      rfl
    · rw [numB_ge (by omega)] at h ⊢
      have e : (UInt8.ofNat (n % 128 + 128)).toNat = n % 128 + 128 := by simp; omega
      rw [List.cons_append, rdF, e, if_pos (by omega), ih (n / 128) (i + 1) _ rest (by simpa using h) (.inl (by omega))]
      simp only [List.length_cons, Prod.mk.injEq, and_true]
      refine ⟨?_, by omega⟩
      rw [show 7 * (i + 1) = 7 * i + 7 by omega, Nat.pow_add, Nat.add_assoc]
      congr 1
      rw [show n % 128 + 128 - 128 = n % 128 by omega, show (2 : Nat) ^ 7 = 128 by rfl, Nat.mul_comm (2 ^ (7 * i)) 128, ← Nat.mul_assoc, ← Nat.add_mul]
      congr 1
      omega
theorem rd_num {n : Nat} (h : n < 4611686018427387904) (rest : List UInt8) : rd (numB n ++ rest) = (n, (numB n).length, 0) := by
  rw [rd, rdF_num 9 n 0 0 rest (numB_len9 (by omega)) (.inr rfl)]
  simp

theorem extract_list (s : ByteArray) (a b : Nat) : (s.extract a b).data.toList = (s.data.toList.drop a).take (b - a) := Lib.extract_data s a b
theorem looseF_bind : ∀ (L : List ByteArray) (f : Nat) (s : ByteArray) (acc : List ByteArray), s.data.toList = bindL L → s.size < f → acc.length + L.length ≤ 512 → (∀ x ∈ L, x.size ≤ 8192) → looseF f s acc = (acc ++ L, 0)
  | [], f, s, acc, hs, hf, _, _ => by
    have h0 : s.size = 0 := by rw [size_list, hs]; rfl
    match f, hf with
    | f + 1, hf => rw [looseF, if_pos h0, List.append_nil]
  | x :: L, f, s, acc, hs, hf, hl, hx => by
    have hx0 := hx x (by simp)
    have hnp := numB_pos x.size
    have hb : bindL (x :: L) = numB x.size ++ (x.data.toList ++ bindL L) := by simp [bindL]
    have hsz : s.size = (numB x.size).length + (x.size + (bindL L).length) := by
      rw [size_list, hs, hb, List.length_append, List.length_append, ← size_list]
    have hrd : rd s.data.toList = (x.size, (numB x.size).length, 0) := by rw [hs, hb]; exact rd_num (by omega) _
    simp only [List.length_cons] at hl
    match f, hf with
    | f + 1, hf =>
      have ht : (s.extract (numB x.size).length s.size).data.toList = x.data.toList ++ bindL L := by
        rw [extract_list, hs, hb, List.drop_left, List.take_of_length_le]
        rw [List.length_append, ← size_list]; omega
      have hts : (s.extract (numB x.size).length s.size).size = x.size + (bindL L).length := by rw [size_list, ht, List.length_append, ← size_list]
      rw [looseF, if_neg (by omega), hrd]
      simp only []
      rw [if_neg (by simp), if_neg (by omega), if_neg (by omega)]
      generalize s.extract (numB x.size).length s.size = t at *
      have h1 : t.extract 0 x.size = x := by
        apply ByteArray.ext
        apply Array.ext'
        rw [extract_list, ht, List.drop_zero, Nat.sub_zero, size_list, List.take_left]
      have h2 : (t.extract x.size t.size).data.toList = bindL L := by
        rw [extract_list, ht]
        have : x.size = x.data.toList.length := size_list x
        rw [hts, this, List.drop_left, List.take_of_length_le (by omega)]
      rw [h1, looseF_bind L f _ (acc ++ [x]) h2 ?_ ?_ (fun y hy => hx y (by simp [hy]))]
      · simp
      · rw [size_list, h2]; omega
      · rw [List.length_append, List.length_singleton]; omega
theorem loose_bind {L : List ByteArray} (h : mayB L = true) : loose ⟨(bindL L).toArray⟩ = (L, 0) := by
  obtain ⟨h1, h2⟩ := mayB_true h
  exact looseF_bind L _ ⟨(bindL L).toArray⟩ [] rfl (by omega) (by simpa using h1) h2
theorem bind_inj {L M : List ByteArray} (hL : mayB L = true) (hM : mayB M = true) (h : bindL L = bindL M) : L = M := by
  have a := loose_bind hL
  rw [h, loose_bind hM] at a
  exact (congrArg Prod.fst a).symm

end Go.Proofs.YtmmpnkcfekhkhaaDoor
