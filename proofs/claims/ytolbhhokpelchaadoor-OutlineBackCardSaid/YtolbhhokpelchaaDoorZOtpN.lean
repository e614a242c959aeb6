/- A printed node is parsed as it was. Mathematics alone. -/
import Derived.Test.YtolbhhokpelchaaDoorMg4
import Derived.Test.YtolbhhokpelchaaDoorMg6
import Derived.Test.YtolbhhokpelchaaDoorZOtlJ
namespace Go.Proofs.YtolbhhokpelchaaDoor

def itemAt (n : Nd) (j : Nat) : Nd := n.items[j]?.getD noNd
theorem itemAt_eq {n : Nd} {j : Nat} (h : j < n.items.length) : itemAt n j = n.items[j] := by simp [itemAt, h]
/-- a node's first j items -/
def uptoN (n : Nd) (j : Nat) : Nd := .mk n.kind ⟨#[]⟩ (n.names.take j) (n.items.take j)
/-- the lines behind the j-th item's own -/
def restL (n : Nd) (j d : Nat) : List Bs := (itemAt n j).lns (d + 1) ++ lnsL n.kind (n.names.drop (j + 1)) (n.items.drop (j + 1)) d
theorem drop_lines (n : Nd) (j d : Nat) (h : j < n.items.length) : lnsL n.kind (n.names.drop j) (n.items.drop j) d = hline n.kind (nmAt n.names j) (itemAt n j) d :: restL n j d := by
  rw [List.drop_eq_getElem_cons h, lnsL_cons, restL, itemAt_eq h]
  have e1 : (n.names.drop j).headD ⟨#[]⟩ = nmAt n.names j := by
    rw [nmAt, List.headD_eq_head?_getD, List.head?_drop]
  rw [e1, List.tail_drop]
theorem partsC_kind {n : Nd} (h : partsC n = true) (hi : n.items.length ≠ 0) : (n.kind = 2 ∨ n.kind = 3) ∧ n.word = ⟨#[]⟩ := by
  simp only [partsC, Bool.or_eq_true, Bool.and_eq_true, decide_eq_true_eq] at h
  rcases h with (⟨_, _, h⟩ | ⟨h, ⟨h1, _⟩, _⟩) | ⟨h, ⟨h1, _⟩, _⟩
  · exact absurd h hi
  · exact ⟨.inl h, h1⟩
  · exact ⟨.inr h, h1⟩
theorem partsC_row {n : Nd} (h : partsC n = true) (h2 : n.kind = 2) : n.names = [] := by
  simp only [partsC, Bool.or_eq_true, Bool.and_eq_true, decide_eq_true_eq] at h
  rcases h with (⟨h, _⟩ | ⟨_, ⟨_, h⟩, _⟩) | ⟨h, _⟩
  · omega
  · exact List.eq_nil_of_length_eq_zero h
  · omega
theorem partsC_new {n : Nd} (h : partsC n = true) (h3 : n.kind = 3) (i : Nat) (hi : i < n.names.length) : memB n.names[i] (n.names.take i) = false := by
  simp only [partsC, Bool.or_eq_true, Bool.and_eq_true, decide_eq_true_eq] at h
  rcases h with (⟨h, _⟩ | ⟨h, _⟩) | ⟨_, _, h⟩
  · omega
  · omega
  · simp only [namesC, Bool.and_eq_true, decide_eq_true_eq, List.all_eq_true, List.mem_range] at h
    have := h.2 i hi
    rw [onK_at _ _ hi, Bool.and_eq_true] at this
    simpa using this.2
theorem name_ok {n : Nd} (h : partsC n = true) {j : Nat} (hj : j < n.items.length) : n.kind = 2 ∨ n.kind = 3 ∧ bwC (nmAt n.names j).data.toList = true := by
  rcases (partsC_kind h (by omega)).1 with h2 | h3
  · exact .inl h2
  · refine .inr ⟨h3, ?_⟩
    have hl : j < n.names.length := by rw [partsC_names h h3]; exact hj
    have e : nmAt n.names j = n.names[j] := by simp [nmAt, hl]
    rw [e]
    exact partsC_name h h3 j hl
theorem fits_upto {n : Nd} (h : partsC n = true) {j : Nat} (hj : j < n.items.length) (x : Nd) (d : Nat) : fitsI (uptoN n j) (tokI n.kind (nmAt n.names j) x d) = true := by
  have h64 := partsC_items h
  have hl : (n.items.take j).length < 64 := by rw [List.length_take]; omega
  have hm : memB (tokI n.kind (nmAt n.names j) x d).name (n.names.take j) = false := by
    rcases (partsC_kind h (by omega)).1 with h2 | h3
    · rw [partsC_row h h2]
      simp [memB]
    · have hnl : j < n.names.length := by rw [partsC_names h h3]; exact hj
      have e : (tokI n.kind (nmAt n.names j) x d).name = n.names[j] := by simp [tokI, h3, nmAt, hnl]
      rw [e]
      exact partsC_new h h3 j hnl
  simp only [fitsI, uptoN, Nd.kind, Nd.names, Nd.items] at *
  rw [hm]
  simp only [tokI, hl, decide_true, Bool.not_false, Bool.and_true]
theorem add_upto {n : Nd} (h : partsC n = true) {j : Nat} (hj : j < n.items.length) (x : Nd) (d : Nat) : addI (uptoN n j) (tokI n.kind (nmAt n.names j) x d) (itemAt n j) = uptoN n (j + 1) := by
  rw [itemAt_eq hj]
  show Nd.mk n.kind ⟨#[]⟩ (if n.kind = 3 then n.names.take j ++ [(tokI n.kind (nmAt n.names j) x d).name] else n.names.take j) (n.items.take j ++ [n.items[j]]) = Nd.mk n.kind ⟨#[]⟩ (n.names.take (j + 1)) (n.items.take (j + 1))
  rw [List.take_succ_eq_append_getElem hj]
  congr 1
  by_cases h3 : n.kind = 3
  · have hnl : j < n.names.length := by rw [partsC_names h h3]; exact hj
    rw [if_pos h3, List.take_succ_eq_append_getElem hnl]
    simp [tokI, h3, nmAt, hnl]
  · rw [if_neg h3]
    rcases (partsC_kind h (by omega)).1 with h2 | h3'
    · rw [partsC_row h h2]
      simp
    · exact absurd h3' h3
theorem upto_all {n : Nd} (h : partsC n = true) (hi : n.items.length ≠ 0) : uptoN n n.items.length = n := by
  obtain ⟨hk, hw⟩ := partsC_kind h hi
  refine Nd.ext4 rfl hw.symm ?_ ?_
  · show n.names.take n.items.length = n.names
    rcases hk with h2 | h3
    · rw [partsC_row h h2]; simp
    · rw [← partsC_names h h3, List.take_length]
  · show n.items.take n.items.length = n.items
    exact List.take_length
/-- what is read of a node's items, from the j-th one on -/
def ReadS (s : Nat) : Prop := ∀ (n : Nd) (d : Nat), rightD s n = true → d + s ≤ 8 → ∀ (g j : Nat), j + g + 1 = n.items.length → ∀ (cur : Nat) (F : List Bs) (r : Bs) (m : Nat) (b : It) (l1 : List Bs), nextT (cur + (restL n j d).length) F r = (m, some b, l1) → b.deep < d →
  itemsC (uptoN n j) d (tokI n.kind (nmAt n.names j) (itemAt n j) d) cur (restL n j d ++ F) r = .inr (n, b, m, l1)
theorem nextT_tok {l : Bs} {x : It} (h : tokR l = some (some x)) (cur : Nat) (ls : List Bs) (r : Bs) : nextT cur (l :: ls) r = (cur + 1, some x, ls) := by simp only [nextT, h]
theorem one_item {s : Nat} (ihs : ReadS s) {n : Nd} {d : Nat} (hn : rightD (s + 1) n = true) (hd : d + (s + 1) ≤ 8) {j : Nat} (hj : j < n.items.length) {cur : Nat} {X : List Bs} {r : Bs} {m : Nat} {b : It} {l1 : List Bs}
    (hX : nextT (cur + ((itemAt n j).lns (d + 1)).length) X r = (m, some b, l1)) (hb : b.deep ≤ d) :
    itemsC (uptoN n j) d (tokI n.kind (nmAt n.names j) (itemAt n j) d) cur ((itemAt n j).lns (d + 1) ++ X) r = itemsC (uptoN n (j + 1)) d b m l1 r := by
  obtain ⟨hp, s', e, hkids⟩ := rightD_parts hn
  obtain rfl : s = s' := by omega
  have hx : rightD s (itemAt n j) = true := by rw [itemAt_eq hj]; exact hkids _ (List.getElem_mem hj)
  obtain ⟨hpx, s2, rfl, hkx⟩ := rightD_parts hx
  rw [itemsC_eq (x := tokI n.kind (nmAt n.names j) (itemAt n j) d) (deep := (d : Int)) (Int.natCast_nonneg d) rfl, if_pos (fits_upto hp hj _ _)]
  by_cases hi : (itemAt n j).items.isEmpty = true
  · rw [lns_flat hi] at hX ⊢
    rw [List.nil_append]
    simp only [List.length_nil, Nat.add_zero] at hX
    rw [hX]
    have hnode : (tokI n.kind (nmAt n.names j) (itemAt n j) d).node = itemAt n j := by simp only [tokI]; rw [if_pos hi]
    simp only
    rw [hnode, if_neg (flat_kind hpx), if_pos hb, add_upto hp hj]
  · have hil : 0 < (itemAt n j).items.length := by
      cases h : (itemAt n j).items with
      | nil => rw [h] at hi; exact absurd rfl hi
      | cons y ys => simp
    have hs2 : 1 ≤ s2 := by
      cases s2 with
      | zero =>
        have := hkx _ (List.getElem_mem hil)
        cases this
      | succ s2 => omega
    have hl : (itemAt n j).lns (d + 1) = hline (itemAt n j).kind (nmAt (itemAt n j).names 0) (itemAt (itemAt n j) 0) (d + 1) :: restL (itemAt n j) 0 (d + 1) := by
      rw [lns_eq]
      have := drop_lines (itemAt n j) 0 (d + 1) hil
      simpa using this
    have hx0 : rightD s2 (itemAt (itemAt n j) 0) = true := by rw [itemAt_eq hil]; exact hkx _ (List.getElem_mem hil)
    obtain ⟨hp0, s3, e3, hk0⟩ := rightD_parts hx0
    have hdeep : (itemAt (itemAt n j) 0).items.isEmpty = true ∨ d + 1 ≤ 5 := by
      by_cases h0 : (itemAt (itemAt n j) 0).items.isEmpty = true
      · exact .inl h0
      · right
        have h0l : 0 < (itemAt (itemAt n j) 0).items.length := by
          cases h : (itemAt (itemAt n j) 0).items with
          | nil => rw [h] at h0; exact absurd rfl h0
          | cons y ys => simp
        cases s3 with
        | zero =>
          have := hk0 _ (List.getElem_mem h0l)
          cases this
        | succ s3 => omega
    have htok := tok_line (name_ok hpx hil) hp0 hdeep (d := d + 1)
    rw [hl] at hX ⊢
    rw [List.cons_append, nextT_tok htok]
    have hnode : (tokI n.kind (nmAt n.names j) (itemAt n j) d).node.kind = 0 := by
      simp only [tokI]
      rw [if_neg hi]
      rfl
    simp only
    rw [if_pos hnode, if_pos (by simp [tokI])]
    have hr := ihs (itemAt n j) (d + 1) hx (by omega) ((itemAt n j).items.length - 1) 0 (by omega) (cur + 1) X r m b l1 (by
      rw [← hX, List.length_cons]
      congr 1
      omega) (by omega)
    have hr2 : itemsC (.mk (tokI (itemAt n j).kind (nmAt (itemAt n j).names 0) (itemAt (itemAt n j) 0) (d + 1)).kind ⟨#[]⟩ [] []) (tokI (itemAt n j).kind (nmAt (itemAt n j).names 0) (itemAt (itemAt n j) 0) (d + 1)).deep (tokI (itemAt n j).kind (nmAt (itemAt n j).names 0) (itemAt (itemAt n j) 0) (d + 1)) (cur + 1) (restL (itemAt n j) 0 (d + 1) ++ X) r = .inr (itemAt n j, b, m, l1) := hr
    rw [hr2]
    simp only
    rw [if_pos hb, add_upto hp hj]
theorem read_lns : ∀ s, ReadS s
  | 0 => fun n d h => by cases h
  | s + 1 => by
    intro n d hn hd g
    have ihs := read_lns s
    obtain ⟨hp, s', e, hkids⟩ := rightD_parts hn
    obtain rfl : s = s' := by omega
    induction g with
    | zero =>
      intro j hj cur F r m b l1 hF hb
      have hjl : j < n.items.length := by omega
      have e0 : lnsL n.kind (n.names.drop (j + 1)) (n.items.drop (j + 1)) d = [] := by rw [List.drop_of_length_le (l := n.items) (by omega), lnsL_nil]
      have er : restL n j d = (itemAt n j).lns (d + 1) := by rw [restL, e0, List.append_nil]
      rw [er] at hF ⊢
      rw [one_item ihs hn hd hjl hF (by omega), itemsC_end (by omega)]
      have : j + 1 = n.items.length := by omega
      rw [this, upto_all hp (by omega)]
    | succ g ih =>
      intro j hj cur F r m b l1 hF hb
      have hjl : j < n.items.length := by omega
      have hj1 : j + 1 < n.items.length := by omega
      have er : restL n j d = (itemAt n j).lns (d + 1) ++ (hline n.kind (nmAt n.names (j + 1)) (itemAt n (j + 1)) d :: restL n (j + 1) d) := by rw [restL, drop_lines n (j + 1) d hj1]
      rw [er] at hF ⊢
      have hx : rightD s (itemAt n (j + 1)) = true := by rw [itemAt_eq hj1]; exact hkids _ (List.getElem_mem hj1)
      obtain ⟨hpx, s2, e2, hkx⟩ := rightD_parts hx
      have hdeep : (itemAt n (j + 1)).items.isEmpty = true ∨ d ≤ 5 := by
        by_cases h0 : (itemAt n (j + 1)).items.isEmpty = true
        · exact .inl h0
        · right
          have h0l : 0 < (itemAt n (j + 1)).items.length := by
            cases h : (itemAt n (j + 1)).items with
            | nil => rw [h] at h0; exact absurd rfl h0
            | cons y ys => simp
          cases s2 with
          | zero =>
            have := hkx _ (List.getElem_mem h0l)
            cases this
          | succ s2 => omega
      have htok := tok_line (name_ok hp hj1) hpx hdeep (d := d)
      rw [List.append_assoc, List.cons_append]
      rw [one_item ihs hn hd hjl (nextT_tok htok _ _ r) (by simp [tokI])]
      refine ih (j + 1) (by omega) _ F r m b l1 ?_ hb
      rw [← hF]
      simp only [List.length_append, List.length_cons]
      congr 1
      omega
/-- none of a node's lines holds the byte that ends one -/
theorem lns_no10 : ∀ (s : Nat) (n : Nd) (d : Nat), rightD s n = true → ∀ l ∈ n.lns d, ∀ c ∈ l, c ≠ 10
  | 0, n, d, h => by cases h
  | s + 1, n, d, h => by
    have ihs := lns_no10 s
    obtain ⟨hp, s', e, hkids⟩ := rightD_parts h
    obtain rfl : s = s' := by omega
    have go : ∀ g j, j + g = n.items.length → ∀ l ∈ lnsL n.kind (n.names.drop j) (n.items.drop j) d, ∀ c ∈ l, c ≠ 10 := by
      intro g
      induction g with
      | zero =>
        intro j hj l hl
        rw [List.drop_of_length_le (l := n.items) (by omega), lnsL_nil] at hl
        cases hl
      | succ g ih =>
        intro j hj l hl
        have hjl : j < n.items.length := by omega
        have hx : rightD s (itemAt n j) = true := by rw [itemAt_eq hjl]; exact hkids _ (List.getElem_mem hjl)
        rw [drop_lines n j d hjl, List.mem_cons, restL, List.mem_append] at hl
        rcases hl with rfl | hl | hl
        · exact hline_no10 (name_ok hp hjl) (rightD_parts hx).1
        · exact ihs _ _ hx l hl
        · exact ih (j + 1) (by omega) l hl
    intro l hl
    rw [lns_eq] at hl
    exact go n.items.length 0 (by omega) l (by simpa using hl)
/-- what is printed is parsed -/
theorem print_parse (n : Nd) (hn : nodeC n = true) (hi : n.items.length ≠ 0) (h8 : (n.linesT 0).length ≤ 8192) : parseN (n.linesT 0) = (n, 0, 0) := by
  obtain ⟨hp, s, e, hkids⟩ := rightD_parts hn
  have hil : 0 < n.items.length := by omega
  have hln : linesB (n.linesT 0) = (n.lns 0, []) := by
    rw [linesT_lns]
    exact lines_un _ (lns_no10 8 n 0 hn)
  have hl : n.lns 0 = hline n.kind (nmAt n.names 0) (itemAt n 0) 0 :: restL n 0 0 := by
    rw [lns_eq]
    have := drop_lines n 0 0 hil
    simpa using this
  have hx : rightD s (itemAt n 0) = true := by rw [itemAt_eq hil]; exact hkids _ (List.getElem_mem hil)
  have htok := tok_line (name_ok hp hil) (rightD_parts hx).1 (.inr (Nat.zero_le 5)) (d := 0)
  unfold parseN
  rw [if_neg (by omega), hln]
  simp only
  rw [hl, nextT_tok htok]
  simp only
  rw [if_pos (by rfl)]
  have hr := read_lns 8 n 0 hn (by omega) (n.items.length - 1) 0 (by omega) 1 [] [] (1 + (restL n 0 0).length + 1) endI [] (by simp [nextT]) (by have : endI.deep = -1 := rfl; omega)
  rw [List.append_nil] at hr
  have hr2 : itemsC (.mk (tokI n.kind (nmAt n.names 0) (itemAt n 0) 0).kind ⟨#[]⟩ [] []) 0 (tokI n.kind (nmAt n.names 0) (itemAt n 0) 0) 1 (restL n 0 0) [] = .inr (n, endI, 1 + (restL n 0 0).length + 1, []) := hr
  rw [hr2]
theorem printE_ok {n : Nd} (h : printE n = 0) : nodeC n = true ∧ n.items.length ≠ 0 ∧ (n.linesT 0).length ≤ 8192 ∧ printS n = bytesA (n.linesT 0) := by
  unfold printE at h
  split at h
  · cases h
  · rename_i h1
    split at h
    · rename_i h2
      have h3 : nodeC n = true ∧ n.items.length ≠ 0 := by
        simp only [not_or] at h1
        exact ⟨by simpa using h1.1, h1.2⟩
      exact ⟨h3.1, h3.2, h2, by unfold printS; rw [if_neg h1, if_pos h2]⟩
    · cases h
/-- what is printed, as a text, is parsed -/
theorem printS_parse {n : Nd} (h : printE n = 0) : parseN (printS n).data.toList = (n, 0, 0) := by
  obtain ⟨h1, h2, h3, h4⟩ := printE_ok h
  rw [h4]
  exact print_parse n h1 h2 h3
end Go.Proofs.YtolbhhokpelchaaDoor
