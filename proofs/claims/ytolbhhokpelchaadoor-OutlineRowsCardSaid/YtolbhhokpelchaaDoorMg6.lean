/- A printed node is parsed as it was. Mathematics alone. -/
import Derived.Test.YtolbhhokpelchaaDoorMg3
import Derived.Test.YtolbhhokpelchaaDoorMg5
import Derived.Test.YtolbhhokpelchaaDoorOtlJ
import Derived.Test.YtolbhhokpelchaaDoorOwnS
import Derived.Test.YtolbhhokpelchaaDoorStrs
import Derived.Test.YtolbhhokpelchaaDoorBlkG
import Derived.Deep.AppendLies
import Derived.RegionTactic
import Derived.BigRegion
import Derived.Deep.RegionLaw
import Derived.Test.YtolbhhokpelchaaDoorOtlG
namespace Go.Proofs.YtolbhhokpelchaaDoor

def itemAt (n : Nd) (j : Nat) : Nd := n.items[j]?.getD noNd
theorem itemAt_eq {n : Nd} {j : Nat} (h : j < n.items.length) : itemAt n j = n.items[j] := by simp [itemAt, h]
/-- a node's first j items -/
def uptoN (n : Nd) (j : Nat) : Nd := .mk n.kind ⟨#[]⟩ (n.names.take j) (n.items.take j)
/-- the lines behind the j-th item's own -/
def restL (n : Nd) (j d : Nat) : List Bs := (itemAt n j).lns (d + 1) ++ lnsL n.kind (n.names.drop (j + 1)) (n.items.drop (j + 1)) d
theorem drop_lines (n : Nd) (j d : Nat) (h : j < n.items.length) : lnsL n.kind (n.names.drop j) (n.items.drop j) d = hline n.kind (nmAt n.names j) (itemAt n j) d :: restL n j d := by
  rw [List.drop_eq_getElem_cons h, lnsL_cons, restL, itemAt_eq h]
  have e1 : (n.names.drop j).headD ⟨#[]⟩ = nmAt n.names j := by
    rw [nmAt, List.headD_eq_head?_getD, List.head?_drop]
  rw [e1, List.tail_drop]
theorem partsC_kind {n : Nd} (h : partsC n = true) (hi : n.items.length ≠ 0) : (n.kind = 2 ∨ n.kind = 3) ∧ n.word = ⟨#[]⟩ := by
  simp only [partsC, Bool.or_eq_true, Bool.and_eq_true, decide_eq_true_eq] at h
  rcases h with (⟨_, _, h⟩ | ⟨h, ⟨h1, _⟩, _⟩) | ⟨h, ⟨h1, _⟩, _⟩
  · exact absurd h hi
  · exact ⟨.inl h, h1⟩
  · exact ⟨.inr h, h1⟩
theorem partsC_row {n : Nd} (h : partsC n = true) (h2 : n.kind = 2) : n.names = [] := by
  simp only [partsC, Bool.or_eq_true, Bool.and_eq_true, decide_eq_true_eq] at h
  rcases h with (⟨h, _⟩ | ⟨_, ⟨_, h⟩, _⟩) | ⟨h, _⟩
  · omega
  · exact List.eq_nil_of_length_eq_zero h
  · omega
theorem partsC_new {n : Nd} (h : partsC n = true) (h3 : n.kind = 3) (i : Nat) (hi : i < n.names.length) : memB n.names[i] (n.names.take i) = false := by
  simp only [partsC, Bool.or_eq_true, Bool.and_eq_true, decide_eq_true_eq] at h
  rcases h with (⟨h, _⟩ | ⟨h, _⟩) | ⟨_, _, h⟩
  · omega
  · omega
  · simp only [namesC, Bool.and_eq_true, decide_eq_true_eq, List.all_eq_true, List.mem_range] at h
    have := h.2 i hi
    rw [onK_at _ _ hi, Bool.and_eq_true] at this
    simpa using this.2
theorem name_ok {n : Nd} (h : partsC n = true) {j : Nat} (hj : j < n.items.length) : n.kind = 2 ∨ n.kind = 3 ∧ bwC (nmAt n.names j).data.toList = true := by
  rcases (partsC_kind h (by omega)).1 with h2 | h3
  · exact .inl h2
  · refine .inr ⟨h3, ?_⟩
    have hl : j < n.names.length := by rw [partsC_names h h3]; exact hj
    have e : nmAt n.names j = n.names[j] := by simp [nmAt, hl]
    rw [e]
    exact partsC_name h h3 j hl
theorem fits_upto {n : Nd} (h : partsC n = true) {j : Nat} (hj : j < n.items.length) (x : Nd) (d : Nat) : fitsI (uptoN n j) (tokI n.kind (nmAt n.names j) x d) = true := by
  have h64 := partsC_items h
  have hl : (n.items.take j).length < 64 := by rw [List.length_take]; omega
  have hm : memB (tokI n.kind (nmAt n.names j) x d).name (n.names.take j) = false := by
    rcases (partsC_kind h (by omega)).1 with h2 | h3
    · rw [partsC_row h h2]
      simp [memB]
    · have hnl : j < n.names.length := by rw [partsC_names h h3]; exact hj
      have e : (tokI n.kind (nmAt n.names j) x d).name = n.names[j] := by simp [tokI, h3, nmAt, hnl]
      rw [e]
      exact partsC_new h h3 j hnl
  simp only [fitsI, uptoN, Nd.kind, Nd.names, Nd.items] at *
  rw [hm]
  simp only [tokI, hl, decide_true, Bool.not_false, Bool.and_true]
theorem add_upto {n : Nd} (h : partsC n = true) {j : Nat} (hj : j < n.items.length) (x : Nd) (d : Nat) : addI (uptoN n j) (tokI n.kind (nmAt n.names j) x d) (itemAt n j) = uptoN n (j + 1) := by
  rw [itemAt_eq hj]
  show Nd.mk n.kind ⟨#[]⟩ (if n.kind = 3 then n.names.take j ++ [(tokI n.kind (nmAt n.names j) x d).name] else n.names.take j) (n.items.take j ++ [n.items[j]]) = Nd.mk n.kind ⟨#[]⟩ (n.names.take (j + 1)) (n.items.take (j + 1))
  rw [List.take_succ_eq_append_getElem hj]
  congr 1
  by_cases h3 : n.kind = 3
  · have hnl : j < n.names.length := by rw [partsC_names h h3]; exact hj
    rw [if_pos h3, List.take_succ_eq_append_getElem hnl]
    simp [tokI, h3, nmAt, hnl]
  · rw [if_neg h3]
    rcases (partsC_kind h (by omega)).1 with h2 | h3'
    · rw [partsC_row h h2]
      simp
    · exact absurd h3' h3
theorem upto_all {n : Nd} (h : partsC n = true) (hi : n.items.length ≠ 0) : uptoN n n.items.length = n := by
  obtain ⟨hk, hw⟩ := partsC_kind h hi
  refine Nd.ext4 rfl hw.symm ?_ ?_
  · show n.names.take n.items.length = n.names
    rcases hk with h2 | h3
    · rw [partsC_row h h2]; simp
    · rw [← partsC_names h h3, List.take_length]
  · show n.items.take n.items.length = n.items
    exact List.take_length
/-- what is read of a node's items, from the j-th one on -/
def ReadS (s : Nat) : Prop := ∀ (n : Nd) (d : Nat), rightD s n = true → d + s ≤ 8 → ∀ (g j : Nat), j + g + 1 = n.items.length → ∀ (cur : Nat) (F : List Bs) (r : Bs) (m : Nat) (b : It) (l1 : List Bs), nextT (cur + (restL n j d).length) F r = (m, some b, l1) → b.deep < d →
  itemsC (uptoN n j) d (tokI n.kind (nmAt n.names j) (itemAt n j) d) cur (restL n j d ++ F) r = .inr (n, b, m, l1)
theorem nextT_tok {l : Bs} {x : It} (h : tokR l = some (some x)) (cur : Nat) (ls : List Bs) (r : Bs) : nextT cur (l :: ls) r = (cur + 1, some x, ls) := by simp only [nextT, h]
theorem one_item {s : Nat} (ihs : ReadS s) {n : Nd} {d : Nat} (hn : rightD (s + 1) n = true) (hd : d + (s + 1) ≤ 8) {j : Nat} (hj : j < n.items.length) {cur : Nat} {X : List Bs} {r : Bs} {m : Nat} {b : It} {l1 : List Bs}
    (hX : nextT (cur + ((itemAt n j).lns (d + 1)).length) X r = (m, some b, l1)) (hb : b.deep ≤ d) :
    itemsC (uptoN n j) d (tokI n.kind (nmAt n.names j) (itemAt n j) d) cur ((itemAt n j).lns (d + 1) ++ X) r = itemsC (uptoN n (j + 1)) d b m l1 r := by
  obtain ⟨hp, s', e, hkids⟩ := rightD_parts hn
  obtain rfl : s = s' := by omega
  have hx : rightD s (itemAt n j) = true := by rw [itemAt_eq hj]; exact hkids _ (List.getElem_mem hj)
  obtain ⟨hpx, s2, rfl, hkx⟩ := rightD_parts hx
  rw [itemsC_eq (x := tokI n.kind (nmAt n.names j) (itemAt n j) d) (deep := (d : Int)) (Int.natCast_nonneg d) rfl, if_pos (fits_upto hp hj _ _)]
  by_cases hi : (itemAt n j).items.isEmpty = true
  · rw [lns_flat hi] at hX ⊢
    rw [List.nil_append]
    simp only [List.length_nil, Nat.add_zero] at hX
    rw [hX]
    have hnode : (tokI n.kind (nmAt n.names j) (itemAt n j) d).node = itemAt n j := by simp only [tokI]; rw [if_pos hi]
    simp only
    rw [hnode, if_neg (flat_kind hpx), if_pos hb, add_upto hp hj]
  · have hil : 0 < (itemAt n j).items.length := by
      cases h : (itemAt n j).items with
      | nil => rw [h] at hi; exact absurd rfl hi
      | cons y ys => simp
    have hs2 : 1 ≤ s2 := by
      cases s2 with
      | zero =>
        have := hkx _ (List.getElem_mem hil)
        cases this
      | succ s2 => omega
    have hl : (itemAt n j).lns (d + 1) = hline (itemAt n j).kind (nmAt (itemAt n j).names 0) (itemAt (itemAt n j) 0) (d + 1) :: restL (itemAt n j) 0 (d + 1) := by
      rw [lns_eq]
      have := drop_lines (itemAt n j) 0 (d + 1) hil
      simpa using this
    have hx0 : rightD s2 (itemAt (itemAt n j) 0) = true := by rw [itemAt_eq hil]; exact hkx _ (List.getElem_mem hil)
    obtain ⟨hp0, s3, e3, hk0⟩ := rightD_parts hx0
    have hdeep : (itemAt (itemAt n j) 0).items.isEmpty = true ∨ d + 1 ≤ 5 := by
      by_cases h0 : (itemAt (itemAt n j) 0).items.isEmpty = true
      · exact .inl h0
      · right
        have h0l : 0 < (itemAt (itemAt n j) 0).items.length := by
          cases h : (itemAt (itemAt n j) 0).items with
          | nil => rw [h] at h0; exact absurd rfl h0
          | cons y ys => simp
        cases s3 with
        | zero =>
          have := hk0 _ (List.getElem_mem h0l)
          cases this
        | succ s3 => omega
    have htok := tok_line (name_ok hpx hil) hp0 hdeep (d := d + 1)
    rw [hl] at hX ⊢
    rw [List.cons_append, nextT_tok htok]
    have hnode : (tokI n.kind (nmAt n.names j) (itemAt n j) d).node.kind = 0 := by
      simp only [tokI]
      rw [if_neg hi]
      rfl
    simp only
    rw [if_pos hnode, if_pos (by simp [tokI])]
    have hr := ihs (itemAt n j) (d + 1) hx (by omega) ((itemAt n j).items.length - 1) 0 (by omega) (cur + 1) X r m b l1 (by
      rw [← hX, List.length_cons]
      congr 1
      omega) (by omega)
    have hr2 : itemsC (.mk (tokI (itemAt n j).kind (nmAt (itemAt n j).names 0) (itemAt (itemAt n j) 0) (d + 1)).kind ⟨#[]⟩ [] []) (tokI (itemAt n j).kind (nmAt (itemAt n j).names 0) (itemAt (itemAt n j) 0) (d + 1)).deep (tokI (itemAt n j).kind (nmAt (itemAt n j).names 0) (itemAt (itemAt n j) 0) (d + 1)) (cur + 1) (restL (itemAt n j) 0 (d + 1) ++ X) r = .inr (itemAt n j, b, m, l1) := hr
    rw [hr2]
    simp only
    rw [if_pos hb, add_upto hp hj]
theorem read_lns : ∀ s, ReadS s
  | 0 => fun n d h => by cases h
  | s + 1 => by
    intro n d hn hd g
    have ihs := read_lns s
    obtain ⟨hp, s', e, hkids⟩ := rightD_parts hn
    obtain rfl : s = s' := by omega
    induction g with
    | zero =>
      intro j hj cur F r m b l1 hF hb
      have hjl : j < n.items.length := by omega
      have e0 : lnsL n.kind (n.names.drop (j + 1)) (n.items.drop (j + 1)) d = [] := by rw [List.drop_of_length_le (l := n.items) (by omega), lnsL_nil]
      have er : restL n j d = (itemAt n j).lns (d + 1) := by rw [restL, e0, List.append_nil]
      rw [er] at hF ⊢
      rw [one_item ihs hn hd hjl hF (by omega), itemsC_end (by omega)]
      have : j + 1 = n.items.length := by omega
      rw [this, upto_all hp (by omega)]
    | succ g ih =>
      intro j hj cur F r m b l1 hF hb
      have hjl : j < n.items.length := by omega
      have hj1 : j + 1 < n.items.length := by omega
      have er : restL n j d = (itemAt n j).lns (d + 1) ++ (hline n.kind (nmAt n.names (j + 1)) (itemAt n (j + 1)) d :: restL n (j + 1) d) := by rw [restL, drop_lines n (j + 1) d hj1]
      rw [er] at hF ⊢
      have hx : rightD s (itemAt n (j + 1)) = true := by rw [itemAt_eq hj1]; exact hkids _ (List.getElem_mem hj1)
      obtain ⟨hpx, s2, e2, hkx⟩ := rightD_parts hx
      have hdeep : (itemAt n (j + 1)).items.isEmpty = true ∨ d ≤ 5 := by
        by_cases h0 : (itemAt n (j + 1)).items.isEmpty = true
        · exact .inl h0
        · right
          have h0l : 0 < (itemAt n (j + 1)).items.length := by
            cases h : (itemAt n (j + 1)).items with
            | nil => rw [h] at h0; exact absurd rfl h0
            | cons y ys => simp
          cases s2 with
          | zero =>
            have := hkx _ (List.getElem_mem h0l)
            cases this
          | succ s2 => omega
      have htok := tok_line (name_ok hp hj1) hpx hdeep (d := d)
      rw [List.append_assoc, List.cons_append]
      rw [one_item ihs hn hd hjl (nextT_tok htok _ _ r) (by simp [tokI])]
      refine ih (j + 1) (by omega) _ F r m b l1 ?_ hb
      rw [← hF]
      simp only [List.length_append, List.length_cons]
      congr 1
      omega
/-- none of a node's lines holds the byte that ends one -/
theorem lns_no10 : ∀ (s : Nat) (n : Nd) (d : Nat), rightD s n = true → ∀ l ∈ n.lns d, ∀ c ∈ l, c ≠ 10
  | 0, n, d, h => by cases h
  | s + 1, n, d, h => by
    have ihs := lns_no10 s
    obtain ⟨hp, s', e, hkids⟩ := rightD_parts h
    obtain rfl : s = s' := by omega
    have go : ∀ g j, j + g = n.items.length → ∀ l ∈ lnsL n.kind (n.names.drop j) (n.items.drop j) d, ∀ c ∈ l, c ≠ 10 := by
      intro g
      induction g with
      | zero =>
        intro j hj l hl
        rw [List.drop_of_length_le (l := n.items) (by omega), lnsL_nil] at hl
        cases hl
      | succ g ih =>
        intro j hj l hl
        have hjl : j < n.items.length := by omega
        have hx : rightD s (itemAt n j) = true := by rw [itemAt_eq hjl]; exact hkids _ (List.getElem_mem hjl)
        rw [drop_lines n j d hjl, List.mem_cons, restL, List.mem_append] at hl
        rcases hl with rfl | hl | hl
        · exact hline_no10 (name_ok hp hjl) (rightD_parts hx).1
        · exact ihs _ _ hx l hl
        · exact ih (j + 1) (by omega) l hl
    intro l hl
    rw [lns_eq] at hl
    exact go n.items.length 0 (by omega) l (by simpa using hl)
/-- what is printed is parsed -/
theorem print_parse (n : Nd) (hn : nodeC n = true) (hi : n.items.length ≠ 0) (h8 : (n.linesT 0).length ≤ 8192) : parseN (n.linesT 0) = (n, 0, 0) := by
  obtain ⟨hp, s, e, hkids⟩ := rightD_parts hn
  have hil : 0 < n.items.length := by omega
  have hln : linesB (n.linesT 0) = (n.lns 0, []) := by
    rw [linesT_lns]
    exact lines_un _ (lns_no10 8 n 0 hn)
  have hl : n.lns 0 = hline n.kind (nmAt n.names 0) (itemAt n 0) 0 :: restL n 0 0 := by
    rw [lns_eq]
    have := drop_lines n 0 0 hil
    simpa using this
  have hx : rightD s (itemAt n 0) = true := by rw [itemAt_eq hil]; exact hkids _ (List.getElem_mem hil)
  have htok := tok_line (name_ok hp hil) (rightD_parts hx).1 (.inr (Nat.zero_le 5)) (d := 0)
  unfold parseN
  rw [if_neg (by omega), hln]
  simp only
  rw [hl, nextT_tok htok]
  simp only
  rw [if_pos (by rfl)]
  have hr := read_lns 8 n 0 hn (by omega) (n.items.length - 1) 0 (by omega) 1 [] [] (1 + (restL n 0 0).length + 1) endI [] (by simp [nextT]) (by have : endI.deep = -1 := rfl; omega)
  rw [List.append_nil] at hr
  have hr2 : itemsC (.mk (tokI n.kind (nmAt n.names 0) (itemAt n 0) 0).kind ⟨#[]⟩ [] []) 0 (tokI n.kind (nmAt n.names 0) (itemAt n 0) 0) 1 (restL n 0 0) [] = .inr (n, endI, 1 + (restL n 0 0).length + 1, []) := hr
  rw [hr2]
theorem printE_ok {n : Nd} (h : printE n = 0) : nodeC n = true ∧ n.items.length ≠ 0 ∧ (n.linesT 0).length ≤ 8192 ∧ printS n = bytesA (n.linesT 0) := by
  unfold printE at h
  split at h
  · cases h
  · rename_i h1
    split at h
    · rename_i h2
      have h3 : nodeC n = true ∧ n.items.length ≠ 0 := by
        simp only [not_or] at h1
        exact ⟨by simpa using h1.1, h1.2⟩
      exact ⟨h3.1, h3.2, h2, by unfold printS; rw [if_neg h1, if_pos h2]⟩
    · cases h
/-- what is printed, as a text, is parsed -/
theorem printS_parse {n : Nd} (h : printE n = 0) : parseN (printS n).data.toList = (n, 0, 0) := by
  obtain ⟨h1, h2, h3, h4⟩ := printE_ok h
  rw [h4]
  exact print_parse n h1 h2 h3
end Go.Proofs.YtolbhhokpelchaaDoor
/- In a region that draws its order: an append of one text, which lies in a block of memory of its own, to a row of texts. It speaks of no one program. -/
namespace Go.Proofs.YtolbhhokpelchaaDoor
open Go.RowKit

theorem bal {w W : World} {o : Obj} (h : Below w.heap.size w W) : Below w.heap.size w (W.alloc o) := h.alloc h.size _
/-- an append of one text, which lies in a block of memory of its own, to a row of texts: where the new row lies is told -/
theorem step_appT {P : Program} (W : World) {ops : Array Oper} {o : Oper} {a : Act} {K : Act → World → Prop} {Q : Exit → Act → World → Prop} {E : Prop} (hgd : o.guard = none) (s x : Operand) (t : TypeId)
    (ho : o.op = .call { callee := .builtin .append, args := #[s, x], argTypes := #[t, t] })
    (base : Nat) (e : TypeId) (i : TypeInfo) (z : Value) (ht : P.underlying t = some (.slice e)) (hi : P.info? e = some i) (hz : i.zero = some z) (hsize : i.size = 1) (hby : i.bytes = 16) (hzs : z.cells.size = 1)
    (v : Value) (ss : List ByteArray) (l : ByteArray) (hs : a.eval s = v) (hown : OwnS e W base v ss)
    (hxB : ∃ B, a.eval x = .slice (some ⟨B, 0, none⟩) 1 1 ∧ W.cell? ⟨B, 0, none⟩ = some (.string l)) (h63 : ss.length ≤ 1000000) (hbase : base ≤ W.heap.size)
    (h : ∀ (g cap : Nat) (w' : World), OwnS e w' base (.slice (some ⟨g, 0, none⟩) (ss.length + 1) cap) (ss ++ [l]) → W.grownBy w' v.ownBlock → (v.ownBlock = some g ∨ W.heap.size ≤ g) → K (a.put o.dst (.slice (some ⟨g, 0, none⟩) (ss.length + 1) cap)) w') :
    if Region.wanted o (yielded ops a.tmps) = true then Oper.wp P o a W K Q else E := by
  obtain ⟨B, hx, hB⟩ := hxB
  refine Go.step_append_lies W hgd s x t ho base e i z 1 16 ht hi hz hsize hby hzs (by omega) v ss.length (strsV ss) hs hown ⟨B, 0, none⟩ 1 1 [.string l] hx rfl ?_ ?_ (by omega) (by unfold maxLen; omega) (by omega) hbase W.heap.size rfl ?_
  · intro j u hu
    match j, hu with
    | 0, hu => simp at hu; subst hu; exact hB
  · intro u hu; simp at hu; subst hu; rfl
  · intro g cap w' h2 h3 h4 _
    refine h g cap w' ?_ h3 (h4.imp id fun e => by omega)
    unfold OwnS
    rw [← strsV_push, List.length_append]
    exact h2

theorem new0 (W : World) (l : ByteArray) (T : TypeId) : (W.alloc (.cells #[.string l] T)).cell? ⟨W.heap.size, 0, none⟩ = some (.string l) := World.cell?_alloc_mark W _ _ (0, 0) 0
theorem new1 (W : World) (l : ByteArray) (T : TypeId) (o : Obj) : ((W.alloc (.cells #[.string l] T)).alloc o).cell? ⟨W.heap.size, 0, none⟩ = some (.string l) := cellL ((Below.refl _ _).alloc (Nat.le_refl _) _) (new0 W l T)
theorem new0s (W : World) (l : ByteArray) (T : TypeId) (o : Obj) : ((W.alloc o).alloc (.cells #[.string l] T)).cell? ⟨W.heap.size + 1, 0, none⟩ = some (.string l) := by
  have := new0 (W.alloc o) l T
  rwa [World.size_alloc] at this
theorem lie8 {w W : World} {r : Option Nat} {g : Nat} (hb : Below w.heap.size w W) (h : r = some g ∨ W.heap.size ≤ g) : r = some g ∨ w.heap.size ≤ g := h.imp id (Nat.le_trans hb.size)
/-- a cell of another block than the row that was appended to -/
theorem cell_far2 {w W w2 : World} {g j : Nat} {r : Option Nat} {x : Value} (hb : Below w.heap.size w W) (hg : W.grownBy w2 r) (hne : some g ≠ r) (h : w.cell? ⟨g, j, none⟩ = some x) : w2.cell? ⟨g, j, none⟩ = some x := by
  have hlt : g < w.heap.size := World.block_lt_of_cell? w _ h
  rw [← cellL hb h]
  unfold World.cell?
  rw [hg.block g (Nat.lt_of_lt_of_le hlt hb.size) hne]
theorem cell_new2 {W w2 : World} {b : Nat} {r : Option Nat} {x : Value} (hg : W.grownBy w2 r) (hne : some b ≠ r) (h : W.cell? ⟨b, 0, none⟩ = some x) : w2.cell? ⟨b, 0, none⟩ = some x := by
  have hlt : b < W.heap.size := World.block_lt_of_cell? W _ h
  rw [← h]
  unfold World.cell?
  rw [hg.block b hlt hne]
end Go.Proofs.YtolbhhokpelchaaDoor
/- A row of words: its lines. An append of a node, in a region that draws its order. -/
namespace Go.Proofs.YtolbhhokpelchaaDoor
open Go.RowKit

theorem unL_count : ∀ ls : List Bs, (∀ l ∈ ls, ∀ c ∈ l, c ≠ 10) → (unL ls).count 10 = ls.length
  | [], _ => rfl
  | l :: ls, h => by
    have e : unL (l :: ls) = l ++ 10 :: unL ls := by simp [unL]
    rw [e, List.count_append, List.count_cons_self, unL_count ls (fun x hx => h x (List.mem_cons_of_mem _ hx)), List.count_eq_zero.2 (fun hm => h l (by simp) 10 hm rfl), List.length_cons]
    omega
theorem lnsL_flat (k : Int) (d : Nat) : ∀ (xs : List Nd) (ns : List ByteArray), (∀ x ∈ xs, x.items.isEmpty = true) → (lnsL k ns xs d).length = xs.length
  | [], ns, _ => by rw [lnsL_nil]; rfl
  | x :: xs, ns, h => by
    rw [lnsL_cons, lns_flat (h x (by simp)), List.nil_append, List.length_cons, List.length_cons, lnsL_flat k d xs ns.tail (fun y hy => h y (List.mem_cons_of_mem _ hy))]
/-- as many lines as items, where these have none -/
theorem rows_count {n : Nd} (h : printE n = 0) (hf : ∀ x ∈ n.items, x.items.isEmpty = true) : (printS n).data.toList.count 10 = n.items.length := by
  obtain ⟨h1, h2, h3, h4⟩ := printE_ok h
  rw [h4]
  show (n.linesT 0).count 10 = _
  rw [linesT_lns, unL_count _ (lns_no10 8 n 0 h1), lns_eq, lnsL_flat _ _ _ _ hf]

theorem step_pushN {P : Program} (W : World) {ops : Array Oper} {o : Oper} {a : Act} {K : Act → World → Prop} {Q : Exit → Act → World → Prop} {E : Prop} (hgd : o.guard = none) (s x : Operand) (t : TypeId)
    (ho : o.op = .call { callee := .builtin .append, args := #[s, x], argTypes := #[t, t] })
    (base : Nat) (i : TypeInfo) (z : Value) (ht : P.underlying t = some (.slice 25)) (hi : P.info? 25 = some i) (hz : i.zero = some z) (hsize : i.size = 4) (hby : i.bytes = 72) (hzs : z.cells.size = 4)
    (v : Value) (ls : List NdAt) (l : NdAt) (hs : a.eval s = v) (hown : OwnN W base v ls)
    (hxB : ∃ B, a.eval x = .slice (some ⟨B, 0, none⟩) 1 1 ∧ Blk W B 25 (nCells l)) (h63 : ls.length ≤ 1000000) (hbase : base ≤ W.heap.size)
    (h : ∀ (ia : Option Addr) (ic : Nat) (w' : World), OwnN w' base (.slice ia (ls.length + 1) ic) (ls ++ [l]) → W.grownBy w' v.ownBlock → RowLies v (.slice ia (ls.length + 1) ic) W.heap.size → K (a.put o.dst (.slice ia (ls.length + 1) ic)) w') :
    if Region.wanted o (yielded ops a.tmps) = true then Oper.wp P o a W K Q else E := by
  obtain ⟨B, hx, hB⟩ := hxB
  refine Go.step_append_lies W hgd s x t ho base 25 i z 4 72 ht hi hz hsize hby hzs (by omega) v ls.length (ndsV ls) hs hown ⟨B, 0, none⟩ 1 1 (ndV l) hx rfl ?_ (ndV_one l) (by omega) (by unfold maxLen; omega) (by omega) hbase W.heap.size rfl ?_
  · intro j u hu
    have e0 : (⟨B, 0, none⟩ : Addr).add j = ⟨B, j, none⟩ := by unfold Addr.add; split <;> simp_all
    rw [e0, hB.cell j, show (nCells l)[j]? = (ndV l)[j]? by simp [ndV]]
    exact hu
  · intro g cap w' h2 h3 h4 _
    refine h _ cap w' ?_ h3 (h4.imp (fun e => e.symm) fun e => ⟨g, rfl, by omega⟩)
    unfold OwnN
    rw [ndsV_app, List.length_append, show ndsV [l] = ndV l by simp [ndsV]]
    exact h2
end Go.Proofs.YtolbhhokpelchaaDoor
