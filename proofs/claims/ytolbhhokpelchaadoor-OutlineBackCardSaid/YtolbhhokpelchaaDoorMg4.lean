/- A printed node's lines, and what each of them is read as. Mathematics alone. -/
import Derived.Test.YtolbhhokpelchaaDoorMg1
import Derived.Test.YtolbhhokpelchaaDoorMg3
import Derived.Test.YtolbhhokpelchaaDoorZOtlF
import Derived.Test.YtolbhhokpelchaaDoorOutP
import Derived.Test.YtolbhhokpelchaaDoorOwn
import Derived.Test.YtolbhhokpelchaaDoorOutD
import Derived.Deep.LoopGhost
namespace Go.Proofs.YtolbhhokpelchaaDoor

/-- an item's own line -/
def hline (k : Int) (nm : ByteArray) (x : Nd) (d : Nat) : Bs := List.replicate (2 * d) 32 ++ (hdNm k nm ++ (if x.items.isEmpty then 32 :: (flatT x).data.toList else []))
mutual
def Nd.lns : Nd → Nat → List Bs
  | .mk k _ ns xs, d => lnsL k ns xs d
def lnsL : Int → List ByteArray → List Nd → Nat → List Bs
  | _, _, [], _ => []
  | k, ns, x :: xs, d => hline k (ns.headD ⟨#[]⟩) x d :: (x.lns (d + 1) ++ lnsL k ns.tail xs d)
end
theorem lnsL_nil (k : Int) (ns : List ByteArray) (d : Nat) : lnsL k ns [] d = [] := by simp [lnsL]
theorem lnsL_cons (k : Int) (ns : List ByteArray) (x : Nd) (xs : List Nd) (d : Nat) : lnsL k ns (x :: xs) d = hline k (ns.headD ⟨#[]⟩) x d :: (x.lns (d + 1) ++ lnsL k ns.tail xs d) := by simp only [lnsL]
theorem lns_eq (n : Nd) (d : Nat) : n.lns d = lnsL n.kind n.names n.items d := by cases n; simp [Nd.lns, Nd.kind, Nd.names, Nd.items]
theorem lns_flat {n : Nd} (h : n.items.isEmpty = true) (d : Nat) : n.lns d = [] := by
  rw [lns_eq, List.isEmpty_iff.1 h, lnsL_nil]
mutual
theorem linesT_lns : ∀ (n : Nd) (d : Nat), n.linesT d = unL (n.lns d)
  | .mk k w ns xs, d => by
    simp only [Nd.linesT, Nd.lns]
    exact linesLs_lns k ns xs d
theorem linesLs_lns : ∀ (k : Int) (ns : List ByteArray) (xs : List Nd) (d : Nat), linesLs k ns xs d = unL (lnsL k ns xs d)
  | k, ns, [], d => by rw [linesLs_nil, lnsL_nil]; rfl
  | k, ns, x :: xs, d => by
    have h1 := linesT_lns x (d + 1)
    have h2 := linesLs_lns k ns.tail xs d
    have e : ∀ (l : Bs) (ls : List Bs), unL (l :: ls) = l ++ 10 :: unL ls := fun l ls => by simp [unL]
    rw [linesLs_cons, lnsL_cons, e, unL_app, ← h1, ← h2, itemT, behT, hline]
    by_cases hx : x.items.isEmpty = true
    · rw [if_pos hx, if_pos hx, h1, lns_flat hx]
      simp [unL]
    · rw [if_neg hx, if_neg hx]
      simp
end
/-- what an item's line is read as -/
def tokI (k : Int) (nm : ByteArray) (x : Nd) (d : Nat) : It := ⟨d, k, if k = 3 then nm else ⟨#[]⟩, if x.items.isEmpty then x else noNd⟩

theorem unqL_cons {c : UInt8} (h : c ≠ 92) : ∀ s : Bs, unqL (c :: s) = c :: unqL s
  | [] => rfl
  | d :: s => by
    rw [unqL, if_neg h]
theorem unqL_quoteL : ∀ s : Bs, unqL (quoteL s) = s
  | [] => rfl
  | c :: s => by
    have ih := unqL_quoteL s
    have e : quoteL (c :: s) = (if c = 34 ∨ c = 92 then [92, c] else [c]) ++ quoteL s := by simp [quoteL]
    rw [e]
    by_cases h : c = 34 ∨ c = 92
    · rw [if_pos h]
      show unqL (92 :: c :: quoteL s) = _
      rw [unqL, if_pos rfl, ih]
    · rw [if_neg h]
      show unqL (c :: quoteL s) = _
      rw [unqL_cons (fun e => h (.inr e)), ih]
theorem plB_ne {c : UInt8} (h : plB c = true) : c ≠ 10 ∧ c ≠ 34 ∧ c ≠ 91 ∧ c ≠ 93 ∧ c ≠ 123 ∧ c ≠ 125 := by
  have h' : 97 ≤ c.toNat ∧ c.toNat ≤ 122 ∨ 65 ≤ c.toNat ∧ c.toNat ≤ 90 ∨ 48 ≤ c.toNat ∧ c.toNat ≤ 57 ∨ c.toNat = 95 ∨ c.toNat = 45 ∨ c.toNat = 46 ∨ c.toNat = 47 ∨ c.toNat = 58 := by simpa [plB] using h
  have ne : ∀ k : UInt8, c.toNat ≠ k.toNat → c ≠ k := fun k hk e => hk (by rw [e])
  refine ⟨ne 10 ?_, ne 34 ?_, ne 91 ?_, ne 93 ?_, ne 123 ?_, ne 125 ?_⟩
  · show c.toNat ≠ 10; omega
  · show c.toNat ≠ 34; omega
  · show c.toNat ≠ 91; omega
  · show c.toNat ≠ 93; omega
  · show c.toNat ≠ 123; omega
  · show c.toNat ≠ 125; omega
theorem plC_all {s : Bs} (h : plC s = true) : (∀ c ∈ s, plB c = true) ∧ s ≠ [] := by
  simp only [plC, Bool.and_eq_true, decide_eq_true_eq, List.all_eq_true] at h
  exact ⟨h.1.1, fun e => by rw [e] at h; simp at h⟩
theorem quoteS_list (w : ByteArray) : (quoteS w).data.toList = 34 :: (quoteL w.data.toList ++ [34]) := rfl
/-- a word, as it is written, read -/
theorem word_read (w : ByteArray) : unqS (wordT w).data.toList = w.data.toList ∧ (wordT w).data.toList ≠ [91, 93] ∧ (wordT w).data.toList ≠ [123, 125] := by
  by_cases hp : plC w.data.toList = true
  · rw [wordT, if_pos hp]
    obtain ⟨ha, hne⟩ := plC_all hp
    refine ⟨?_, fun e => ?_, fun e => ?_⟩
    · unfold unqS
      rw [if_neg]
      intro h
      rw [Lib.hasPrefix, List.isPrefixOf_iff_prefix] at h
      obtain ⟨t, ht⟩ := h
      have : (34 : UInt8) ∈ w.data.toList := by rw [← ht]; simp
      exact (plB_ne (ha _ this)).2.1 rfl
    · exact (plB_ne (ha 91 (by rw [e]; simp))).2.2.1 rfl
    · exact (plB_ne (ha 123 (by rw [e]; simp))).2.2.2.2.1 rfl
  · rw [wordT, if_neg hp, quoteS_list]
    refine ⟨?_, fun e => ?_, fun e => ?_⟩
    · have h1 := pre_app [34] (quoteL w.data.toList ++ [34])
      simp only [List.singleton_append] at h1
      unfold unqS withinQ
      rw [if_pos h1.1, h1.2, (suf_snoc _ _).2]
      exact unqL_quoteL _
    · simp at e
    · simp at e
theorem bytesA_self (w : ByteArray) : bytesA w.data.toList = w := bytes_ext rfl
theorem empty_eq : (.empty : ByteArray) = ⟨#[]⟩ := rfl
/-- a node of no items that may be -/
theorem flat_is {x : Nd} (h : partsC x = true) (hi : x.items.isEmpty = true) : x = .mk 1 x.word [] [] ∧ owC x.word.data.toList = true ∨ x = .mk 2 ⟨#[]⟩ [] [] ∨ x = .mk 3 ⟨#[]⟩ [] [] := by
  obtain ⟨k, w, ns, xs⟩ := x
  have hx : xs = [] := List.isEmpty_iff.1 hi
  subst hx
  simp only [partsC, Bool.or_eq_true, Bool.and_eq_true, decide_eq_true_eq] at h
  simp only [Nd.kind, Nd.word, Nd.names, Nd.items] at h
  rcases h with (⟨rfl, ⟨h1, h2⟩, _⟩ | ⟨rfl, ⟨h1, h2⟩, _⟩) | ⟨rfl, ⟨h1, h2⟩, _⟩
  · obtain rfl := List.eq_nil_of_length_eq_zero h2
    exact .inl ⟨rfl, h1⟩
  · obtain rfl := List.eq_nil_of_length_eq_zero h2
    exact .inr (.inl (by rw [h1]; rfl))
  · obtain rfl := List.eq_nil_of_length_eq_zero (h2.trans rfl)
    exact .inr (.inr (by rw [h1]; rfl))
theorem flat_read {x : Nd} (h : partsC x = true) (hi : x.items.isEmpty = true) : flatI (32 :: (flatT x).data.toList) = some x := by
  have h1 := pre_app [32] (flatT x).data.toList
  simp only [List.singleton_append] at h1
  unfold flatI
  rw [if_pos h1.1, h1.2]
  rcases flat_is h hi with ⟨e, ho⟩ | e | e
  · obtain ⟨w, hw⟩ : ∃ w, x.word = w := ⟨_, rfl⟩
    rw [hw] at e ho
    subst e
    have hf : flatT (.mk 1 w [] []) = wordT w := rfl
    obtain ⟨r1, r2, r3⟩ := word_read w
    rw [hf, if_neg r2, if_neg r3, r1, ho, bytesA_self, bytesA_self]
    simp
  · subst e
    rfl
  · subst e
    rfl
theorem flat_kind {x : Nd} (h : partsC x = true) : x.kind ≠ 0 := by
  simp only [partsC, Bool.or_eq_true, Bool.and_eq_true, decide_eq_true_eq] at h
  rcases h with (⟨h, _⟩ | ⟨h, _⟩) | ⟨h, _⟩ <;> omega
theorem drop_blanks (j : Nat) (c : UInt8) (s : Bs) (hc : c ≠ 32) : saidT (List.replicate j 32 ++ c :: s) = c :: s := by
  unfold saidT Lib.trimLeftB
  rw [List.dropWhile_append_of_pos (by intro x hx; rw [List.eq_of_mem_replicate hx]; rfl), List.dropWhile_cons_of_neg (by simp [hc])]
theorem finI_of {x : Nd} (hx : partsC x = true) (d : Nat) (hd : x.items.isEmpty = true ∨ d ≤ 5) (k : Int) (nm : ByteArray) :
    finI (d : Int) k nm (if x.items.isEmpty then 32 :: (flatT x).data.toList else []) = some ⟨d, k, nm, if x.items.isEmpty then x else noNd⟩ := by
  by_cases hi : x.items.isEmpty = true
  · rw [if_pos hi, if_pos hi, finI_some (by simp), flat_read hx hi]
    rfl
  · rw [if_neg hi, if_neg hi, finI_nil, if_pos]
    rcases hd with h | h
    · exact absurd h hi
    · omega
/-- an item's line, read -/
theorem tok_line {k : Int} {nm : ByteArray} {x : Nd} {d : Nat} (hk : k = 2 ∨ k = 3 ∧ bwC nm.data.toList = true) (hx : partsC x = true) (hd : x.items.isEmpty = true ∨ d ≤ 5) : tokR (hline k nm x d) = some (some (tokI k nm x d)) := by
  obtain ⟨T, hT⟩ : ∃ T : Bs, (if x.items.isEmpty then 32 :: (flatT x).data.toList else []) = T := ⟨_, rfl⟩
  have hfin := finI_of hx d hd
  rw [hT] at hfin
  have h2d : (2 * d) % 2 = 0 := by omega
  have h2e : ((2 * d / 2 : Nat) : Int) = (d : Int) := by omega
  rcases hk with rfl | ⟨rfl, hn⟩
  · have e : hline 2 nm x d = List.replicate (2 * d) 32 ++ 45 :: T := by rw [hline, hT]; rfl
    have hlen : (List.replicate (2 * d) (32 : UInt8) ++ 45 :: T).length - ((45 : UInt8) :: T).length = 2 * d := by simp
    have h1 := pre_app [45] T
    simp only [List.singleton_append] at h1
    unfold tokR
    rw [e, drop_blanks _ _ _ (by decide)]
    simp only
    rw [if_neg (by decide), hlen, itemI, if_pos h2d, if_pos h1.1, h1.2, h2e, hfin]
    rfl
  · obtain ⟨hall, hne⟩ := bwC_all hn
    obtain ⟨c, s, hcs⟩ : ∃ c s, nm.data.toList = c :: s := by
      cases h : nm.data.toList with
      | nil => exact absurd h hne
      | cons c s => exact ⟨c, s, rfl⟩
    have hc := hall c (by rw [hcs]; simp)
    obtain ⟨q1, q2, q3, q4, q5⟩ := bwB_ne hc
    have hc32 : c ≠ 32 := fun e => by rw [e] at hc; exact absurd hc (by decide)
    have hc45 : c ≠ 45 := fun e => by rw [e] at hc; exact absurd hc (by decide)
    have e : hline 3 nm x d = List.replicate (2 * d) 32 ++ c :: (s ++ 58 :: T) := by
      rw [hline, hT, hdNm, if_pos rfl, hcs]
      simp
    have hlen : (List.replicate (2 * d) (32 : UInt8) ++ c :: (s ++ 58 :: T)).length - (c :: (s ++ 58 :: T)).length = 2 * d := by
      rw [List.length_append, List.length_replicate]; omega
    have hcut : Lib.cut (c :: (s ++ 58 :: T)) [58] = (nm.data.toList, T, true) := by
      have := cut1_at 58 nm.data.toList T (fun x hx e => by
        have := hall x hx
        rw [e] at this
        exact absurd this (by decide))
      rw [hcs] at this ⊢
      exact this
    unfold tokR
    rw [e, drop_blanks _ _ _ hc32]
    simp only
    rw [if_neg q4, hlen, itemI, if_pos h2d, if_neg, hcut]
    · simp only
      rw [hn, if_pos (by rfl), bytesA_self, h2e, hfin]
      rfl
    · intro h
      rw [Lib.hasPrefix, List.isPrefixOf_iff_prefix] at h
      obtain ⟨t, ht⟩ := h
      rw [List.singleton_append] at ht
      exact hc45 (List.cons.inj ht).1.symm
/-- no line holds the byte that ends one -/
theorem hline_no10 {k : Int} {nm : ByteArray} {x : Nd} {d : Nat} (hk : k = 2 ∨ k = 3 ∧ bwC nm.data.toList = true) (hx : partsC x = true) : ∀ c ∈ hline k nm x d, c ≠ 10 := by
  intro c hc e
  subst e
  simp only [hline, List.mem_append] at hc
  rcases hc with hc | hc | hc
  · have := List.eq_of_mem_replicate hc
    exact absurd this (by decide)
  · rcases hk with rfl | ⟨rfl, hn⟩
    · have : (10 : UInt8) ∈ ([45] : Bs) := hc
      simp at this
    · rw [hdNm, if_pos rfl, List.mem_append] at hc
      rcases hc with hc | hc
      · exact absurd ((bwC_all hn).1 10 hc) (by decide)
      · simp at hc
  · by_cases hi : x.items.isEmpty = true
    · rw [if_pos hi, List.mem_cons] at hc
      rcases hc with hc | hc
      · exact absurd hc (by decide)
      · rcases flat_is hx hi with ⟨e, ho⟩ | e | e
        · rw [e] at hc
          have hf : flatT (.mk 1 x.word [] []) = wordT x.word := rfl
          rw [hf, wordT] at hc
          have how : ∀ c ∈ x.word.data.toList, c ≠ 10 := fun c hc e => by
            subst e
            simp only [owC, Bool.and_eq_true, List.all_eq_true] at ho
            exact absurd (ho.2 10 hc) (by decide)
          by_cases hp : plC x.word.data.toList = true
          · rw [if_pos hp] at hc
            exact how 10 hc rfl
          · rw [if_neg hp, quoteS_list] at hc
            simp only [List.mem_cons, List.mem_append, List.not_mem_nil, or_false] at hc
            rcases hc with hc | hc | hc
            · exact absurd hc (by decide)
            · simp only [quoteL, List.mem_flatMap] at hc
              obtain ⟨y, hy, hc⟩ := hc
              split at hc
              · simp only [List.mem_cons, List.not_mem_nil, or_false] at hc
                rcases hc with hc | hc
                · exact absurd hc (by decide)
                · exact how y hy hc.symm
              · simp only [List.mem_cons, List.not_mem_nil, or_false] at hc
                exact how y hy hc.symm
            · exact absurd hc (by decide)
        · rw [e] at hc
          have : (10 : UInt8) ∈ ([91, 93] : Bs) := hc
          simp at this
        · rw [e] at hc
          have : (10 : UInt8) ∈ ([123, 125] : Bs) := hc
          simp at this
    · rw [if_neg hi] at hc
      cases hc
end Go.Proofs.YtolbhhokpelchaaDoor
/- A text that grows, in a block of its own: what stays of memory beside it; (*writer).put. -/
namespace Go.Proofs.YtolbhhokpelchaaDoor
open Go.RowKit

/-- all blocks stay but the writer's own and rows of bytes of the call's own -/
structure FrW (gw B : Nat) (w w' : World) : Prop where
  os : w'.os = w.os
  tape : w'.tape = w.tape
  output : w'.output = w.output
  size : w.heap.size ≤ w'.heap.size
  blk : ∀ k, k < w.heap.size → k ≠ gw → (k < B ∨ ∀ cs fr, w.heap[k]? ≠ some (.cells cs 5 fr)) → w'.heap[k]? = w.heap[k]?
theorem FrW.refl (gw B : Nat) (w : World) : FrW gw B w w := ⟨rfl, rfl, rfl, Nat.le_refl _, fun _ _ _ _ => rfl⟩
theorem FrW.trans {gw B : Nat} {w w1 w2 : World} (h : FrW gw B w w1) (k : FrW gw B w1 w2) : FrW gw B w w2 :=
  ⟨k.os.trans h.os, k.tape.trans h.tape, k.output.trans h.output, Nat.le_trans h.size k.size, fun i hi h1 h2 => by
    have e := h.blk i hi h1 h2
    exact (k.blk i (Nat.lt_of_lt_of_le hi h.size) h1 (h2.imp id fun g cs fr => by rw [e]; exact g cs fr)).trans e⟩
theorem FrW.of {gw B : Nat} {w w1 : World} (h : Below w.heap.size w w1) : FrW gw B w w1 := ⟨h.os, h.tape, h.output, h.size, fun k hk _ _ => h.block k hk⟩
theorem FrW.alloc {gw B : Nat} {w w1 : World} (h : FrW gw B w w1) (o : Obj) : FrW gw B w (w1.alloc o) := h.trans (FrW.of ((Below.refl _ _).alloc (Nat.le_refl _) o))
theorem FrW.below {gw B b : Nat} {w w1 : World} (h : FrW gw B w w1) (hb : b ≤ w.heap.size) (h1 : b ≤ gw) (h2 : b ≤ B) : Below b w w1 := ⟨h.os, h.tape, h.output, h.size, fun k hk => h.blk k (by omega) (by omega) (.inl (by omega))⟩
theorem Blk.frw {gw B g : Nat} {w w1 : World} {t : TypeId} {cs : Array Value} (h : Blk w g t cs) (hf : FrW gw B w w1) (hne : g ≠ gw) (ht : t ≠ 5) : Blk w1 g t cs :=
  (hf.blk g h.lt hne (.inr fun cs' fr e => ht (by
    have h0 : w.heap[g]? = some (.cells cs t (0, 0)) := h
    rw [h0] at e
    cases e
    rfl))).trans h
/-- the text so far -/
def TxtAt (w : World) (gw B : Nat) (L : Bs) : Prop := ∃ v, Blk w gw 50 #[v] ∧ OwnB 5 w B v L
theorem TxtAt.call {w w1 : World} {gw B : Nat} {L : Bs} (h : TxtAt w gw B L) (hb : Below w.heap.size w w1) : TxtAt w1 gw B L := by
  obtain ⟨v, h1, h2⟩ := h
  exact ⟨v, h1.call hb, h2.call hb⟩
theorem TxtAt.alloc {w : World} {gw B : Nat} {L : Bs} (h : TxtAt w gw B L) (o : Obj) : TxtAt (w.alloc o) gw B L := h.call ((Below.refl _ _).alloc (Nat.le_refl _) _)
/-- an append to the text, and the store of what it gives -/
theorem txt_push {w w2 : World} {gw B : Nat} {v v2 : Value} {L L2 : Bs} (hk : Blk w gw 50 #[v]) (ho : OwnB 5 w B v L) (hg : w.grownBy w2 v.ownBlock) (ho2 : OwnB 5 w2 B v2 L2) :
    Blk w2 gw 50 #[v] ∧ FrW gw B w (w2.setCell ⟨gw, 0, none⟩ v2) ∧ TxtAt (w2.setCell ⟨gw, 0, none⟩ v2) gw B L2 := by
  have hrow : ∀ g, v.ownBlock = some g → ∃ cs fr, w.heap[g]? = some (.cells cs 5 fr) := by
    intro g e
    rcases ho.2 with ⟨rfl, _⟩ | ⟨g', cap, cur, rfl, _, hh, _⟩
    · cases e
    · cases e
      exact ⟨cur, _, hh⟩
  have hrow2 : ∀ g, v2.ownBlock = some g → ∃ cs fr, w2.heap[g]? = some (.cells cs 5 fr) := by
    intro g e
    rcases ho2.2 with ⟨rfl, _⟩ | ⟨g', cap, cur, rfl, _, hh, _⟩
    · cases e
    · cases e
      exact ⟨cur, _, hh⟩
  have hne : some gw ≠ v.ownBlock := fun e => by
    obtain ⟨cs, fr, hh⟩ := hrow gw e.symm
    have h0 : w.heap[gw]? = some (.cells #[v] 50 (0, 0)) := hk
    rw [h0] at hh
    have ht : (50 : Nat) = 5 := by simpa using (Obj.cells.inj (Option.some.inj hh)).2.1
    exact absurd ht (by decide)
  have hk2 : Blk w2 gw 50 #[v] := (hg.block gw hk.lt hne).trans hk
  have hz : (w2.setCell ⟨gw, 0, none⟩ v2).heap.size = w2.heap.size := by simp [World.setCell]
  have hset : ∀ k, k ≠ gw → (w2.setCell ⟨gw, 0, none⟩ v2).heap[k]? = w2.heap[k]? := fun k hk => Below.heap_setCell w2 ⟨gw, 0, none⟩ v2 k hk
  refine ⟨hk2, ⟨hg.os, hg.tape, hg.output, by rw [hz]; exact hg.size, fun k hkl h1 h2 => ?_⟩, v2, ?_, ?_⟩
  · rw [hset k h1]
    refine hg.block k hkl fun e => ?_
    rcases h2 with h2 | h2
    · have := (World.ownsRow.lt ho k e.symm).1
      omega
    · obtain ⟨cs, fr, hh⟩ := hrow k e.symm
      exact h2 cs fr hh
  · have := hk2.set 0 v2
    simpa using this
  · refine World.ownsRow.kept ho2 (row := some gw) ⟨rfl, rfl, rfl, by rw [hz]; exact Nat.le_refl _, fun k _ hk => hset k (fun e => hk (by rw [e]))⟩ ?_
    cases e : v2.ownBlock with
    | none => simp
    | some g =>
      right
      intro e2
      obtain rfl : g = gw := by simpa using e2
      obtain ⟨cs, fr, hh⟩ := hrow2 g e
      have h0 : w2.heap[g]? = some (.cells #[v] 50 (0, 0)) := hk2
      rw [h0] at hh
      have ht : (50 : Nat) = 5 := by simpa using (Obj.cells.inj (Option.some.inj hh)).2.1
      exact absurd ht (by decide)
/-- the panic of a text that is too long -/
def longP : PanicEntry := { v := .iface 28 (.int .i64 2), recovered := false }
end Go.Proofs.YtolbhhokpelchaaDoor
/- The contract of (*writer).put. -/
namespace Go.Proofs.YtolbhhokpelchaaDoor
open Go.RowKit

/-- what is written behind a text: it is, or it is too long -/
def PutP (gw B : Nat) (L : Bs) (w : World) (e : Ending) (w' : World) : Prop :=
  FrW gw B w w' ∧ ((L.length ≤ 8192 ∧ e = .returned (.tuple #[]) ∧ TxtAt w' gw B L) ∨ (8192 < L.length ∧ e = .panicked [longP]))
theorem blkNe {w : World} {g g' : Nat} {t t' : TypeId} {cs cs' : Array Value} (h : Blk w g t cs) (h' : Blk w g' t' cs') (ht : t ≠ t') : g ≠ g' := fun e => by
  subst e
  have h0 : w.heap[g]? = some (.cells cs t (0, 0)) := h
  have h1 : w.heap[g]? = some (.cells cs' t' (0, 0)) := h'
  rw [h0] at h1
  cases h1
  exact ht rfl
theorem OwnB.form {T : TypeId} {w : World} {base : Nat} {v : Value} {l : List UInt8} (h : OwnB T w base v l) : ∃ a c, v = .slice a l.length c := by
  rcases h.2 with ⟨rfl, h0⟩ | ⟨g, cap, cur, rfl, _⟩
  · exact ⟨none, 0, by rw [h0]⟩
  · exact ⟨_, _, rfl⟩
theorem catB_take_le (ss : List ByteArray) (k : Nat) : (catB (ss.take k)).length ≤ (catB ss).length := by
  have : catB ss = catB (ss.take k) ++ catB (ss.drop k) := by
    unfold catB
    rw [← List.flatMap_append, List.take_append_drop]
  rw [this, List.length_append]
  omega

set_option maxHeartbeats 3200000 in
set_option maxRecDepth 100000 in
theorem put_any (gw B gp n : Nat) (L : Bs) (ss : List ByteArray) (w : World) (ht : TxtAt w gw B L) (hp : Blk w gp 9 (ss.map Value.string).toArray) (hn : n = ss.length) (hL : L.length ≤ 10000) (hss : (catB ss).length ≤ 1000000) (hl : ss.length ≤ 10) (hB : B ≤ w.heap.size) :
    Calls Tryd.prog 52 #[.pointer (some ⟨gw, 0, none⟩), .slice (some ⟨gp, 0, none⟩) n n] w (PutP gw B (L ++ catB ss) w) := by
  subst hn
  obtain ⟨i0, hi, hz0, hz1, hz2⟩ := info_partsQ Tryd.infoQ
  have hne : gp ≠ gw := by
    obtain ⟨v, h, _⟩ := ht
    exact blkNe hp h (by decide)
  have HP := Lib.hid hp
  have HT := Lib.hid ht
  have HLE := Lib.hid (catB_take_le ss)
  have HTK := Lib.hid (catB_take ss)
  obtain ⟨R, hR⟩ : ∃ R, PutP gw B (L ++ catB ss) w = R := ⟨_, rfl⟩
  have HR := Lib.hid hR
  rw [hR]
  clear hp ht hR
  go_enter Tryd.func52, Tryd.ntmps52
  go_wp2_with fail
  go_loopg [8, 5] ss.length (fun gg i _ wr => ∃ k : Nat, k + gg = ss.length ∧ i = .int .i64 k ∧ FrW gw B w wr ∧ TxtAt wr gw B (L ++ catB (ss.take k)))
  case atStart => exact ⟨0, by omega, rfl, FrW.refl _ _ _, by simpa [catB] using HT.out⟩
  case round =>
    obtain ⟨k, hkg, rfl, hf, htx⟩ := hrel
    obtain ⟨v, hk, ho⟩ := htx
    have hle := HLE.out k
    have hln : (L ++ catB (ss.take k)).length ≤ 1010000 := by rw [List.length_append]; omega
    cases gk with
    | zero =>
      obtain rfl : k = ss.length := by omega
      rw [List.take_length] at ho hln
      obtain ⟨a, c, rfl⟩ := ho.form
      have hc := hk.cell 0
      by_cases h8 : (L ++ catB ss).length ≤ 8192
      · have d8 : decide ((8192 : Int) < ((L ++ catB ss).length : Int)) = false := decide_eq_false (by omega)
        have HH : Hid (PutP gw B (L ++ catB ss) w (.returned (.tuple #[])) wr) := Lib.hid ⟨hf, .inl ⟨h8, rfl, _, hk, ho⟩⟩
        generalize L ++ catB ss = LL at *
        clear hk ho hf h8 hle hln
        go_wp2_with fail
        go_end0
        rw [← HR.out]
        exact HH.out
      · have d8 : decide ((8192 : Int) < ((L ++ catB ss).length : Int)) = true := decide_eq_true (by omega)
        have HH : Hid (PutP gw B (L ++ catB ss) w (.panicked [longP]) wr) := Lib.hid ⟨hf, .inr ⟨by omega, rfl⟩⟩
        generalize L ++ catB ss = LL at *
        clear hk ho hf h8 hle hln
        go_wp2_with fail
        simp only [bodyPost]
        refine ⟨trivial, ?_⟩
        rw [← HR.out]
        exact HH.out
    | succ gg =>
      have hkl : k < ss.length := by omega
      have hpc : wr.cell? ⟨gp, k, none⟩ = some (.string ss[k]) := by
        rw [(HP.out.frw hf hne (by decide)).cell k]
        simp [hkl]
      have htk := HTK.out k hkl
      have hle2 := HLE.out (k + 1)
      have hs1 : ss[k].size ≤ 1000000 := by
        rw [htk, List.length_append] at hle2
        have : ss[k].data.toList.length = ss[k].size := lenB _
        omega
      have HK2 := Lib.hid (show (L ++ catB (ss.take k)) ++ ss[k].data.toList = L ++ catB (ss.take (k + 1)) by rw [htk]; simp)
      have hbs : B ≤ wr.heap.size := Nat.le_trans hB hf.size
      have hc := hk.cell 0
      generalize ss[k] = S at *
      generalize L ++ catB (ss.take k) = LL at *
      clear htk hle hle2
      go_wp2_with (at_builtin; refine (wpList_appB wr rfl _ _ 48 9 rfl B 5 i0 (.int .u8 0) Tryd.underlying48 Tryd.underlying9 hi hz0 hz1 hz2 rfl v LL rfl ho S rfl (by omega) hbs ?_))
      intro v2 w2 ho2 hg2
      obtain ⟨L2, hL2⟩ : ∃ X, L ++ catB (ss.take (k + 1)) = X := ⟨_, rfl⟩
      have HL2 := Lib.hid hL2
      rw [HK2.out, hL2] at ho2
      clear hL2
      obtain ⟨a2, c2, rfl⟩ := ho2.form
      obtain ⟨a1, c1, rfl⟩ := ho.form
      obtain ⟨hk2, hf2, ht2⟩ := txt_push hk ho hg2 ho2
      have hc2 := hk2.cell 0
      have hz2' := hk2.frozen 0
      have hf3 := hf.trans hf2
      clear hk ho hg2 ho2 hk2 hf2 hpc hc
      go_wp2_with fail
      go_roundg gg
      case measure => omega
      case rel => exact ⟨k + 1, by omega, by go_num, hf3, by rw [HL2.out]; exact ht2⟩
end Go.Proofs.YtolbhhokpelchaaDoor
