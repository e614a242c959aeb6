/- A printed node's lines, and what each of them is read as. Mathematics alone. -/
import Derived.Test.YtolbhhokpelchaaDoorMg1
import Derived.Test.YtolbhhokpelchaaDoorMg4
import Derived.Test.YtolbhhokpelchaaDoorOtlF
import Derived.Test.YtolbhhokpelchaaDoorZWrtC
import Derived.IntWalk
import Derived.Test.YtolbhhokpelchaaDoorOwnS
import Derived.Test.YtolbhhokpelchaaDoorAppend
namespace Go.Proofs.YtolbhhokpelchaaDoor

/-- an item's own line -/
def hline (k : Int) (nm : ByteArray) (x : Nd) (d : Nat) : Bs := List.replicate (2 * d) 32 ++ (hdNm k nm ++ (if x.items.isEmpty then 32 :: (flatT x).data.toList else []))
mutual
def Nd.lns : Nd → Nat → List Bs
  | .mk k _ ns xs, d => lnsL k ns xs d
def lnsL : Int → List ByteArray → List Nd → Nat → List Bs
  | _, _, [], _ => []
  | k, ns, x :: xs, d => hline k (ns.headD ⟨#[]⟩) x d :: (x.lns (d + 1) ++ lnsL k ns.tail xs d)
end
theorem lnsL_nil (k : Int) (ns : List ByteArray) (d : Nat) : lnsL k ns [] d = [] := by simp [lnsL]
theorem lnsL_cons (k : Int) (ns : List ByteArray) (x : Nd) (xs : List Nd) (d : Nat) : lnsL k ns (x :: xs) d = hline k (ns.headD ⟨#[]⟩) x d :: (x.lns (d + 1) ++ lnsL k ns.tail xs d) := by simp only [lnsL]
theorem lns_eq (n : Nd) (d : Nat) : n.lns d = lnsL n.kind n.names n.items d := by cases n; simp [Nd.lns, Nd.kind, Nd.names, Nd.items]
theorem lns_flat {n : Nd} (h : n.items.isEmpty = true) (d : Nat) : n.lns d = [] := by
  rw [lns_eq, List.isEmpty_iff.1 h, lnsL_nil]
mutual
theorem linesT_lns : ∀ (n : Nd) (d : Nat), n.linesT d = unL (n.lns d)
  | .mk k w ns xs, d => by
    simp only [Nd.linesT, Nd.lns]
    exact linesLs_lns k ns xs d
theorem linesLs_lns : ∀ (k : Int) (ns : List ByteArray) (xs : List Nd) (d : Nat), linesLs k ns xs d = unL (lnsL k ns xs d)
  | k, ns, [], d => by rw [linesLs_nil, lnsL_nil]; rfl
  | k, ns, x :: xs, d => by
    have h1 := linesT_lns x (d + 1)
    have h2 := linesLs_lns k ns.tail xs d
    have e : ∀ (l : Bs) (ls : List Bs), unL (l :: ls) = l ++ 10 :: unL ls := fun l ls => by simp [unL]
    rw [linesLs_cons, lnsL_cons, e, unL_app, ← h1, ← h2, itemT, behT, hline]
    by_cases hx : x.items.isEmpty = true
    · rw [if_pos hx, if_pos hx, h1, lns_flat hx]
      simp [unL]
    · rw [if_neg hx, if_neg hx]
      simp
end
/-- what an item's line is read as -/
def tokI (k : Int) (nm : ByteArray) (x : Nd) (d : Nat) : It := ⟨d, k, if k = 3 then nm else ⟨#[]⟩, if x.items.isEmpty then x else noNd⟩

theorem unqL_cons {c : UInt8} (h : c ≠ 92) : ∀ s : Bs, unqL (c :: s) = c :: unqL s
  | [] => rfl
  | d :: s => by
    rw [unqL, if_neg h]
theorem unqL_quoteL : ∀ s : Bs, unqL (quoteL s) = s
  | [] => rfl
  | c :: s => by
    have ih := unqL_quoteL s
    have e : quoteL (c :: s) = (if c = 34 ∨ c = 92 then [92, c] else [c]) ++ quoteL s := by simp [quoteL]
    rw [e]
    by_cases h : c = 34 ∨ c = 92
    · rw [if_pos h]
      show unqL (92 :: c :: quoteL s) = _
      rw [unqL, if_pos rfl, ih]
    · rw [if_neg h]
      show unqL (c :: quoteL s) = _
      rw [unqL_cons (fun e => h (.inr e)), ih]
theorem plB_ne {c : UInt8} (h : plB c = true) : c ≠ 10 ∧ c ≠ 34 ∧ c ≠ 91 ∧ c ≠ 93 ∧ c ≠ 123 ∧ c ≠ 125 := by
  have h' : 97 ≤ c.toNat ∧ c.toNat ≤ 122 ∨ 65 ≤ c.toNat ∧ c.toNat ≤ 90 ∨ 48 ≤ c.toNat ∧ c.toNat ≤ 57 ∨ c.toNat = 95 ∨ c.toNat = 45 ∨ c.toNat = 46 ∨ c.toNat = 47 ∨ c.toNat = 58 := by simpa [plB] using h
  have ne : ∀ k : UInt8, c.toNat ≠ k.toNat → c ≠ k := fun k hk e => hk (by rw [e])
  refine ⟨ne 10 ?_, ne 34 ?_, ne 91 ?_, ne 93 ?_, ne 123 ?_, ne 125 ?_⟩
  · show c.toNat ≠ 10; omega
  · show c.toNat ≠ 34; omega
  · show c.toNat ≠ 91; omega
  · show c.toNat ≠ 93; omega
  · show c.toNat ≠ 123; omega
  · show c.toNat ≠ 125; omega
theorem plC_all {s : Bs} (h : plC s = true) : (∀ c ∈ s, plB c = true) ∧ s ≠ [] := by
  simp only [plC, Bool.and_eq_true, decide_eq_true_eq, List.all_eq_true] at h
  exact ⟨h.1.1, fun e => by rw [e] at h; simp at h⟩
theorem quoteS_list (w : ByteArray) : (quoteS w).data.toList = 34 :: (quoteL w.data.toList ++ [34]) := rfl
/-- a word, as it is written, read -/
theorem word_read (w : ByteArray) : unqS (wordT w).data.toList = w.data.toList ∧ (wordT w).data.toList ≠ [91, 93] ∧ (wordT w).data.toList ≠ [123, 125] := by
  by_cases hp : plC w.data.toList = true
  · rw [wordT, if_pos hp]
    obtain ⟨ha, hne⟩ := plC_all hp
    refine ⟨?_, fun e => ?_, fun e => ?_⟩
    · unfold unqS
      rw [if_neg]
      intro h
      rw [Lib.hasPrefix, List.isPrefixOf_iff_prefix] at h
      obtain ⟨t, ht⟩ := h
      have : (34 : UInt8) ∈ w.data.toList := by rw [← ht]; simp
      exact (plB_ne (ha _ this)).2.1 rfl
    · exact (plB_ne (ha 91 (by rw [e]; simp))).2.2.1 rfl
    · exact (plB_ne (ha 123 (by rw [e]; simp))).2.2.2.2.1 rfl
  · rw [wordT, if_neg hp, quoteS_list]
    refine ⟨?_, fun e => ?_, fun e => ?_⟩
    · have h1 := pre_app [34] (quoteL w.data.toList ++ [34])
      simp only [List.singleton_append] at h1
      unfold unqS withinQ
      rw [if_pos h1.1, h1.2, (suf_snoc _ _).2]
      exact unqL_quoteL _
    · simp at e
    · simp at e
theorem bytesA_self (w : ByteArray) : bytesA w.data.toList = w := bytes_ext rfl
theorem empty_eq : (.empty : ByteArray) = ⟨#[]⟩ := rfl
/-- a node of no items that may be -/
theorem flat_is {x : Nd} (h : partsC x = true) (hi : x.items.isEmpty = true) : x = .mk 1 x.word [] [] ∧ owC x.word.data.toList = true ∨ x = .mk 2 ⟨#[]⟩ [] [] ∨ x = .mk 3 ⟨#[]⟩ [] [] := by
  obtain ⟨k, w, ns, xs⟩ := x
  have hx : xs = [] := List.isEmpty_iff.1 hi
  subst hx
  simp only [partsC, Bool.or_eq_true, Bool.and_eq_true, decide_eq_true_eq] at h
  simp only [Nd.kind, Nd.word, Nd.names, Nd.items] at h
  rcases h with (⟨rfl, ⟨h1, h2⟩, _⟩ | ⟨rfl, ⟨h1, h2⟩, _⟩) | ⟨rfl, ⟨h1, h2⟩, _⟩
  · obtain rfl := List.eq_nil_of_length_eq_zero h2
    exact .inl ⟨rfl, h1⟩
  · obtain rfl := List.eq_nil_of_length_eq_zero h2
    exact .inr (.inl (by rw [h1]; rfl))
  · obtain rfl := List.eq_nil_of_length_eq_zero (h2.trans rfl)
    exact .inr (.inr (by rw [h1]; rfl))
theorem flat_read {x : Nd} (h : partsC x = true) (hi : x.items.isEmpty = true) : flatI (32 :: (flatT x).data.toList) = some x := by
  have h1 := pre_app [32] (flatT x).data.toList
  simp only [List.singleton_append] at h1
  unfold flatI
  rw [if_pos h1.1, h1.2]
  rcases flat_is h hi with ⟨e, ho⟩ | e | e
  · obtain ⟨w, hw⟩ : ∃ w, x.word = w := ⟨_, rfl⟩
    rw [hw] at e ho
    subst e
    have hf : flatT (.mk 1 w [] []) = wordT w := rfl
    obtain ⟨r1, r2, r3⟩ := word_read w
    rw [hf, if_neg r2, if_neg r3, r1, ho, bytesA_self, bytesA_self]
    simp
  · subst e
    rfl
  · subst e
    rfl
theorem flat_kind {x : Nd} (h : partsC x = true) : x.kind ≠ 0 := by
  simp only [partsC, Bool.or_eq_true, Bool.and_eq_true, decide_eq_true_eq] at h
  rcases h with (⟨h, _⟩ | ⟨h, _⟩) | ⟨h, _⟩ <;> omega
theorem drop_blanks (j : Nat) (c : UInt8) (s : Bs) (hc : c ≠ 32) : saidT (List.replicate j 32 ++ c :: s) = c :: s := by
  unfold saidT Lib.trimLeftB
  rw [List.dropWhile_append_of_pos (by intro x hx; rw [List.eq_of_mem_replicate hx]; rfl), List.dropWhile_cons_of_neg (by simp [hc])]
theorem finI_of {x : Nd} (hx : partsC x = true) (d : Nat) (hd : x.items.isEmpty = true ∨ d ≤ 5) (k : Int) (nm : ByteArray) :
    finI (d : Int) k nm (if x.items.isEmpty then 32 :: (flatT x).data.toList else []) = some ⟨d, k, nm, if x.items.isEmpty then x else noNd⟩ := by
  by_cases hi : x.items.isEmpty = true
  · rw [if_pos hi, if_pos hi, finI_some (by simp), flat_read hx hi]
    rfl
  · rw [if_neg hi, if_neg hi, finI_nil, if_pos]
    rcases hd with h | h
    · exact absurd h hi
    · omega
/-- an item's line, read -/
theorem tok_line {k : Int} {nm : ByteArray} {x : Nd} {d : Nat} (hk : k = 2 ∨ k = 3 ∧ bwC nm.data.toList = true) (hx : partsC x = true) (hd : x.items.isEmpty = true ∨ d ≤ 5) : tokR (hline k nm x d) = some (some (tokI k nm x d)) := by
  obtain ⟨T, hT⟩ : ∃ T : Bs, (if x.items.isEmpty then 32 :: (flatT x).data.toList else []) = T := ⟨_, rfl⟩
  have hfin := finI_of hx d hd
  rw [hT] at hfin
  have h2d : (2 * d) % 2 = 0 := by omega
  have h2e : ((2 * d / 2 : Nat) : Int) = (d : Int) := by omega
  rcases hk with rfl | ⟨rfl, hn⟩
  · have e : hline 2 nm x d = List.replicate (2 * d) 32 ++ 45 :: T := by rw [hline, hT]; rfl
    have hlen : (List.replicate (2 * d) (32 : UInt8) ++ 45 :: T).length - ((45 : UInt8) :: T).length = 2 * d := by simp
    have h1 := pre_app [45] T
    simp only [List.singleton_append] at h1
    unfold tokR
    rw [e, drop_blanks _ _ _ (by decide)]
    simp only
    rw [if_neg (by decide), hlen, itemI, if_pos h2d, if_pos h1.1, h1.2, h2e, hfin]
    rfl
  · obtain ⟨hall, hne⟩ := bwC_all hn
    obtain ⟨c, s, hcs⟩ : ∃ c s, nm.data.toList = c :: s := by
      cases h : nm.data.toList with
      | nil => exact absurd h hne
      | cons c s => exact ⟨c, s, rfl⟩
    have hc := hall c (by rw [hcs]; simp)
    obtain ⟨q1, q2, q3, q4, q5⟩ := bwB_ne hc
    have hc32 : c ≠ 32 := fun e => by rw [e] at hc; exact absurd hc (by decide)
    have hc45 : c ≠ 45 := fun e => by rw [e] at hc; exact absurd hc (by decide)
    have e : hline 3 nm x d = List.replicate (2 * d) 32 ++ c :: (s ++ 58 :: T) := by
      rw [hline, hT, hdNm, if_pos rfl, hcs]
      simp
    have hlen : (List.replicate (2 * d) (32 : UInt8) ++ c :: (s ++ 58 :: T)).length - (c :: (s ++ 58 :: T)).length = 2 * d := by
      rw [List.length_append, List.length_replicate]; omega
    have hcut : Lib.cut (c :: (s ++ 58 :: T)) [58] = (nm.data.toList, T, true) := by
      have := cut1_at 58 nm.data.toList T (fun x hx e => by
        have := hall x hx
        rw [e] at this
        exact absurd this (by decide))
      rw [hcs] at this ⊢
      exact this
    unfold tokR
    rw [e, drop_blanks _ _ _ hc32]
    simp only
    rw [if_neg q4, hlen, itemI, if_pos h2d, if_neg, hcut]
    · simp only
      rw [hn, if_pos (by rfl), bytesA_self, h2e, hfin]
      rfl
    · intro h
      rw [Lib.hasPrefix, List.isPrefixOf_iff_prefix] at h
      obtain ⟨t, ht⟩ := h
      rw [List.singleton_append] at ht
      exact hc45 (List.cons.inj ht).1.symm
/-- no line holds the byte that ends one -/
theorem hline_no10 {k : Int} {nm : ByteArray} {x : Nd} {d : Nat} (hk : k = 2 ∨ k = 3 ∧ bwC nm.data.toList = true) (hx : partsC x = true) : ∀ c ∈ hline k nm x d, c ≠ 10 := by
  intro c hc e
  subst e
  simp only [hline, List.mem_append] at hc
  rcases hc with hc | hc | hc
  · have := List.eq_of_mem_replicate hc
    exact absurd this (by decide)
  · rcases hk with rfl | ⟨rfl, hn⟩
    · have : (10 : UInt8) ∈ ([45] : Bs) := hc
      simp at this
    · rw [hdNm, if_pos rfl, List.mem_append] at hc
      rcases hc with hc | hc
      · exact absurd ((bwC_all hn).1 10 hc) (by decide)
      · simp at hc
  · by_cases hi : x.items.isEmpty = true
    · rw [if_pos hi, List.mem_cons] at hc
      rcases hc with hc | hc
      · exact absurd hc (by decide)
      · rcases flat_is hx hi with ⟨e, ho⟩ | e | e
        · rw [e] at hc
          have hf : flatT (.mk 1 x.word [] []) = wordT x.word := rfl
          rw [hf, wordT] at hc
          have how : ∀ c ∈ x.word.data.toList, c ≠ 10 := fun c hc e => by
            subst e
            simp only [owC, Bool.and_eq_true, List.all_eq_true] at ho
            exact absurd (ho.2 10 hc) (by decide)
          by_cases hp : plC x.word.data.toList = true
          · rw [if_pos hp] at hc
            exact how 10 hc rfl
          · rw [if_neg hp, quoteS_list] at hc
            simp only [List.mem_cons, List.mem_append, List.not_mem_nil, or_false] at hc
            rcases hc with hc | hc | hc
            · exact absurd hc (by decide)
            · simp only [quoteL, List.mem_flatMap] at hc
              obtain ⟨y, hy, hc⟩ := hc
              split at hc
              · simp only [List.mem_cons, List.not_mem_nil, or_false] at hc
                rcases hc with hc | hc
                · exact absurd hc (by decide)
                · exact how y hy hc.symm
              · simp only [List.mem_cons, List.not_mem_nil, or_false] at hc
                exact how y hy hc.symm
            · exact absurd hc (by decide)
        · rw [e] at hc
          have : (10 : UInt8) ∈ ([91, 93] : Bs) := hc
          simp at this
        · rw [e] at hc
          have : (10 : UInt8) ∈ ([123, 125] : Bs) := hc
          simp at this
    · rw [if_neg hi] at hc
      cases hc
end Go.Proofs.YtolbhhokpelchaaDoor
/- The contract of the document's own Lines of layer 5. -/
namespace Go.Proofs.YtolbhhokpelchaaDoor
open Go.RowKit

theorem bapp (a b : ByteArray) : (a ++ b).data.toList = a.data.toList ++ b.data.toList := by simp [ByteArray.data_append]
theorem bytesA_eq {S : ByteArray} {l : Bs} (h : S.data.toList = l) : S = bytesA l := bytes_ext h
theorem bsize {S : ByteArray} {l : Bs} (h : S.data.toList = l) : S.size = l.length := by rw [← lenB, h]
theorem mul2 (d : Nat) (h : d ≤ 100) : IntKind.i64.wrap (2 * (d : Int)) = ((2 * d : Nat) : Int) := by rw [IntWalk.i64_in _ (by omega)]; omega
def LiM (w0 : World) (q : NdAt) : Prop := ∀ (d r : Nat) (w : World), rightD r q.n = true → d + r ≤ 12 → Below w0.heap.size w0 w → (q.n.linesT d).length ≤ 10000000 →
  Calls Tryd.prog 16 #[.agg (nCells q), .int .i64 (d : Int)] w (StrB (bytesA (q.n.linesT d)) w)

set_option maxHeartbeats 12800000 in
set_option maxRecDepth 100000 in
theorem rLines_any {w0 : World} {q : NdAt} (h : q.ok w0) : LiM w0 q := by
  refine NdAt.ok.ind (M := LiM w0) ?_ h
  intro q hq hpl d r w hr hd hw hL
  obtain ⟨hparts, s, rfl, hkids⟩ := rightD_parts hr
  have hb := below_alK (o := .cells (nCells q) 25) (Below.refl w.heap.size w)
  have hk := Blk.new w 25 (nCells q)
  have hw1 := bthen hw hb
  have hd12 : d ≤ 12 := by omega
  have hnm3 := partsC_names hparts
  have hnmz := partsC_name hparts
  have hhead := hq.head
  have hln := hhead.2.2.2
  have HSTR := Lib.hid hhead.1
  have hlm1 := hhead.1.1
  have hlm2 := hhead.1.2.1
  have HNM3 := Lib.hid hnm3
  have HNMZ := Lib.hid hnmz
  obtain ⟨TX, hTX⟩ : ∃ X, q.n.linesT d = X := ⟨_, rfl⟩
  have HTX := Lib.hid hTX
  rw [hTX] at hL ⊢
  have HLL := Lib.hid hL
  have HW := Lib.hid hw1
  have HPL := Lib.hid hpl
  have HKI := Lib.hid hkids
  have HB := Lib.hid hb
  have HSP := Lib.hid (fun j => linesT_split q.n d j)
  have HUP := Lib.hid (fun j h => linesT_upto q.n d j h)
  have HEQ := Lib.hid (linesT_eq q.n d)
  unfold maxLen at hln hlm2
  obtain ⟨hln1, hln2⟩ := hln
  clear hq hpl hr hw hw1 hb hparts hkids hnm3 hnmz hhead hTX hL
  obtain ⟨n, na, nc, ia, ic⟩ := q
  simp only [nCells] at *
  go_enter Tryd.func16, Tryd.ntmps16
  go_upto_region 1 with fail
  generalize w.alloc (.cells #[.int .i64 n.kind, .string n.word, .slice na n.names.length nc, .slice ia n.items.length ic] 25) = wx at *
  obtain ⟨g1, hg1⟩ : ∃ g, w.heap.size = g := ⟨_, rfl⟩
  have HG := Lib.hid hg1
  rw [hg1] at hk ⊢
  clear hg1
  obtain ⟨c0, c1, c2, c3⟩ := hk.cells4
  go_wp2_with fail
  go_loopg [12, 5, 6, 7, 8] n.items.length (fun gg iv ov _ _ _ wr => ∃ (k : Nat) (S : ByteArray), k + gg = n.items.length ∧ iv = .int .i64 k ∧ ov = .string S ∧ S.data.toList = linesLs n.kind n.names (n.items.take k) d ∧ Below wx.heap.size wx wr)
  case atStart => exact ⟨0, ⟨#[]⟩, by omega, rfl, rfl, by simp [linesLs_nil], Below.refl _ _⟩
  case round =>
    obtain ⟨k, S, hkg, rfl, rfl, hS, hbr⟩ := hrel
    cases gk with
    | zero =>
      obtain rfl : k = n.items.length := by omega
      rw [List.take_length, ← HEQ.out, HTX.out] at hS
      go_wp2_with fail
      go_ret
      exact ⟨by rw [← bytesA_eq hS]; rfl, bthen HB.out hbr⟩
    | succ gg =>
      have hkl : k < n.items.length := by omega
      obtain ⟨b1, o1, rfl, r, hrn, hrl, hro, hrM⟩ : ∃ b off, ia = some ⟨b, off, none⟩ ∧ ∃ r : NdAt, r.n = n.items[k] ∧ r.lies w0 b (off + k * 4) ∧ r.ok w0 ∧ LiM w0 r := by
        rcases HPL.out with h | ⟨b, off, h1, h2, h3⟩
        · rw [h] at hkl; simp at hkl
        · exact ⟨b, off, h1, h3 k hkl⟩
      have hwr := bthen HW.out hbr
      obtain ⟨x0, x1, x2, x3⟩ := hrl.call hwr
      have hup := HUP.out k hkl
      have hsp := HSP.out (k + 1)
      rw [hup, HTX.out] at hsp
      have hrr : rightD s r.n = true := by rw [hrn]; exact HKI.out _ (List.getElem_mem hkl)
      have hrp := (rightD_parts hrr).1
      have hrw := partsC_word hrp
      have hlen := HLL.out
      rw [hsp, ← hrn] at hlen
      simp only [List.length_append] at hlen
      rw [← hrn] at hup
      have hSz := bsize hS
      obtain ⟨O, hO⟩ : ∃ X, linesLs n.kind n.names (n.items.take k) d = X := ⟨_, rfl⟩
      rw [hO] at hS hup hlen hSz
      have hr7 := Blk.new wr 25 (nCells r)
      have hbr7 := below_alK (o := .cells (nCells r) 25) (Below.refl wr.heap.size wr)
      have hit : (itemT n.kind (nmAt n.names k) r.n d).length = 2 * d + ((hdNm n.kind (nmAt n.names k)).length + (behT r.n (d + 1)).length) := by simp [itemT]
      rw [hit] at hlen
      obtain ⟨NM, hNM⟩ : ∃ X, nmAt n.names k = X := ⟨_, rfl⟩
      rw [hNM] at hup hlen
      have HUPN := Lib.hid hup
      have HNM := Lib.hid hNM
      have HLEN := Lib.hid hlen
      have hli := fun W h1 h2 => hrM (d + 1) s W hrr (by omega) h1 h2
      have HLI : Hid (∀ (W : World), Below w0.heap.size w0 W → (r.n.linesT (d + 1)).length ≤ 10000000 → Calls Tryd.prog 16 #[.agg (nCells r), .int .i64 ((d : Int) + 1)] W (StrB (bytesA (r.n.linesT (d + 1))) W)) := Lib.hid (fun W h1 h2 => by
        have := hli W h1 h2
        rw [show ((d + 1 : Nat) : Int) = (d : Int) + 1 by omega] at this
        exact this)
      have HRP := Lib.hid hrp
      have HS := Lib.hid hS
      have HQT := Lib.hid (fun W => rQuote_any r.n.word W (by omega))
      have hm2 := mul2 d (by omega)
      have HBR := Lib.hid hbr
      clear hup hNM hlen hli hrn hrl hro hrM hrr hrp hS hit hsp hO hwr hbr
      obtain ⟨m, ma, mc, ja, jc⟩ := r
      simp only [nCells] at *
      go_upto_region 5 with fail
      have HWR := Lib.hid (bthen HW.out (bthen HBR.out hbr7))
      have HBR7 := Lib.hid (bthen HBR.out hbr7)
      generalize wr.alloc (.cells #[.int .i64 m.kind, .string m.word, .slice ma m.names.length mc, .slice ja m.items.length jc] 25) = w1 at *
      obtain ⟨g7, hg⟩ : ∃ g, wr.heap.size = g := ⟨_, rfl⟩
      rw [hg] at hr7 ⊢
      clear x0 x1 x2 x3 hg hbr7 c0 c1 c2 c3
      go_upto_block 2 with fail
      go_cut [5] (fun v wy => ∃ S1 : ByteArray, v = .string S1 ∧ S1.data.toList = O ++ List.replicate (2 * d) 32 ∧ w1 = wy)
      case first =>
        go_wp2_with fail
        go_loopg [8, 5] (2 * d) (fun gg iv ov wq => ∃ (j : Nat) (S1 : ByteArray), j + gg = 2 * d ∧ iv = .int .i64 (j : Int) ∧ ov = .string S1 ∧ S1.data.toList = O ++ List.replicate j 32 ∧ w1 = wq)
        case atStart => exact ⟨0, S, by omega, rfl, rfl, by simpa using HS.out, rfl⟩
        case round =>
          obtain ⟨j, S1, hj, rfl, rfl, hS1, rfl⟩ := hrel
          have hsz1 : S1.size ≤ 10001000 := by
            rw [bsize hS1, List.length_append, List.length_replicate]
            have := HLEN.out
            omega
          cases gk with
          | zero =>
            obtain rfl : j = 2 * d := by omega
            have dj : decide (((2 * d : Nat) : Int) < ((2 * d : Nat) : Int)) = false := decide_eq_false (Int.lt_irrefl _)
            go_wp2_with fail
            go_meet
            exact ⟨S1, rfl, hS1, rfl⟩
          | succ g3 =>
            have dj : decide ((j : Int) < ((2 * d : Nat) : Int)) = true := decide_eq_true (by omega)
            have hp1 : ¬ 9223372036854775807 < S1.size + (⟨#[32]⟩ : ByteArray).size := by show ¬ 9223372036854775807 < S1.size + 1; omega
            have hp2 : ¬ 9223372036854775807 < S1.size + 1 := by omega
            have HS1 := Lib.hid hS1
            clear hS1
            go_wp2_with fail
            go_roundg g3
            case measure => omega
            case rel => exact ⟨j + 1, S1 ++ ⟨#[32]⟩, by omega, by go_num, rfl, by rw [bapp, HS1.out, List.append_assoc, ← List.replicate_succ'], rfl⟩
      case rest =>
      obtain ⟨S1, rfl, hS1, rfl⟩ := hcut
      have hlen := HLEN.out
      have hz1 : S1.size = O.length + 2 * d := by rw [bsize hS1, List.length_append, List.length_replicate]
      have hkw := hk.call HBR7.out
      obtain ⟨c0, c1, c2, c3⟩ := hkw.cells4
      obtain ⟨x0, x1, x2, x3⟩ := hr7.cells4
      have HS1 := Lib.hid hS1
      clear hS1 hkw
      go_upto_if 27 with fail
      go_cut [5] (fun v wy => ∃ S2 : ByteArray, v = .string S2 ∧ S2.data.toList = O ++ List.replicate (2 * d) 32 ++ hdNm n.kind NM ∧ w1 = wy)
      case first =>
        by_cases hk3 : n.kind = 3
        case pos =>
          have t3 : (n.kind == 3) = true := by rw [hk3]; rfl
          have hkn : k < n.names.length := by rw [HNM3.out hk3]; exact hkl
          obtain ⟨b2, o2, rfl⟩ : ∃ b off, na = some ⟨b, off, none⟩ := by
            rcases HSTR.out.2.2.2 with h | ⟨b, off, h, _, _⟩
            · rw [h] at hkn; simp at hkn
            · exact ⟨b, off, h⟩
          have y1 := (HSTR.out.call HWR.out).atN k hkn
          have hsz := (bwC_size (HNMZ.out hk3 k hkn)).2
          have hnm : n.names[k] = NM := by rw [← HNM.out]; simp [nmAt, hkn]
          rw [hnm] at y1 hsz
          have hp1 : ¬ 9223372036854775807 < S1.size + NM.size := by omega
          have hp2 : ¬ 9223372036854775807 < (S1 ++ NM).size + 1 := by rw [ByteArray.size_append]; omega
          have hp3 : ¬ 9223372036854775807 < (S1 ++ NM).size + (⟨#[58]⟩ : ByteArray).size := hp2
          have hp4 : ¬ 9223372036854775807 < S1.size + NM.size + 1 := by omega
          have HD : Hid ((S1 ++ NM ++ ⟨#[58]⟩).data.toList = O ++ List.replicate (2 * d) 32 ++ hdNm n.kind NM) := Lib.hid (by rw [bapp, bapp, HS1.out, hdNm, if_pos hk3]; simp)
          clear hk3 hnm hlen hz1 hsz
          go_wp2_with fail
          go_meet
          exact ⟨_, rfl, HD.out, rfl⟩
        case neg =>
          have t3 : (n.kind == 3) = false := beq_eq_false_iff_ne.2 hk3
          have hp2 : ¬ 9223372036854775807 < S1.size + 1 := by omega
          have hp3 : ¬ 9223372036854775807 < S1.size + (⟨#[45]⟩ : ByteArray).size := hp2
          have HD : Hid ((S1 ++ ⟨#[45]⟩).data.toList = O ++ List.replicate (2 * d) 32 ++ hdNm n.kind NM) := Lib.hid (by rw [bapp, HS1.out, hdNm, if_neg hk3])
          clear hk3 hlen hz1
          go_wp2_with fail
          go_meet
          exact ⟨_, rfl, HD.out, rfl⟩
      case rest =>
      obtain ⟨S2, rfl, hS2, rfl⟩ := hcut
      have hz2 : S2.size = O.length + 2 * d + (hdNm n.kind NM).length := by rw [bsize hS2, List.length_append, List.length_append, List.length_replicate]
      have HS2 := Lib.hid hS2
      clear hS2 c0 c1 c2 c3 HS1 hz1
      have hbh : behT m (d + 1) = if m.items.isEmpty then 32 :: ((flatT m).data.toList ++ [10]) else 10 :: m.linesT (d + 1) := rfl
      have HBH := Lib.hid hbh
      have hie : m.items.isEmpty = decide (m.items.length = 0) := by cases m.items <;> simp
      have HIE := Lib.hid hie
      have hfl := flatT_len m
      have hls : (m.linesT (d + 1)).length ≤ 10000000 := by
        by_cases h0 : m.items.isEmpty = true
        · rw [linesT_eq, List.isEmpty_iff.1 h0, linesLs_nil]; simp
        · rw [hbh, if_neg h0] at hlen
          simp only [List.length_cons] at hlen
          omega
      have HLS := Lib.hid hls
      clear hbh hie hls
      go_upto_if 40 with fail
      go_cut [5] (fun v wy => ∃ S3 : ByteArray, v = .string S3 ∧ S3.data.toList = O ++ List.replicate (2 * d) 32 ++ hdNm n.kind NM ++ (if m.items.isEmpty then 32 :: (flatT m).data.toList else []) ∧ Below w1.heap.size w1 wy)
      case first =>
        by_cases h0 : m.items.length = 0
        case pos =>
          have hi0 : m.items.isEmpty = true := by rw [HIE.out]; simp [h0]
          rcases flat_is HRP.out hi0 with ⟨e, ho⟩ | e | e
          · have hk1 : m.kind = 1 := by rw [e]; rfl
            have hft : flatT m = wordT m.word := by rw [e]; rfl
            have t1 : (m.kind == 1) = true := by rw [hk1]; rfl
            rw [hft] at hfl
            obtain ⟨F, hF⟩ : ∃ F, wordT m.word = F := ⟨_, rfl⟩
            rw [hF] at HQT hfl
            have hp2 : ¬ 9223372036854775807 < S2.size + 1 := by omega
            have hp3 : ¬ 9223372036854775807 < S2.size + (⟨#[32]⟩ : ByteArray).size := hp2
            have hp4 : ¬ 9223372036854775807 < (S2 ++ ⟨#[32]⟩).size + F.size := by rw [ByteArray.size_append]; show ¬ _ < S2.size + 1 + F.size; omega
            have hp5 : ¬ 9223372036854775807 < S2.size + 1 + F.size := by omega
            have HD : Hid ((S2 ++ ⟨#[32]⟩ ++ F).data.toList = O ++ List.replicate (2 * d) 32 ++ hdNm n.kind NM ++ (if m.items.isEmpty then 32 :: (flatT m).data.toList else [])) := Lib.hid (by rw [bapp, bapp, HS2.out, if_pos hi0, hft, hF]; simp)
            clear hi0 e ho hk1 hft h0 hF hfl hlen hz2
            go_wp2_with (go_at_call 36; refine (HQT.out _).mono ?_; rintro e w2 ⟨rfl, hb2⟩)
            go_meet
            exact ⟨_, rfl, HD.out, hb2⟩
          · have t1 : (m.kind == 1) = false := by rw [e]; rfl
            have t2 : (m.kind == 2) = true := by rw [e]; rfl
            have l0 : ((m.items.length : Int) == 0) = true := by rw [h0]; rfl
            have hft : (flatT m).data.toList = [91, 93] := by rw [e]; rfl
            have hp2 : ¬ 9223372036854775807 < S2.size + 3 := by omega
            have hp3 : ¬ 9223372036854775807 < S2.size + (⟨#[32, 91, 93]⟩ : ByteArray).size := hp2
            have HD : Hid ((S2 ++ ⟨#[32, 91, 93]⟩).data.toList = O ++ List.replicate (2 * d) 32 ++ hdNm n.kind NM ++ (if m.items.isEmpty then 32 :: (flatT m).data.toList else [])) := Lib.hid (by rw [bapp, HS2.out, if_pos hi0, hft])
            clear hi0 e hft h0 hfl hlen hz2
            go_wp2_with fail
            go_meet
            exact ⟨_, rfl, HD.out, Below.refl _ _⟩
          · have t1 : (m.kind == 1) = false := by rw [e]; rfl
            have t2 : (m.kind == 2) = false := by rw [e]; rfl
            have l0 : ((m.items.length : Int) == 0) = true := by rw [h0]; rfl
            have hft : (flatT m).data.toList = [123, 125] := by rw [e]; rfl
            have hp2 : ¬ 9223372036854775807 < S2.size + 3 := by omega
            have hp3 : ¬ 9223372036854775807 < S2.size + (⟨#[32, 123, 125]⟩ : ByteArray).size := hp2
            have HD : Hid ((S2 ++ ⟨#[32, 123, 125]⟩).data.toList = O ++ List.replicate (2 * d) 32 ++ hdNm n.kind NM ++ (if m.items.isEmpty then 32 :: (flatT m).data.toList else [])) := Lib.hid (by rw [bapp, HS2.out, if_pos hi0, hft])
            clear hi0 e hft h0 hfl hlen hz2
            go_wp2_with fail
            go_meet
            exact ⟨_, rfl, HD.out, Below.refl _ _⟩
        case neg =>
          have hi0 : ¬ m.items.isEmpty = true := by rw [HIE.out]; simp [h0]
          have t1 : (m.kind == 1) = false := by
            refine beq_eq_false_iff_ne.2 fun h => h0 ?_
            have := HRP.out
            simp only [partsC, Bool.or_eq_true, Bool.and_eq_true, decide_eq_true_eq] at this
            rcases this with (⟨_, _, h⟩ | ⟨h2, _⟩) | ⟨h2, _⟩ <;> omega
          have l0 : ((m.items.length : Int) == 0) = false := beq_eq_false_iff_ne.2 (by omega)
          have HD : Hid (S2.data.toList = O ++ List.replicate (2 * d) 32 ++ hdNm n.kind NM ++ (if m.items.isEmpty then 32 :: (flatT m).data.toList else [])) := Lib.hid (by rw [HS2.out, if_neg hi0]; simp)
          clear hi0 h0 hfl hlen hz2
          go_wp2_with fail
          go_meet
          exact ⟨_, rfl, HD.out, Below.refl _ _⟩
      case rest =>
      obtain ⟨S3, rfl, hS3, hb3⟩ := hcut
      have hz3 : S3.size ≤ 10001000 := by
        rw [bsize hS3]
        simp only [List.length_append, List.length_replicate]
        have : (if m.items.isEmpty then (32 : UInt8) :: (flatT m).data.toList else []).length ≤ 700 := by
          split
          · rw [List.length_cons, lenB]; omega
          · simp
        omega
      have hfin : S3.data.toList ++ [10] ++ m.linesT (d + 1) = linesLs n.kind n.names (n.items.take (k + 1)) d := by
        rw [hS3, HUPN.out, itemT, HBH.out]
        by_cases h0 : m.items.isEmpty = true
        · rw [if_pos h0, if_pos h0, linesT_eq, List.isEmpty_iff.1 h0, linesLs_nil]
          simp
        · rw [if_neg h0, if_neg h0]
          simp
      have HFIN := Lib.hid hfin
      have hlz := HLS.out
      have hLI := HLI.out wc (HWR.out.trans (hb3.mono HWR.out.size)) HLS.out
      obtain ⟨LT, hLT⟩ : ∃ X, m.linesT (d + 1) = X := ⟨_, rfl⟩
      rw [hLT] at hLI HFIN hlz
      obtain ⟨BT, hBT⟩ : ∃ X, bytesA LT = X := ⟨_, rfl⟩
      have hbz : BT.size ≤ 10000000 := by rw [← hBT]; show (Array.size _) ≤ _; simp only [List.size_toArray]; exact hlz
      rw [hBT] at hLI
      have HLI2 := Lib.hid hLI
      have HBT : Hid (BT.data.toList = LT) := Lib.hid (by rw [← hBT]; rfl)
      obtain ⟨x0', x1', x2', x3'⟩ := (hr7.call hb3).cells4
      have hp2 : ¬ 9223372036854775807 < S3.size + 1 := by omega
      have hp3 : ¬ 9223372036854775807 < S3.size + (⟨#[10]⟩ : ByteArray).size := hp2
      have hp4 : ¬ 9223372036854775807 < (S3 ++ ⟨#[10]⟩).size + BT.size := by rw [ByteArray.size_append]; show ¬ _ < S3.size + 1 + BT.size; omega
      have hp5 : ¬ 9223372036854775807 < S3.size + 1 + BT.size := by omega
      have HB3 := Lib.hid (bthen HBR7.out hb3)
      clear x0 x1 x2 x3 hLI hLT hBT hbz hlz hfin hS3 hz3 hb3 hlen hz2 hfl HQT
      go_wp2_with (go_at_call 16; refine HLI2.out.mono ?_; rintro e w6 ⟨rfl, hb6⟩)
      go_roundg gg
      case measure => omega
      case rel => exact ⟨k + 1, S3 ++ ⟨#[10]⟩ ++ BT, by omega, by go_num, rfl, by rw [bapp, bapp, HBT.out]; exact HFIN.out, bthen HB3.out hb6⟩
end Go.Proofs.YtolbhhokpelchaaDoor
/- In a region that draws its order: an append of a row of texts to a slice of texts of the call's own. It speaks of no one program. -/
namespace Go.Proofs.YtolbhhokpelchaaDoor
open Go.RowKit

/-- a row of texts, as what an append is handed -/
theorem src_texts {P : Program} {t e : Nat} {w : World} {a : Option Addr} {c : Nat} {ss : List ByteArray} (hk : P.underlying t = some (.slice e)) (h : HasStrs w a c ss) : Src P 1 t (.slice a ss.length c) ss.length (strsV ss) w := by
  obtain ⟨h1, h2, h3, h4⟩ := h
  rcases h4 with rfl | ⟨b, off, rfl, hb, hc⟩
  · cases a with
    | none => exact Src.ofNil w hk c
    | some a => exact Src.ofSlice w hk a 0 c [] (by simp) (fun j u hu => by simp at hu) (fun u hu => by cases hu)
  · refine Src.ofSlice w hk ⟨b, off, none⟩ ss.length c (strsV ss) (by simp [strsV]) (fun j u hu => ?_) (fun u hu => ?_)
    · have hj : j < ss.length := by
        have := (List.getElem?_eq_some_iff.1 hu).1
        simpa [strsV] using this
      have e0 : (⟨b, off, none⟩ : Addr).add j = ⟨b, off + j, none⟩ := by unfold Addr.add; split <;> simp_all
      rw [e0, hc j hj]
      simpa [strsV, hj] using hu
    · obtain ⟨_, _, rfl⟩ := List.mem_map.1 hu
      rfl
theorem strsV_app (a b : List ByteArray) : strsV (a ++ b) = strsV a ++ strsV b := by simp [strsV]
theorem step_appS {P : Program} (W : World) {ops : Array Oper} {o : Oper} {a : Act} {K : Act → World → Prop} {Q : Exit → Act → World → Prop} {E : Prop} (hgd : o.guard = none) (s x : Operand) (t : TypeId)
    (ho : o.op = .call { callee := .builtin .append, args := #[s, x], argTypes := #[t, t] })
    (base : Nat) (e : TypeId) (i : TypeInfo) (z : Value) (ht : P.underlying t = some (.slice e)) (hi : P.info? e = some i) (hz : i.zero = some z) (hsize : i.size = 1) (hby : i.bytes = 16) (hzs : z.cells.size = 1)
    (v : Value) (ss : List ByteArray) (hs : a.eval s = v) (hown : OwnS e W base v ss) (xa : Option Addr) (xn xc : Nat) (us : List ByteArray)
    (hx : a.eval x = .slice xa xn xc) (hxn : xn = us.length) (hsrc : HasStrs W xa xc us) (h63 : ss.length + us.length ≤ 1000000) (hbase : base ≤ W.heap.size)
    (h : ∀ (v' : Value) (w' : World), OwnS e w' base v' (ss ++ us) → W.grownBy w' v.ownBlock → K (a.put o.dst v') w') :
    if Region.wanted o (yielded ops a.tmps) = true then Oper.wp P o a W K Q else E := by
  have hw : Region.wanted o (yielded ops a.tmps) = true := by simp [Region.wanted, hgd]
  rw [if_pos hw]
  subst hxn
  have hsr := src_texts (P := P) ht hsrc
  unfold OwnS at hown
  rw [← hsize] at hown hsr
  obtain ⟨v', w', hr, h2, h3⟩ := run_append_src (P := P) W base t t o.type e i z 16 ht hi hz hby (by rw [hsize]; exact hzs) v ss.length (strsV ss) hown _ us.length (strsV us) hsr (by unfold maxLen; omega) (by omega) hbase
  rw [hsize] at h2
  unfold Oper.wp execOp
  simp only [ho, resolve, invoke, builtin, Sem.run_bind, Sem.run_pure, Result.andThen_ok, List.map_toArray, List.map_cons, List.map_nil, hs, hx, hr]
  refine h v' w' ?_ h3
  unfold OwnS
  rw [strsV_app, List.length_append]
  exact h2
/-- the first texts of a row, and those behind -/
theorem hasStrs_take {w : World} {a : Option Addr} {c : Nat} {ss : List ByteArray} (h : HasStrs w a c ss) (k : Nat) (hk : k ≤ ss.length) : HasStrs w a c (ss.take k) := by
  obtain ⟨h1, h2, h3, h4⟩ := h
  refine ⟨by rw [List.length_take]; omega, h2, fun s hs => h3 s (List.mem_of_mem_take hs), ?_⟩
  rcases h4 with rfl | ⟨b, off, rfl, hb, hc⟩
  · exact .inl (by simp)
  · refine .inr ⟨b, off, rfl, hb, fun i hi => ?_⟩
    have hi' : i < ss.length := by rw [List.length_take] at hi; omega
    rw [hc i hi']; simp
theorem hasStrs_drop {w : World} {b off c c' : Nat} {ss : List ByteArray} (h : HasStrs w (some ⟨b, off, none⟩) c ss) (k : Nat) (hk : k ≤ ss.length) (hc : c' = c - k) : HasStrs w (some ⟨b, off + k, none⟩) c' (ss.drop k) := by
  obtain ⟨h1, h2, h3, h4⟩ := h
  refine ⟨by rw [List.length_drop]; omega, by omega, fun s hs => h3 s (List.mem_of_mem_drop hs), ?_⟩
  rcases h4 with rfl | ⟨b2, o2, e, hb, hc⟩
  · exact .inl (by simp)
  · cases e
    refine .inr ⟨b, off + k, rfl, hb, fun i hi => ?_⟩
    have hi' : k + i < ss.length := by rw [List.length_drop] at hi; omega
    rw [Nat.add_assoc, hc (k + i) hi']; simp
theorem OwnS.made (T : TypeId) (w : World) : OwnS T (w.alloc (.cells #[] T)) w.heap.size (.slice (some ⟨w.heap.size, 0, none⟩) 0 0) [] := by
  refine ⟨rfl, .inr ⟨w.heap.size, 0, #[], rfl, Nat.le_refl _, ?_, Nat.le_refl _, by unfold maxLen; omega, rfl, rfl⟩⟩
  show (w.heap.push _)[w.heap.size]? = _; simp
end Go.Proofs.YtolbhhokpelchaaDoor
