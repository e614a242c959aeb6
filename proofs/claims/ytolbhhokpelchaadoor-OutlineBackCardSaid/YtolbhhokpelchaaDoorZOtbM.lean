/- What is read of a text, written: each line that says something is its item's. Mathematics alone. -/
import Derived.Test.YtolbhhokpelchaaDoorZOtpN
namespace Go.Proofs.YtolbhhokpelchaaDoor

/-- the line that says so -/
def lineI (x : It) : Bs := List.replicate (2 * x.deep.toNat) 32 ++ (hdNm x.kind x.name ++ (if x.node.kind = 0 then [] else 32 :: (flatT x.node).data.toList))
/-- what a line may say -/
def GoodTok (x : It) : Prop := 0 ≤ x.deep ∧ (x.kind = 2 ∧ x.name = ⟨#[]⟩ ∨ x.kind = 3 ∧ bwC x.name.data.toList = true) ∧ (x.node = noNd ∧ x.deep ≤ 5 ∨ partsC x.node = true ∧ x.node.items.isEmpty = true)
theorem pre_inv {s p : Bs} (h : Lib.hasPrefix s p = true) : s = p ++ Lib.trimPrefix s p := by
  rw [Lib.trimPrefix, if_pos h]
  rw [Lib.hasPrefix, List.isPrefixOf_iff_prefix] at h
  obtain ⟨t, rfl⟩ := h
  simp
theorem bytesA_data (l : Bs) : (bytesA l).data.toList = l := rfl
theorem flatI_inv {s : Bs} {n : Nd} (h : flatI s = some n) : s = 32 :: (flatT n).data.toList ∧ partsC n = true ∧ n.items.isEmpty = true := by
  unfold flatI at h
  split at h
  · rename_i hp
    have hs := pre_inv hp
    rw [List.singleton_append] at hs
    split at h
    · rename_i h1
      obtain rfl := Option.some.inj h
      exact ⟨by rw [hs, h1]; rfl, by decide +kernel, rfl⟩
    · split at h
      · rename_i h1
        obtain rfl := Option.some.inj h
        exact ⟨by rw [hs, h1]; rfl, by decide +kernel, rfl⟩
      · split at h
        · rename_i h1
          obtain rfl := Option.some.inj h
          simp only [Bool.and_eq_true, decide_eq_true_eq] at h1
          refine ⟨?_, ?_, rfl⟩
          · have hf : flatT (.mk 1 (bytesA (unqS (Lib.trimPrefix s [32]))) [] []) = wordT (bytesA (unqS (Lib.trimPrefix s [32]))) := rfl
            rw [hf, h1.2, bytesA_data]
            exact hs
          · simp [partsC, Nd.kind, Nd.word, Nd.names, Nd.items, bytesA_data, h1.1]
        · cases h
  · cases h
theorem finI_inv {d : Nat} {k : Int} {nm : ByteArray} {s : Bs} {x : It} (h : finI (d : Int) k nm s = some x) :
    x.deep = d ∧ x.kind = k ∧ x.name = nm ∧ s = (if x.node.kind = 0 then [] else 32 :: (flatT x.node).data.toList) ∧ (x.node = noNd ∧ x.deep ≤ 5 ∨ partsC x.node = true ∧ x.node.items.isEmpty = true) := by
  by_cases hs : s = []
  · subst hs
    rw [finI_nil] at h
    split at h
    · rename_i h5
      obtain rfl := Option.some.inj h
      exact ⟨rfl, rfl, rfl, rfl, .inl ⟨rfl, h5⟩⟩
    · cases h
  · rw [finI_some hs] at h
    cases hf : flatI s with
    | none => rw [hf] at h; cases h
    | some n =>
      rw [hf] at h
      obtain rfl := Option.some.inj h
      obtain ⟨h1, h2, h3⟩ := flatI_inv hf
      exact ⟨rfl, rfl, rfl, by rw [if_neg (flat_kind h2)]; exact h1, .inr ⟨h2, h3⟩⟩
theorem tw_all : ∀ (l : Bs) (c : UInt8), c ∈ l.takeWhile (fun c : UInt8 => c == 32) → c = 32
  | [], c, h => by simp at h
  | a :: l, c, h => by
    rw [List.takeWhile_cons] at h
    split at h
    · rename_i ha
      rw [List.mem_cons] at h
      rcases h with rfl | h
      · simpa using ha
      · exact tw_all l c h
    · cases h
theorem said_split (l : Bs) : l = List.replicate (l.length - (saidT l).length) 32 ++ saidT l := by
  have h := List.takeWhile_append_dropWhile (p := fun c : UInt8 => c == 32) (l := l)
  have h1 : ∀ c ∈ l.takeWhile (fun c : UInt8 => c == 32), c = 32 := fun c hc => tw_all l c hc
  have h2 := List.eq_replicate_of_mem h1
  have h3 : saidT l = l.dropWhile (fun c : UInt8 => c == 32) := rfl
  have h4 : (l.takeWhile (fun c : UInt8 => c == 32)).length = l.length - (saidT l).length := by
    have := congrArg List.length h
    rw [List.length_append, ← h3] at this
    omega
  rw [h4] at h2
  rw [← h2, h3]
  exact h.symm
theorem tok_inv {l : Bs} {x : It} (h : tokR l = some (some x)) : l = lineI x ∧ GoodTok x := by
  have hsp := said_split l
  unfold tokR at h
  cases hs : saidT l with
  | nil => rw [hs] at h; cases h
  | cons c s =>
    rw [hs] at h hsp
    simp only at h
    split at h
    · cases h
    · have h := Option.some.inj h
      obtain ⟨j, hj⟩ : ∃ j, l.length - (c :: s).length = j := ⟨_, rfl⟩
      rw [hj] at h hsp
      unfold itemI at h
      split at h
      · rename_i heven
        have hj2 : 2 * (j / 2) = j := by omega
        split at h
        · rename_i hp
          obtain ⟨e1, e2, e3, e4, e5⟩ := finI_inv h
          refine ⟨?_, by rw [e1]; omega, .inl ⟨e2, e3⟩, e5⟩
          have hd := pre_inv hp
          rw [e4, List.singleton_append] at hd
          rw [hsp, hd, lineI, e1, e2, show hdNm 2 x.name = [45] from rfl, Int.toNat_natCast, hj2]
          rfl
        · split at h
          · rename_i hc
            simp only [Bool.and_eq_true] at hc
            obtain ⟨e1, e2, e3, e4, e5⟩ := finI_inv h
            obtain ⟨a, b, hab, hna⟩ : ∃ a b, c :: s = a ++ 58 :: b ∧ ∀ x ∈ a, x ≠ 58 := by
              rcases split1 58 (c :: s) with hno | ⟨a, b, h1, h2⟩
              · rw [cut1_none 58 _ hno] at hc
                cases hc.1
              · exact ⟨a, b, h1, h2⟩
            rw [hab, cut1_at 58 a b hna] at e3 e4 hc
            simp only at e3 e4 hc
            refine ⟨?_, by rw [e1]; omega, .inr ⟨e2, by rw [e3]; exact hc.2⟩, e5⟩
            rw [hsp, hab, lineI, e1, e2, e3, show hdNm 3 (bytesA a) = a ++ [58] from rfl, Int.toNat_natCast, hj2, e4]
            simp
          · cases h
      · cases h
/-- the lines that say something -/
def nbL (ls : List Bs) : List Bs := ls.filter fun l => (tokR l).isSome
/-- where a reader of items is -/
def TokOk (x : It) (ls : List Bs) (r : Bs) : Prop := GoodTok x ∨ x = endI ∧ ls = [] ∧ r = []
def tokL (x : It) : List Bs := if x.deep < 0 then [] else [lineI x]
theorem nextT_back : ∀ (ls : List Bs) (n : Nat) (r : Bs) (m : Nat) (b : It) (l1 : List Bs), nextT n ls r = (m, some b, l1) → TokOk b l1 r ∧ nbL ls = tokL b ++ nbL l1
  | [], n, r, m, b, l1, h => by
    simp only [nextT, Prod.mk.injEq] at h
    obtain ⟨_, h2, rfl⟩ := h
    split at h2
    · rename_i hr
      cases h2
      exact ⟨.inr ⟨rfl, rfl, hr⟩, rfl⟩
    · cases h2
  | l :: ls, n, r, m, b, l1, h => by
    simp only [nextT] at h
    cases ht : tokR l with
    | none =>
      rw [ht] at h
      simp only at h
      obtain ⟨h1, h2⟩ := nextT_back ls (n + 1) r m b l1 h
      refine ⟨h1, ?_⟩
      rw [← h2, nbL, List.filter_cons_of_neg (by simp [ht])]
      rfl
    | some o =>
      rw [ht] at h
      simp only [Prod.mk.injEq] at h
      obtain ⟨rfl, rfl, rfl⟩ := h
      obtain ⟨h1, h2⟩ := tok_inv ht
      refine ⟨.inl h2, ?_⟩
      rw [nbL, List.filter_cons_of_pos (by simp [ht]), tokL, if_neg (by have := h2.1; omega), ← h1]
      rfl
/-- a node that is being read, so deep in -/
def GoodAcc (n : Nd) (d : Nat) : Prop := (n.kind = 2 ∧ n.names = [] ∨ n.kind = 3 ∧ n.names.length = n.items.length ∧ (∀ s ∈ n.names, bwC s.data.toList = true) ∧ n.names.Nodup) ∧ n.word = ⟨#[]⟩ ∧ n.items.length ≤ 64 ∧ ∀ x ∈ n.items, rightD (7 - d) x = true
theorem lnsL_app (k : Int) (d : Nat) : ∀ (xs ys : List Nd) (ns : List ByteArray), lnsL k ns (xs ++ ys) d = lnsL k ns xs d ++ lnsL k (ns.drop xs.length) ys d
  | [], ys, ns => by simp [lnsL_nil]
  | x :: xs, ys, ns => by
    rw [List.cons_append, lnsL_cons, lnsL_cons, lnsL_app k d xs ys ns.tail]
    simp
theorem lnsL_names (k : Int) (d : Nat) : ∀ (xs : List Nd) (ns ms : List ByteArray), xs.length ≤ ns.length → lnsL k (ns ++ ms) xs d = lnsL k ns xs d
  | [], ns, ms, _ => by rw [lnsL_nil, lnsL_nil]
  | x :: xs, [], ms, h => by simp at h
  | x :: xs, a :: ns, ms, h => by
    rw [List.cons_append, lnsL_cons, lnsL_cons]
    simp only [List.headD_cons, List.tail_cons]
    rw [lnsL_names k d xs ns ms (by simpa using h)]
theorem hline_row (nm : ByteArray) (x : Nd) (d : Nat) : hline 2 nm x d = hline 2 ⟨#[]⟩ x d := rfl
theorem addI_lns {n : Nd} {d : Nat} (hg : GoodAcc n d) {x : It} (hk : x.kind = n.kind) (y : Nd) : (addI n x y).lns d = n.lns d ++ (hline x.kind x.name y d :: y.lns (d + 1)) := by
  rw [lns_eq, lns_eq]
  show lnsL n.kind (if n.kind = 3 then n.names ++ [x.name] else n.names) (n.items ++ [y]) d = _
  rw [lnsL_app]
  rcases hg.1 with ⟨h2, hn⟩ | ⟨h3, hl, _, _⟩
  · rw [if_neg (by omega), hn, List.drop_nil, lnsL_cons, lnsL_nil, hk, h2]
    simp only [List.append_nil]
    rfl
  · rw [if_pos h3, lnsL_names _ _ _ _ _ (Nat.le_of_eq hl.symm), ← hl, List.drop_left, lnsL_cons, lnsL_nil, hk]
    simp
theorem addI_good {n : Nd} {d : Nat} (hg : GoodAcc n d) {x : It} (hx : GoodTok x) (hf : fitsI n x = true) {y : Nd} (hy : rightD (7 - d) y = true) : GoodAcc (addI n x y) d ∧ (addI n x y).items.length ≠ 0 := by
  simp only [fitsI, Bool.and_eq_true, decide_eq_true_eq, Bool.not_eq_true'] at hf
  obtain ⟨hk, h64, hm⟩ := hf
  obtain ⟨h1, h2, h3, h4⟩ := hg
  have hil : (addI n x y).items = n.items ++ [y] := rfl
  refine ⟨⟨?_, h2, by rw [hil, List.length_append, List.length_singleton]; omega, fun z hz => ?_⟩, by rw [hil, List.length_append, List.length_singleton]; omega⟩
  · rcases h1 with ⟨k2, hn⟩ | ⟨k3, hl, hb, hnd⟩
    · refine .inl ⟨k2, ?_⟩
      show (if n.kind = 3 then n.names ++ [x.name] else n.names) = []
      rw [if_neg (by omega), hn]
    · have hne : (addI n x y).names = n.names ++ [x.name] := by show (if n.kind = 3 then n.names ++ [x.name] else n.names) = _; rw [if_pos k3]
      have hxn : bwC x.name.data.toList = true := by
        rcases hx.2.1 with ⟨e, _⟩ | ⟨_, e⟩
        · omega
        · exact e
      refine .inr ⟨k3, by rw [hne, hil, List.length_append, List.length_append, hl]; rfl, fun s hs => ?_, ?_⟩
      · rw [hne, List.mem_append, List.mem_singleton] at hs
        rcases hs with hs | rfl
        · exact hb s hs
        · exact hxn
      · rw [hne, List.nodup_append]
        refine ⟨hnd, by simp, fun a ha b hb2 e => ?_⟩
        rw [List.mem_singleton] at hb2
        subst hb2
        have : memB x.name n.names = true := (memB_iff _ _).2 (e ▸ ha)
        rw [hm] at this
        cases this
  · rw [hil, List.mem_append, List.mem_singleton] at hz
    rcases hz with hz | rfl
    · exact h4 z hz
    · exact hy
theorem good_right {n : Nd} {d : Nat} (hg : GoodAcc n d) (hd : d ≤ 7) : rightD (8 - d) n = true := by
  obtain ⟨h1, h2, h3, h4⟩ := hg
  have e : 8 - d = (7 - d) + 1 := by omega
  rw [e, rightD, Bool.and_eq_true, List.all_eq_true]
  refine ⟨?_, h4⟩
  rcases h1 with ⟨k2, hn⟩ | ⟨k3, hl, hb, hnd⟩
  · simp [partsC, k2, h2, hn, h3, show ({ data := #[] } : ByteArray) = .empty from rfl]
  · have hnc : namesC n.names = true := by
      rw [namesC, Bool.and_eq_true, decide_eq_true_eq, List.all_eq_true]
      refine ⟨by omega, fun i hi => ?_⟩
      rw [List.mem_range] at hi
      rw [onK_at _ _ hi, hb _ (List.getElem_mem hi)]
      have : memB n.names[i] (n.names.take i) = false := by
        rw [← Bool.not_eq_true, memB_iff, List.mem_take_iff_getElem]
        rintro ⟨j, hj, e⟩
        rw [List.nodup_iff_pairwise_ne, List.pairwise_iff_getElem] at hnd
        exact hnd j i (by omega) hi (by omega) e
      rw [this]
      rfl
    simp [partsC, k3, h2, hl, hnc, show ({ data := #[] } : ByteArray) = .empty from rfl]
/-- what is read of items -/
theorem itemsR_back : ∀ (f : Nat) (n : Nd) (d : Nat) (x : It) (cur : Nat) (ls : List Bs) (r : Bs) (y : Nd) (b : It) (m : Nat) (l2 : List Bs), itemsR f n (d : Int) x cur ls r = .inr (y, b, m, l2) → GoodAcc n d → TokOk x ls r → x.deep ≤ d → d ≤ 6 → (x.deep = d ∨ n.items.length ≠ 0) →
    GoodAcc y d ∧ y.items.length ≠ 0 ∧ TokOk b l2 r ∧ b.deep < d ∧ n.lns d ++ tokL x ++ nbL ls = y.lns d ++ tokL b ++ nbL l2
  | 0, n, d, x, cur, ls, r, y, b, m, l2, h, _, _, _, _, _ => by cases h
  | f + 1, n, d, x, cur, ls, r, y, b, m, l2, h, hg, hx, hxd, hd6, hne => by
    have ih := itemsR_back f
    rw [itemsR] at h
    by_cases hxe : x.deep = d
    · rw [if_pos hxe] at h
      by_cases hf : fitsI n x = true
      · rw [if_pos hf] at h
        have hxg : GoodTok x := by
          rcases hx with h1 | ⟨h1, _⟩
          · exact h1
          · rw [h1] at hxe
            have : endI.deep = -1 := rfl
            omega
        have htl : tokL x = [lineI x] := by rw [tokL, if_neg (by omega)]
        cases hn : nextT cur ls r with
        | mk m1 p =>
          obtain ⟨o, l1⟩ := p
          rw [hn] at h
          cases o with
          | none => cases h
          | some b1 =>
            simp only at h
            obtain ⟨hb1, hnb⟩ := nextT_back _ _ _ _ _ _ hn
            rcases hxg.2.2 with ⟨hno, h5⟩ | ⟨hpn, hie⟩
            · have hk0 : x.node.kind = 0 := by rw [hno]; rfl
              rw [if_pos hk0] at h
              by_cases hbd : b1.deep = (d : Int) + 1
              · rw [if_pos hbd] at h
                cases hi : itemsR f (.mk b1.kind ⟨#[]⟩ [] []) b1.deep b1 m1 l1 r with
                | inl k => rw [hi] at h; cases h
                | inr z =>
                  obtain ⟨y1, b2, m2, l3⟩ := z
                  rw [hi] at h
                  simp only at h
                  by_cases hb2d : b2.deep ≤ d
                  · rw [if_pos hb2d] at h
                    have hb1g : GoodTok b1 := by
                      rcases hb1 with h1 | ⟨h1, _⟩
                      · exact h1
                      · rw [h1] at hbd
                        have : endI.deep = -1 := rfl
                        omega
                    have hd5 : d ≤ 5 := by omega
                    have hbe : b1.deep = ((d + 1 : Nat) : Int) := by omega
                    rw [hbe] at hi
                    have hg0 : GoodAcc (.mk b1.kind ⟨#[]⟩ [] []) (d + 1) := by
                      refine ⟨?_, rfl, Nat.zero_le _, fun x hx => absurd hx List.not_mem_nil⟩
                      rcases hb1g.2.1 with ⟨e, _⟩ | ⟨e, _⟩
                      · exact .inl ⟨e, rfl⟩
                      · exact .inr ⟨e, rfl, fun s hs => absurd hs List.not_mem_nil, List.nodup_nil⟩
                    obtain ⟨hgy, hyne, hb2, hb2l, heq⟩ := ih _ (d + 1) b1 m1 l1 r y1 b2 m2 l3 hi hg0 hb1 (by omega) (by omega) (.inl hbe)
                    have hry : rightD (7 - d) y1 = true := by
                      have := good_right hgy (by omega)
                      rw [show 8 - (d + 1) = 7 - d by omega] at this
                      exact this
                    obtain ⟨hga, hane⟩ := addI_good hg hxg hf hry
                    have hk : x.kind = n.kind := by
                      simp only [fitsI, Bool.and_eq_true, decide_eq_true_eq] at hf
                      exact hf.1
                    obtain ⟨r1, r2, r3, r4, r5⟩ := ih (addI n x y1) d b2 m2 l3 r y b m l2 h hga hb2 hb2d hd6 (.inr hane)
                    refine ⟨r1, r2, r3, r4, ?_⟩
                    rw [← r5, addI_lns hg hk, htl, hnb]
                    have hl : lineI x = hline x.kind x.name y1 d := by
                      have hye : y1.items.isEmpty = false := by
                        cases h : y1.items with
                        | nil => rw [h] at hyne; exact absurd rfl hyne
                        | cons z zs => rfl
                      rw [lineI, hline, if_pos hk0, hye, hxe, Int.toNat_natCast]
                      rfl
                    have e0 : (Nd.mk b1.kind ⟨#[]⟩ [] []).lns (d + 1) = [] := by rw [lns_eq]; exact lnsL_nil _ _ _
                    rw [e0, List.nil_append] at heq
                    rw [heq, hl]
                    simp
                  · rw [if_neg hb2d] at h; cases h
              · rw [if_neg hbd] at h; cases h
            · rw [if_neg (flat_kind hpn)] at h
              by_cases hb1d : b1.deep ≤ d
              · rw [if_pos hb1d] at h
                have hry : rightD (7 - d) x.node = true := by
                  have e : 7 - d = (6 - d) + 1 := by omega
                  rw [e, rightD, hpn, List.isEmpty_iff.1 hie]
                  rfl
                obtain ⟨hga, hane⟩ := addI_good hg hxg hf hry
                have hk : x.kind = n.kind := by
                  simp only [fitsI, Bool.and_eq_true, decide_eq_true_eq] at hf
                  exact hf.1
                obtain ⟨r1, r2, r3, r4, r5⟩ := ih (addI n x x.node) d b1 m1 l1 r y b m l2 h hga hb1 hb1d hd6 (.inr hane)
                refine ⟨r1, r2, r3, r4, ?_⟩
                rw [← r5, addI_lns hg hk, htl, hnb, lns_flat hie]
                have hl : lineI x = hline x.kind x.name x.node d := by
                  rw [lineI, hline, if_neg (flat_kind hpn), if_pos hie, hxe, Int.toNat_natCast]
                rw [hl]
                simp
              · rw [if_neg hb1d] at h; cases h
      · rw [if_neg hf] at h; cases h
    · rw [if_neg hxe] at h
      simp only [Sum.inr.injEq, Prod.mk.injEq] at h
      obtain ⟨rfl, rfl, _, rfl⟩ := h
      refine ⟨hg, ?_, hx, by omega, rfl⟩
      rcases hne with h1 | h1
      · exact absurd h1 hxe
      · exact h1
/-- what is parsed, printed: the lines that say something -/
theorem parse_back_N {s : Bs} {n : Nd} {at_ : Int} (h : parseN s = (n, 0, at_)) :
    nodeC n = true ∧ n.items.length ≠ 0 ∧ n.linesT 0 = unL (nbL (linesB s).1) ∧ s = unL (linesB s).1 ∧ s.length ≤ 8192 := by
  unfold parseN at h
  split at h
  · cases h
  · rename_i h8
    cases hn : nextT 0 (linesB s).1 (linesB s).2 with
    | mk m p =>
      obtain ⟨o, l1⟩ := p
      rw [hn] at h
      cases o with
      | none => cases h
      | some x =>
        simp only at h
        split at h
        · rename_i hx0
          obtain ⟨hx, hnb⟩ := nextT_back _ _ _ _ _ _ hn
          have hxg : GoodTok x := by
            rcases hx with h1 | ⟨h1, _⟩
            · exact h1
            · rw [h1] at hx0
              have : endI.deep = -1 := rfl
              omega
          cases hi : itemsC (.mk x.kind ⟨#[]⟩ [] []) 0 x m l1 (linesB s).2 with
          | inl k => rw [hi] at h; cases h
          | inr z =>
            obtain ⟨y, b, m2, l2⟩ := z
            rw [hi] at h
            simp only [Prod.mk.injEq] at h
            obtain ⟨rfl, _, _⟩ := h
            have hg0 : GoodAcc (.mk x.kind ⟨#[]⟩ [] []) 0 := by
              refine ⟨?_, rfl, Nat.zero_le _, fun x hx => absurd hx List.not_mem_nil⟩
              rcases hxg.2.1 with ⟨e, _⟩ | ⟨e, _⟩
              · exact .inl ⟨e, rfl⟩
              · exact .inr ⟨e, rfl, fun s hs => absurd hs List.not_mem_nil, List.nodup_nil⟩
            obtain ⟨r1, r2, r3, r4, r5⟩ := itemsR_back _ _ 0 x m l1 _ y b m2 l2 hi hg0 hx (by omega) (by omega) (.inl hx0)
            have hbe : b = endI ∧ l2 = [] ∧ (linesB s).2 = [] := by
              rcases r3 with h1 | h1
              · have := h1.1
                omega
              · exact h1
            obtain ⟨rfl, rfl, hr⟩ := hbe
            have hl := unL_lines s
            rw [hr, List.append_nil] at hl
            refine ⟨good_right r1 (by omega), r2, ?_, hl.symm, by omega⟩
            rw [linesT_lns]
            have e0 : (Nd.mk x.kind ⟨#[]⟩ [] []).lns 0 = [] := by rw [lns_eq]; exact lnsL_nil _ _ _
            rw [e0, List.nil_append, ← hnb] at r5
            rw [r5]
            show _ = unL (y.lns 0 ++ [] ++ [])
            simp
        · cases h
theorem parse_none {s : Bs} (h : (parseN s).2.1 ≠ 0) : (parseN s).1 = noNd := by
  unfold parseN at h ⊢
  split
  · rfl
  · rename_i h8
    rw [if_neg h8] at h
    cases hn : nextT 0 (linesB s).1 (linesB s).2 with
    | mk m p =>
      obtain ⟨o, l1⟩ := p
      rw [hn] at h
      cases o with
      | none => rfl
      | some x =>
        simp only at h ⊢
        split
        · rename_i hx
          rw [if_pos hx] at h
          cases hi : itemsC (.mk x.kind ⟨#[]⟩ [] []) 0 x m l1 (linesB s).2 with
          | inl k => rfl
          | inr z =>
            rw [hi] at h
            exact absurd rfl h
        · rfl
end Go.Proofs.YtolbhhokpelchaaDoor
