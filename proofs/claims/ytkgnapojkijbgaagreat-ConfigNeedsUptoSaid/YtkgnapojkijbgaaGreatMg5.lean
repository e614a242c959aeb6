/- slices.SortFunc of twelve inhibits or fewer. -/
import Derived.Test.YtkgnapojkijbgaaGreatMg4
import Derived.Test.YtkgnapojkijbgaaGreatMg3
namespace Go.Proofs.YtkgnapojkijbgaaGreat
open Go.RowKit Go.Sort Go.Lib Go.Shelf
set_option maxHeartbeats 3200000 in
set_option maxRecDepth 100000 in
theorem pdqI_any (base g cap f n : Nat) (l : Int) (xs : List InA) (d : Array InA) (w : World) (hn : d.size = n) (h : OwnX 51 3 InA.enc w base (.slice (some ⟨g, 0, none⟩) n cap) d.toList) (hin : ∀ i, i < n → d[i]! ∈ xs) (hc : CmpOf xs base f w) (h8 : n ≤ 12) :
    Calls Tryz.prog 111 #[.slice (some ⟨g, 0, none⟩) n cap, .int .i64 0, .int .i64 n, .int .i64 l, .func (.func 64) #[] #[.pointer (some ⟨f, 0, none⟩)]] w
      (fun e w' => e = .returned (.tuple #[]) ∧ OwnX 51 3 InA.enc w' base (.slice (some ⟨g, 0, none⟩) n cap) (Sort.insertionSort (ltOf (cmpN inhT)) d 0 n).toList ∧ Below base w w') := by
  have HI := Lib.hid (insI_any base g cap f n xs d w hn h hin hc (by omega))
  have hz : (n : Int) ≤ 12 := by omega
  clear h hin hc
  go_enter Tryz.func111, Tryz.ntmps111
  go_wp2
  refine wp_loop_rounds 1 ?_
  rw [rounds_succ]
  go_wp2_with (go_at_call 160; refine HI.out.mono ?_; rintro e w2 ⟨rfl, ho, hb⟩)
  (try simp only [Exit.inBlock, Exit.then]); refine bodyPost_ret (results_none rfl _ _ _) rfl ?_
  exact ⟨rfl, ho, hb⟩
end Go.Proofs.YtkgnapojkijbgaaGreat
/- slices.SortFunc of twelve inhibits or fewer. -/
namespace Go.Proofs.YtkgnapojkijbgaaGreat
open Go.RowKit Go.Sort Go.Lib Go.Shelf
set_option maxHeartbeats 3200000 in
set_option maxRecDepth 100000 in
theorem sort1I_any (base g cap f : Nat) (xs : List InA) (w : World) (h : OwnX 51 3 InA.enc w base (.slice (some ⟨g, 0, none⟩) xs.length cap) xs) (hc : CmpOf xs base f w) (h8 : xs.length ≤ 12) :
    Calls Tryz.prog 63 #[.slice (some ⟨g, 0, none⟩) xs.length cap, .func (.func 64) #[] #[.pointer (some ⟨f, 0, none⟩)]] w
      (fun e w' => e = .returned (.tuple #[]) ∧ ∃ ys, ys.length = xs.length ∧ SortedN inhT xs ys ∧ OwnX 51 3 InA.enc w' base (.slice (some ⟨g, 0, none⟩) xs.length cap) ys ∧ Below base w w') := by
  have hp := fun l => pdqI_any base g cap f xs.length l xs xs.toArray w (by simp) h (fun i hi => by simp [hi]) hc h8
  have hs := insertionSort_holds (lt := ltOf (cmpN inhT)) (swo_cmpN inhT) xs.toArray 0 xs.toArray.size (Nat.zero_le _) (Nat.le_refl _)
  have hr := sortedN_of inhT xs (Sort.insertionSort (ltOf (cmpN inhT)) xs.toArray 0 xs.toArray.size) hs.1 hs.2
  rw [show xs.toArray.size = xs.length by simp] at hr
  have HR := Lib.hid hr
  generalize Sort.insertionSort (ltOf (cmpN inhT)) xs.toArray 0 xs.length = D at *
  have HL := Lib.hid (fun W => show Calls Tryz.prog 108 #[.int .u64 (xs.length : Int)] W (fun e w' => (∃ l : Int, e = .returned (.int .i64 l)) ∧ W = w') from (Tryz.bits_Len (xs.length : Int) W (by omega) (by omega)).mono fun e w' ⟨he, hw⟩ => ⟨⟨_, he⟩, hw.symm⟩)
  have HP := Lib.hid hp
  have hz : (0 : Int) ≤ (xs.length : Int) := by omega
  have hz2 : (xs.length : Int) ≤ 12 := by omega
  have hzw : IntKind.u64.wrap (xs.length : Int) = (xs.length : Int) := by rw [IntKind.wrap_u64]; omega
  clear h hc hp hs hr
  go_enter Tryz.func63, Tryz.ntmps63
  go_wp2_with (first
    | (go_at_call 108; refine (HL.out _).mono ?_; rintro e w2 ⟨⟨l, rfl⟩, rfl⟩)
    | (go_at_call 111; refine (HP.out _).mono ?_; rintro e w3 ⟨rfl, ho, hb⟩))
  go_end0
  exact ⟨rfl, D.toList, HR.out.1, HR.out.2, ho, hb⟩
end Go.Proofs.YtkgnapojkijbgaaGreat
/- The contract of config.sorted of inhibits. -/
namespace Go.Proofs.YtkgnapojkijbgaaGreat
open Go.RowKit Go.Sort Go.Lib Go.Shelf

theorem Tryz.infoIn : (Tryz.prog.info? 51).map (fun i => (i.zero, i.size, i.bytes)) = some (some (.agg #[.slice none 0 0, .slice none 0 0, .slice none 0 0]), 3, 72) := by kernel_rfl
theorem info_partsIn {x : Option TypeInfo} (h : x.map (fun i => (i.zero, i.size, i.bytes)) = some (some (.agg #[.slice none 0 0, .slice none 0 0, .slice none 0 0]), 3, 72)) : ∃ i, x = some i ∧ i.zero = some (.agg #[.slice none 0 0, .slice none 0 0, .slice none 0 0]) ∧ i.size = 3 ∧ i.bytes = 72 := by
  cases x with
  | none => cases h
  | some i => simp at h; exact ⟨i, rfl, h.1, h.2.1, h.2.2⟩
set_option maxHeartbeats 1600000 in
set_option maxRecDepth 100000 in
theorem clone0I_any (a : Addr) (c : Nat) (w : World) : Calls Tryz.prog 62 #[.slice (some a) 0 c] w (fun e w' => ∃ v, e = .returned v ∧ OwnX 51 3 InA.enc w' w.heap.size v ([] : List InA) ∧ Below w.heap.size w w') := by
  obtain ⟨i0, hi, hz0, hz1, hz2⟩ := info_partsIn Tryz.infoIn
  have q22 : ∀ (w : World) (a : Option Addr) (n c n' c' : Nat), (binOp .eql 28 (.slice a n c) (.slice none n' c')).run Tryz.prog w = .ok (.bool a.isNone) w := fun w a n c n' c' => Lib.run_eql_slice_nil w _ _ a n c n' c' Tryz.underlying28
  go_enter Tryz.func62, Tryz.ntmps62
  go_wp2_with (refine wpList_append_own _ (by rfl) (.tmp 5) (.tmp 6) 28 (by rfl) w.heap.size 51 i0 (.agg #[.slice none 0 0, .slice none 0 0, .slice none 0 0]) 3 72 Tryz.underlying28 hi hz0 hz1 hz2 rfl (by omega) (.slice (some ⟨w.heap.size, 0, none⟩) 0 0) 0 [] (by rfl) (World.ownsRow_made w #[] 0 (Nat.le_refl _) (by unfold maxLen; omega) (by simp)) a 0 c [] (by rfl) (by rfl) (by intro j u hj; simp at hj) (by intro u hu; cases hu) (by unfold maxLen; omega) (by omega) (by simp) ?_; intro v' w1 hown hgrow hnil)
  go_ret
  refine ⟨v', rfl, by simpa [OwnX, rowV] using hown, ?_⟩
  exact ((Below.refl _ w).alloc (Nat.le_refl _) _).grown hgrow (by simp) (by intro k hk; simp [Value.ownBlock] at hk; omega)
theorem cloneI_any (a : Option Addr) (c : Nat) (xs : List InA) (w : World) (h : HasInhs w a c xs) (h8 : xs.length ≤ 1000000) :
    Calls Tryz.prog 62 #[.slice a xs.length c] w (fun e w' => ∃ v, e = .returned v ∧ OwnX 51 3 InA.enc w' w.heap.size v xs ∧ Below w.heap.size w w') := by
  obtain ⟨i0, hi, hz0, hz1, hz2⟩ := info_partsIn Tryz.infoIn
  obtain ⟨h1, h2, h3, h4⟩ := h
  rcases h4 with rfl | ⟨b, off, rfl, hb, hc⟩
  · cases a with
    | none => exact (show Calls Tryz.prog 62 _ _ _ from AnyE.slices_Clone_nil Tryz.cloneI 0 c w).mono fun e w' ⟨he, hw⟩ => ⟨_, he, by rw [hw]; exact OwnX.nil _ _ _, by rw [hw]; exact Below.refl _ _⟩
    | some a => exact clone0I_any a c w
  · refine (show Calls Tryz.prog 62 _ _ _ from AnyE.slices_Clone Tryz.cloneI i0 _ 3 72 hi hz0 hz1 hz2 rfl (by omega) Tryz.sizeOf51 b off xs.length c (rowV InA.enc xs) w (rowV_len InA.enc_len xs) (by unfold maxLen; omega) (by omega) (HasRow.flat (_ok := InA.ok) (_c := c) InA.enc_len (by omega) hc) (fun u hu => ?_)).mono fun e w' ⟨v, he, ho, _, hb⟩ => ⟨v, he, ho, hb⟩
    obtain ⟨x, _, h⟩ := List.mem_flatMap.1 hu
    exact InA.enc_one x u h
set_option maxHeartbeats 1600000 in
set_option maxRecDepth 100000 in
theorem ins0I_any (a : Option Addr) (cap : Nat) (fv : Value) (w : World) : Calls Tryz.prog 160 #[.slice a 0 cap, .int .i64 0, .int .i64 0, fv] w (fun e w' => e = .returned (.tuple #[]) ∧ w' = w) := by
  go_enter Tryz.func160, Tryz.ntmps160
  go_wp2
  refine wp_loop_rounds 1 ?_
  rw [rounds_succ]
  go_wp2
  go_end0
  exact ⟨rfl, rfl⟩
set_option maxHeartbeats 1600000 in
set_option maxRecDepth 100000 in
theorem pdq0I_any (a : Option Addr) (cap : Nat) (l : Int) (fv : Value) (w : World) : Calls Tryz.prog 111 #[.slice a 0 cap, .int .i64 0, .int .i64 0, .int .i64 l, fv] w (fun e w' => e = .returned (.tuple #[]) ∧ w' = w) := by
  have HI := Lib.hid (ins0I_any a cap fv)
  go_enter Tryz.func111, Tryz.ntmps111
  go_wp2
  refine wp_loop_rounds 1 ?_
  rw [rounds_succ]
  go_wp2_with (go_at_call 160; refine (HI.out _).mono ?_; rintro e w2 ⟨rfl, rfl⟩)
  (try simp only [Exit.inBlock, Exit.then]); refine bodyPost_ret (results_none rfl _ _ _) rfl ?_
  exact ⟨rfl, rfl⟩
set_option maxHeartbeats 1600000 in
set_option maxRecDepth 100000 in
theorem sort0I_any (a : Option Addr) (cap : Nat) (fv : Value) (w : World) : Calls Tryz.prog 63 #[.slice a 0 cap, fv] w (fun e w' => e = .returned (.tuple #[]) ∧ w' = w) := by
  have HP := Lib.hid (fun l => pdq0I_any a cap l fv)
  have HL := Lib.hid (fun W => show Calls Tryz.prog 108 #[.int .u64 0] W (fun e w' => (∃ l : Int, e = .returned (.int .i64 l)) ∧ W = w') from (Tryz.bits_Len 0 W (by omega) (by omega)).mono fun e w' ⟨he, hw⟩ => ⟨⟨_, he⟩, hw.symm⟩)
  go_enter Tryz.func63, Tryz.ntmps63
  go_wp2_with (first
    | (go_at_call 108; refine (HL.out _).mono ?_; rintro e w2 ⟨⟨l, rfl⟩, rfl⟩)
    | (go_at_call 111; refine (HP.out _ _).mono ?_; rintro e w3 ⟨rfl, rfl⟩))
  go_end0
  exact ⟨rfl, rfl⟩
/-- what config.sorted of these answers -/
def SrtI (xs : List InA) (w : World) (e : Ending) (w' : World) : Prop := ∃ v ys, e = .returned v ∧ ys.length = xs.length ∧ SortedN inhT xs ys ∧ OwnX 51 3 InA.enc w' w.heap.size v ys ∧ Below w.heap.size w w'
set_option maxHeartbeats 3200000 in
set_option maxRecDepth 100000 in
theorem srtI_any (a : Option Addr) (c : Nat) (xs : List InA) (w : World) (h : HasInhs w a c xs) (h8 : xs.length ≤ 12) (hl : ∀ x ∈ xs, x.s.length ≤ 1000000 ∧ x.t.length ≤ 1000000) :
    Calls Tryz.prog 20 #[.slice a xs.length c, .func (.func 21) #[] #[]] w (SrtI xs w) := by
  have hb := (Below.refl w.heap.size w).alloc (Nat.le_refl _) (.cells #[.func (.func 21) #[] #[]] 53)
  have hB := Blk.new w 53 #[.func (.func 21) #[] #[]]
  have hz : (w.alloc (.cells #[.func (.func 21) #[] #[]] 53)).heap.size = w.heap.size + 1 := by simp
  have hcl := cloneI_any a c xs _ (h.keep hb) (by omega)
  have hfit : ∀ x ∈ xs, InA.fit w x := fun x hx => ⟨h.2.2.1 x hx, hl x hx⟩
  have hs1 := fun (g cap : Nat) W (ho : OwnX 51 3 InA.enc W (w.heap.size + 1) (.slice (some ⟨g, 0, none⟩) xs.length cap) xs) (hf : Blk W w.heap.size 53 #[.func (.func 21) #[] #[]]) (hW : Below w.heap.size w W) => sort1I_any (w.heap.size + 1) g cap w.heap.size xs W ho (fun W2 hb2 x hx y hy => cmpI_any x y w.heap.size W2 ((hfit x hx).call (hW.trans (hb2.mono (Nat.le_succ _)))) ((hfit y hy).call (hW.trans (hb2.mono (Nat.le_succ _)))) ((hb2.block _ (Nat.lt_succ_self _)).trans hf)) h8
  have hs0 := fun a cap W => sort0I_any a cap (.func (.func 64) #[] #[.pointer (some ⟨w.heap.size, 0, none⟩)]) W
  have HB := Lib.hid hb
  have HCL := Lib.hid hcl
  have HS1 := Lib.hid hs1
  have HS0 := Lib.hid hs0
  have HBB := Lib.hid hB
  clear hb hcl hs1 hs0 hB h hfit hl
  go_enter Tryz.func20, Tryz.ntmps20
  go_upto_region 1 with fail
  obtain ⟨f, hf⟩ : ∃ f, w.heap.size = f := ⟨_, rfl⟩
  generalize w.alloc (.cells #[.func (.func 21) #[] #[]] 53) = wx at *
  have HF := Lib.hid hf
  rw [hf] at HBB HS1 HS0 hz ⊢
  clear hf
  go_upto_region 2 with (go_at_call 62; refine HCL.out.mono ?_; rintro e w2 ⟨v, rfl, ho2, hb2⟩)
  have hB2 := HBB.out.call hb2
  rw [hz] at ho2
  have hbb := HB.out.trans (hb2.mono HB.out.size)
  rcases ho2.2 with ⟨rfl, h0⟩ | ⟨g1, cap, cur, rfl, _, _, _, _, _, _⟩
  · obtain rfl : xs = [] := List.eq_nil_of_length_eq_zero h0
    have HBB2 := Lib.hid hbb
    clear hB2 hbb ho2
    go_wp2_with (go_at_call 63; refine (HS0.out _ _ _).mono ?_; rintro e w3 ⟨rfl, rfl⟩)
    go_ret
    exact ⟨_, [], rfl, rfl, ⟨.refl _, .nil⟩, OwnX.nil _ _ _, HBB2.out⟩
  · have hcall := HS1.out g1 cap w2 ho2 hB2 (HF.out ▸ hbb)
    have HCA := Lib.hid hcall
    have HBB2 := Lib.hid hbb
    clear hB2 hbb ho2 hcall
    go_wp2_with (go_at_call 63; refine HCA.out.mono ?_; rintro e w3 ⟨rfl, ys, hl3, hs3, ho3, hb3⟩)
    go_ret
    have hff := HF.out
    exact ⟨_, ys, rfl, hl3, hs3, ho3.base (by omega), HBB2.out.trans (hb3.mono (by omega))⟩
end Go.Proofs.YtkgnapojkijbgaaGreat
/- Rows of structs of the call's own: a store of a whole struct, a clearing of what lies behind; lists without neighbours that are the same. -/
namespace Go.Proofs.YtkgnapojkijbgaaGreat
open Go.RowKit Go.Sort Go.Lib Go.Shelf

section
variable {A : Type} [Inhabited A] {enc : A → List Value} {k : Nat}
theorem OwnX.lay {T : TypeId} {w : World} {base g cap n : Nat} {d : Array A} (hk : ∀ x, (enc x).length = k) (hn : d.size = n) (h : OwnX T k enc w base (.slice (some ⟨g, 0, none⟩) n cap) d.toList) (s : Nat) (vs : List Value) (hs : s + vs.length ≤ n * k) (ys : List A) (hm : ys.length ≤ n)
    (hy : ∀ t, t < ys.length * k → (setMany (flatK enc k d) s vs)[t]! = (flatK enc k ys.toArray)[t]!) :
    OwnX T k enc (w.setCells g s vs) base (.slice (some ⟨g, 0, none⟩) ys.length cap) ys ∧ Below base w (w.setCells g s vs) := by
  subst hn
  have h' : OwnX T k enc w base (.slice (some ⟨g, 0, none⟩) d.toList.length cap) d.toList := by simpa using h
  have hH := h'.holds hk
  rw [show d.toList.toArray = d by simp] at hH
  have hlt := (World.ownsRow.lt h' g rfl)
  have e : w.setCells g (0 + s) vs = putRow id w g 0 (setMany (flatK enc k d) s vs) := by
    have e1 := putRow_self id w g 0 (flatK enc k d) hH
    have e2 := setCells_putRow w g 0 vs s (flatK enc k d) (by simpa using hs)
    rw [e1] at e2
    exact e2
  rw [Nat.zero_add] at e
  rw [e]
  rcases h'.2 with ⟨hv, _⟩ | ⟨g1, c1, cur, hv, hb, hg, hn, hm', hcs, ht⟩
  · cases hv
  · simp only [Value.slice.injEq, Option.some.injEq, Addr.mk.injEq] at hv
    obtain ⟨⟨rfl, _, _⟩, _, rfl⟩ := hv
    have hne : ∀ q, q < base → (putRow id w g 0 (setMany (flatK enc k d) s vs)).heap[q]? = w.heap[q]? := fun q hq => by
      simp [putRow, mapBlock, Array.getElem?_modify, show g ≠ q by omega]
    refine ⟨?_, ⟨rfl, rfl, rfl, by simp, hne⟩⟩
    unfold OwnX
    have hfl := rowV_len hk ys
    have hn2 : d.size ≤ cap := by simpa using hn
    refine ⟨hfl, .inr ⟨g, cap, putCells id 0 (setMany (flatK enc k d) s vs) cur, rfl, hb, ?_, by omega, hm', by simp [putCells, hcs], ?_⟩⟩
    · simp [putRow, mapBlock, Array.getElem?_modify, hg, onCells]
    · have hcap : ys.length * k ≤ cap * k := Nat.mul_le_mul_right k (by omega)
      have hyd : ys.length * k ≤ d.size * k := Nat.mul_le_mul_right k hm
      apply List.ext_getElem?
      intro j
      rcases Nat.lt_or_ge j (ys.length * k) with hj | hj
      · have h2 : j < cur.size := by rw [hcs]; omega
        have h3 : j < (rowV enc ys).length := by rw [hfl]; exact hj
        rw [List.getElem?_take_of_lt hj]
        simp only [putCells, Array.getElem?_toList, Array.getElem?_mapIdx, Array.getElem?_eq_getElem h2, Option.map_some]
        rw [if_pos ⟨Nat.zero_le _, by simp; omega⟩, Nat.sub_zero, hy j hj, flat_row hk]
        simp [h3]
      · rw [List.getElem?_eq_none (by simp; omega), List.getElem?_eq_none (by rw [hfl]; omega)]
theorem OwnX.put {T : TypeId} {w : World} {base g cap n : Nat} {d : Array A} (hk : ∀ x, (enc x).length = k) (k0 : 0 < k) (hn : d.size = n) (h : OwnX T k enc w base (.slice (some ⟨g, 0, none⟩) n cap) d.toList) (i : Nat) (hi : i < n) (x : A) :
    OwnX T k enc (w.setCells g (i * k) (enc x)) base (.slice (some ⟨g, 0, none⟩) n cap) (d.setIfInBounds i x).toList ∧ Below base w (w.setCells g (i * k) (enc x)) := by
  subst hn
  have hb : i * k + k ≤ d.size * k := by have := Nat.mul_le_mul_right k (show i + 1 ≤ d.size from hi); rwa [Nat.add_mul, Nat.one_mul] at this
  have := OwnX.lay hk rfl h (i * k) (enc x) (by rw [hk]; exact hb) (d.setIfInBounds i x).toList (by simp) (fun t ht => ?_)
  · simpa using this
  · have ht' : t < d.size * k := by simpa using ht
    rw [get_setMany _ _ _ _ (by simpa using ht'), hk]
    rw [Array.toArray_toList, get_flatK _ _ (d.setIfInBounds i x) t (by simpa using ht'), get_flatK _ _ d t ht']
    have hq := Nat.div_add_mod t k
    have hm := Nat.mod_lt t k0
    by_cases hc : t / k = i
    · have e : k * (t / k) = i * k := by rw [hc, Nat.mul_comm]
      rw [if_pos ⟨by omega, by omega⟩, hc, getElem!_set_same d i x hi]
      congr 1
      omega
    · rw [getElem!_set_other d i (t / k) x hc]
      rw [if_neg]
      rintro ⟨h1, h2⟩
      exact hc (Nat.div_eq_of_lt_le (by omega) (by rw [Nat.add_mul, Nat.one_mul]; omega))
theorem OwnX.cut {T : TypeId} {w : World} {base g cap n m : Nat} {d : Array A} (hk : ∀ x, (enc x).length = k) (hn : d.size = n) (h : OwnX T k enc w base (.slice (some ⟨g, 0, none⟩) n cap) d.toList) (hm : m ≤ n) (z : Value) :
    OwnX T k enc (w.setCells g (m * k) (List.replicate ((n - m) * k) z)) base (.slice (some ⟨g, 0, none⟩) m cap) (d.toList.take m) ∧ Below base w (w.setCells g (m * k) (List.replicate ((n - m) * k) z)) := by
  subst hn
  have hmk : m * k ≤ d.size * k := Nat.mul_le_mul_right k hm
  have hsz : m * k + (d.size - m) * k = d.size * k := by rw [← Nat.add_mul]; congr 1; omega
  have hl : (d.toList.take m).length = m := by simp; omega
  have := OwnX.lay hk rfl h (m * k) (List.replicate ((d.size - m) * k) z) (by simp; omega) (d.toList.take m) (by rw [hl]; exact hm) (fun t ht => ?_)
  · rwa [hl] at this
  · rw [hl] at ht
    rw [get_setMany _ _ _ _ (by simp; omega), if_neg (by omega)]
    have k0 : 0 < k := by rcases Nat.eq_zero_or_pos k with h | h; · subst h; simp at ht
                          · exact h
    have hi : t / k < m := (Nat.div_lt_iff_lt_mul k0).2 ht
    rw [get_flatK _ _ d t (by omega), get_flatK _ _ (d.toList.take m).toArray t (by rw [show (d.toList.take m).toArray.size = (d.toList.take m).length from rfl, hl]; exact ht)]
    congr 2
    have hi2 : t / k < d.size := by omega
    simp [hi, hi2]
end
theorem zeroCells_rep (z v : Value) (k n : Nat) (hz : z.cells = Array.replicate k v) (k0 : 0 < k) : (Builtin.zeroCells z.cells n).toList = List.replicate (n * k) v := by
  rw [hz]
  apply List.ext_getElem
  · simp [Builtin.zeroCells]
  · intro i h1 h2
    have hm := Nat.mod_lt i k0
    simp [Builtin.zeroCells, hm]

/-- 'clear' of elements of k cells, each of which is the zero value's -/
theorem run_clear_k {P : Program} (w : World) (t e ty : TypeId) (z v : Value) (k : Nat) (k0 : 0 < k) (ht : P.underlying t = some (.slice e)) (hv : ∀ w, (zeroValue e).run P w = .ok z w) (hz : z.cells = Array.replicate k v) (h1 : v.oneCell' = true) (b o n c : Nat) (hn : 0 < n)
    (hc : ∀ j, j < n * k → (w.cell? ⟨b, o + j, none⟩).isSome = true) (hf : ∀ j, j < n * k → w.frozen? ⟨b, o + j, none⟩ = false) :
    (Builtin.clear_ #[t] ty #[.slice (some ⟨b, o, none⟩) n c]).run P w = .ok (.tuple #[]) (w.setCells b o (List.replicate (n * k) v)) := by
  have hzc := zeroCells_rep z v k n hz k0
  have hst := run_storeCells_cells (P := P) b o (List.replicate (n * k) v) 0 w (by simpa using hc) (by simpa using hf) (by intro u hu; rw [List.eq_of_mem_replicate hu]; exact h1)
  simp only [Nat.add_zero] at hst
  obtain ⟨m, rfl⟩ : ∃ m, n = m + 1 := ⟨n - 1, by omega⟩
  simp [Builtin.clear_, run_underlying ht, hv, hzc, hst]
/-- what stays of inhibits behind one of them: those that are not the same as the one ahead of them -/
noncomputable def compG (p : InA) : List InA → List InA
  | [] => []
  | y :: r => if eqB (likeI y p) = true then compG y r else y :: compG y r
noncomputable def compI : List InA → List InA
  | [] => []
  | x :: r => x :: compG x r
theorem compG_snoc (l : List InA) (p y : InA) : compG p (l ++ [y]) = compG p l ++ (if eqB (likeI y ((p :: l).getLast (by simp))) = true then [] else [y]) := by
  induction l generalizing p with
  | nil =>
    by_cases h : eqB (likeI y p) = true <;> simp [compG, h]
  | cons x l ih =>
    simp only [List.cons_append, compG, ih x, List.getLast_cons (show x :: l ≠ [] by simp)]
    split
    · rfl
    · rfl
theorem compI_snoc (l : List InA) (y : InA) (h : l ≠ []) : compI (l ++ [y]) = compI l ++ (if eqB (likeI y (l.getLast h)) = true then [] else [y]) := by
  cases l with
  | nil => exact absurd rfl h
  | cons x l => simp only [List.cons_append, compI, compG_snoc]
theorem compI_take (xs : List InA) (i : Nat) (h : i + 1 < xs.length) (B : Bool) (hB : eqB (likeI xs[i + 1] xs[i]) = B) : compI (xs.take (i + 2)) = compI (xs.take (i + 1)) ++ (if B = true then [] else [xs[i + 1]]) := by
  have hne : xs.take (i + 1) ≠ [] := by
    intro e
    have h1 : (xs.take (i + 1)).length = i + 1 := by rw [List.length_take]; omega
    rw [e] at h1
    cases h1
  rw [List.take_succ_eq_append_getElem h, compI_snoc _ _ hne]
  have hl : (xs.take (i + 1)).getLast hne = xs[i] := by
    rw [List.getLast_eq_getElem]
    simp only [List.length_take, List.getElem_take]
    have : min (i + 1) xs.length - 1 = i := by omega
    simp only [this]
  rw [hl, hB]
theorem compG_len (l : List InA) (p : InA) : (compG p l).length ≤ l.length := by
  induction l generalizing p with
  | nil => simp [compG]
  | cons x l ih =>
    simp only [compG]
    split
    · have := ih x; simp; omega
    · have := ih x; simp; omega
theorem compI_len (l : List InA) : (compI l).length ≤ l.length := by
  cases l with
  | nil => simp [compI]
  | cons x l => have := compG_len l x; simp [compI]; omega
end Go.Proofs.YtkgnapojkijbgaaGreat
/- slices.CompactFunc of inhibits by likeInhibit, in place. -/
namespace Go.Proofs.YtkgnapojkijbgaaGreat
open Go.RowKit Go.Sort Go.Lib Go.Shelf

/-- what a compaction asks of the comparison -/
def LikeOf (xs : List InA) (base : Nat) (w : World) : Prop := ∀ W, Below base w W → ∀ x ∈ xs, ∀ y ∈ xs,
  Calls Tryz.prog 22 #[.agg #[.slice x.sa x.s.length x.sc, .slice x.ta x.t.length x.tc, .slice x.ea x.e.length x.ec], .agg #[.slice y.sa y.s.length y.sc, .slice y.ta y.t.length y.tc, .slice y.ea y.e.length y.ec]] W (BoolB (eqB (likeI x y)) W)
theorem set3_cells (w : World) (g p : Nat) (a b c : Value) : w.setCells g p [a, b, c] = ((w.setCell ⟨g, p, none⟩ a).setCell ⟨g, p + 1, none⟩ b).setCell ⟨g, p + 2, none⟩ c := by
  simp only [World.setCells]
/-- what the second loop keeps -/
def CmpInv (xs : List InA) (m kk : Nat) (dj : Array InA) : Prop := dj.size = xs.length ∧ kk < m ∧ dj.toList.take kk = compI (xs.take m) ∧ ∀ i (h : i < xs.length), m - 1 ≤ i → dj[i]! = xs[i]
theorem CmpInv.skip {xs : List InA} {m kk : Nat} {dj : Array InA} (h : CmpInv xs (m + 1) kk dj) (hm : m + 1 < xs.length) (hB : eqB (likeI xs[m + 1] xs[m]) = true) : CmpInv xs (m + 2) kk dj := by
  obtain ⟨h1, h2, h3, h4⟩ := h
  refine ⟨h1, by omega, ?_, fun i hi hm => h4 i hi (by omega)⟩
  rw [compI_take xs m hm true hB, h3]
  simp
theorem CmpInv.keep {xs : List InA} {m kk : Nat} {dj : Array InA} (h : CmpInv xs (m + 1) kk dj) (hm : m + 1 < xs.length) (hB : eqB (likeI xs[m + 1] xs[m]) = false) : CmpInv xs (m + 2) (kk + 1) (dj.setIfInBounds kk xs[m + 1]) := by
  obtain ⟨h1, h2, h3, h4⟩ := h
  refine ⟨by simpa using h1, by omega, ?_, fun i hi hm => ?_⟩
  · rw [compI_take xs m hm false hB, ← h3]
    have hk : kk < dj.toList.length := by simp; omega
    simp only [Array.toList_setIfInBounds]
    rw [List.take_succ_eq_append_getElem (by simpa using hk)]
    simp [List.take_set_of_le]
  · rw [getElem!_set_other dj kk i _ (by omega)]
    exact h4 i hi (by omega)
set_option maxHeartbeats 12800000 in
set_option maxRecDepth 1000000 in
theorem cmpctI_any (base g cap n : Nat) (xs : List InA) (w : World) (hn : xs.length = n) (h : OwnX 51 3 InA.enc w base (.slice (some ⟨g, 0, none⟩) n cap) xs) (hc : LikeOf xs base w) (h8 : n ≤ 1000000) :
    Calls Tryz.prog 19 #[.slice (some ⟨g, 0, none⟩) n cap, .func (.func 22) #[] #[]] w
      (fun e w' => ∃ v, e = .returned v ∧ OwnX 51 3 InA.enc w' base v (compI xs) ∧ Below base w w') := by
  have HC := Lib.hid hc
  have HS := Lib.hid h
  have hbg := (World.ownsRow.lt h g rfl)
  have HBG := Lib.hid hbg
  have hcap : n ≤ cap ∧ cap ≤ maxLen := by
    rcases h.2 with ⟨hv, _⟩ | ⟨g1, c1, cur, hv, hb, hg, hn, hm, hcs, ht⟩
    · cases hv
    · simp only [Value.slice.injEq, Option.some.injEq, Addr.mk.injEq] at hv
      obtain ⟨_, _, rfl⟩ := hv
      exact ⟨by omega, hm⟩
  obtain ⟨hcap, h9⟩ := hcap
  unfold maxLen at h9
  clear hc h hbg
  go_enter Tryz.func19, Tryz.ntmps19
  by_cases hn2 : (n : Int) < 2
  · go_wp2_with fail
    go_ret
    refine ⟨_, rfl, ?_, Below.refl _ _⟩
    have e : compI xs = xs := by
      match xs, hn with
      | [], _ => rfl
      | [x], _ => rfl
      | x :: y :: r, h => simp at h; omega
    rw [e]
    exact HS.out
  go_wp2_with fail
  go_loopg [5] n (fun g1 v5 wr => ∃ k : Nat, v5 = .int .i64 (k : Int) ∧ 1 ≤ k ∧ k ≤ n ∧ k + g1 = n + 1 ∧ Hid (compI (xs.take k) = xs.take k) ∧ Hid (OwnX 51 3 InA.enc wr base (.slice (some ⟨g, 0, none⟩) n cap) xs) ∧ Hid (Below base w wr))
  case atStart => exact ⟨1, rfl, by omega, by omega, by omega, (by cases xs with | nil => rfl | cons x l => simp [compI, compG, Hid]), HS, Below.refl _ _⟩
  case round =>
    obtain ⟨k, rfl, h1k, hkn, hkg, HK, HO, HB⟩ := hrel
    by_cases hlt : k < n
    · obtain ⟨kp, rfl⟩ : ∃ kp, k = kp + 1 := ⟨k - 1, by omega⟩
      have hkz : (kp : Int) + 1 < (n : Int) := by omega
      have hkz1 : (kp : Int) < (n : Int) := by omega
      have hw1 : IntKind.i64.wrap ((kp : Int) + 1 - 1) = (kp : Int) := by rw [IntKind.wrap_i64]; omega
      have hw0 : IntKind.i64.wrap (kp : Int) = (kp : Int) := by rw [IntKind.wrap_i64]; omega
      have p0 : (0 : Int) ≤ (kp : Int) + 1 := by omega
      have e0 : ((kp : Int) + 1).toNat = kp + 1 := by omega
      have ho' : OwnX 51 3 InA.enc wr base (.slice (some ⟨g, 0, none⟩) n cap) xs.toArray.toList := HO.out
      obtain ⟨a0, a1, a2⟩ := cells_row (d := xs.toArray) (by simpa using hn) ho' (kp + 1) hlt
      obtain ⟨b0, b1, b2⟩ := cells_row (d := xs.toArray) (by simpa using hn) ho' kp (by omega)
      have ex : xs.toArray[kp + 1]! = xs[kp + 1] := by simp [show kp + 1 < xs.length by omega]
      have ep : xs.toArray[kp]! = xs[kp] := by simp [show kp < xs.length by omega]
      rw [ex] at a0 a1 a2
      rw [ep] at b0 b1 b2
      have HCM := Lib.hid (fun z => HC.out _ (HB.out.trans ((later_below wr z).mono (by have := HB.out.size; have := HBG.out; omega))) xs[kp + 1] (List.getElem_mem _) xs[kp] (List.getElem_mem _))
      obtain ⟨B, hB⟩ : ∃ B, eqB (likeI xs[kp + 1] xs[kp]) = B := ⟨_, rfl⟩
      rw [hB] at HCM
      unfold BoolB at HCM
      have HBB := Lib.hid hB
      have a0 := fun x => later_cell a0 x
      have a1 := fun x => later_cell a1 x
      have a2 := fun x => later_cell a2 x
      have b0 := fun x => later_cell b0 x
      have b1 := fun x => later_cell b1 x
      have b2 := fun x => later_cell b2 x
      clear hB ex ep ho'
      generalize xs[kp + 1] = X at a0 a1 a2 HCM
      generalize xs[kp] = Y at b0 b1 b2 HCM
      obtain ⟨s1, t1, e1, sa1, sc1, ta1, tc1, ea1, ec1⟩ := X
      obtain ⟨s2, t2, e2, sa2, sc2, ta2, tc2, ea2, ec2⟩ := Y
      simp only at a0 a1 a2 b0 b1 b2 HCM
      go_upto_region 6 with fail
      refine wp_region_later (by kernel_rfl) (by kernel_rfl) ?_
      repeat (go_big_quiet_step (first | (go_at_call 22; exact calls_later (HCM.out _))))
      refine wpQuiet_nil ?_
      rintro _ ⟨z, rfl⟩
      have HB3 : Hid (Below wr.heap.size wr (later wr z)) := later_below _ _
      clear a0 a1 a2 b0 b1 b2 HCM
      generalize later wr z = w5 at *
      cases B
      case false =>
        go_wp2_with fail
        go_roundg (gk - 1)
        case measure => omega
        case rel => exact ⟨kp + 2, by go_num, by omega, by omega, by omega, (by show _ = _; rw [compI_take xs kp (by omega) false HBB.out, HK.out]; exact (List.take_succ_eq_append_getElem (show kp + 1 < xs.length by omega)).symm), HO.out.call HB3.out, HB.out.trans (HB3.out.mono (by have := HB.out.size; have := HBG.out; omega))⟩
      case true =>
        go_wp2_with fail
        have HO5 : Hid (OwnX 51 3 InA.enc w5 base (.slice (some ⟨g, 0, none⟩) n cap) xs) := HO.out.call HB3.out
        have HB5 : Hid (Below base w w5) := HB.out.trans (HB3.out.mono (by have := HB.out.size; have := HBG.out; omega))
        have HI5 : Hid (CmpInv xs (kp + 1 + 1) (kp + 1) xs.toArray) := ⟨by simp, by omega, (by rw [show kp + 1 + 1 = kp + 2 from rfl, compI_take xs kp (by omega) true HBB.out, HK.out]; simp), fun i hi _ => by simp [hi]⟩
        clear HB3 HB HO HK HBB
        go_loopg [5, 7] n (fun gg s5 s7 wr2 => ∃ (kk m : Nat) (dj : Array InA), s5 = .int .i64 (kk : Int) ∧ s7 = .int .i64 ((m : Int) + 1) ∧ kp + 2 + m ≤ n ∧ n ≤ kp + 2 + m + gg ∧ kk < kp + 2 + m ∧ Hid (CmpInv xs (kp + 1 + m + 1) kk dj) ∧ Hid (OwnX 51 3 InA.enc wr2 base (.slice (some ⟨g, 0, none⟩) n cap) dj.toList) ∧ Hid (Below base w wr2))
        case atStart => exact ⟨kp + 1, 0, xs.toArray, by go_num, by go_num, by omega, by omega, by omega, HI5, HO5, HB5⟩
        case round =>
          obtain ⟨kk, m, dj, rfl, rfl, hm1, hm2, hm3, HI, HO, HB⟩ := hrel
          by_cases hlt2 : kp + 2 + m < n
          · have hsj : dj.size = n := HI.out.1.trans hn
            have hkn2 : kk < n := by omega
            have hz1 : (m : Int) + 1 < ((n - (kp + 1) : Nat) : Int) := by omega
            have hz2 : (m : Int) < ((n - (kp + 1) : Nat) : Int) := by omega
            have hz3 : (0 : Int) ≤ (m : Int) + 1 := by omega
            have hz4 : (kk : Int) < (n : Int) := by omega
            have hwm : IntKind.i64.wrap ((m : Int) + 1 - 1) = (m : Int) := by rw [IntKind.wrap_i64]; omega
            have hwm0 : IntKind.i64.wrap (m : Int) = (m : Int) := by rw [IntKind.wrap_i64]; omega
            have em : ((m : Int) + 1).toNat = m + 1 := by omega
            obtain ⟨a0, a1, a2⟩ := cells_row hsj HO.out (kp + 1 + m + 1) (by omega)
            obtain ⟨b0, b1, b2⟩ := cells_row hsj HO.out (kp + 1 + m) (by omega)
            rw [HI.out.2.2.2 (kp + 1 + m + 1) (by omega) (by omega)] at a0 a1 a2
            rw [HI.out.2.2.2 (kp + 1 + m) (by omega) (by omega)] at b0 b1 b2
            rw [show (kp + 1 + m + 1) * 3 = (kp + 1) * 3 + (m + 1) * 3 by omega] at a0 a1 a2
            rw [show (kp + 1 + m) * 3 = (kp + 1) * 3 + m * 3 by omega] at b0 b1 b2
            have HCM := Lib.hid (fun z => HC.out _ (HB.out.trans ((later_below wr z).mono (by have := HB.out.size; have := HBG.out; omega))) xs[kp + 1 + m + 1] (List.getElem_mem _) xs[kp + 1 + m] (List.getElem_mem _))
            obtain ⟨B, hB⟩ : ∃ B, eqB (likeI xs[kp + 1 + m + 1] xs[kp + 1 + m]) = B := ⟨_, rfl⟩
            rw [hB] at HCM
            unfold BoolB at HCM
            have HBB := Lib.hid hB
            obtain ⟨X, hX⟩ : ∃ X, xs[kp + 1 + m + 1] = X := ⟨_, rfl⟩
            have HXX := Lib.hid hX
            rw [hX] at a0 a1 a2 HCM
            generalize xs[kp + 1 + m] = Y at b0 b1 b2 HCM
            have a0 := fun x => later_cell a0 x
            have a1 := fun x => later_cell a1 x
            have a2 := fun x => later_cell a2 x
            have b0 := fun x => later_cell b0 x
            have b1 := fun x => later_cell b1 x
            have b2 := fun x => later_cell b2 x
            clear hB hX
            obtain ⟨s1, t1, e1, sa1, sc1, ta1, tc1, ea1, ec1⟩ := X
            obtain ⟨s2, t2, e2, sa2, sc2, ta2, tc2, ea2, ec2⟩ := Y
            simp only at a0 a1 a2 b0 b1 b2 HCM
            go_upto_region 11 with fail
            refine wp_region_later (by kernel_rfl) (by kernel_rfl) ?_
            repeat (go_big_quiet_step (first | (go_at_call 22; exact calls_later (HCM.out _))))
            refine wpQuiet_nil ?_
            rintro _ ⟨z, rfl⟩
            have HB3 : Hid (Below wr.heap.size wr (later wr z)) := later_below _ _
            have a0 := a0 z
            have a1 := a1 z
            have a2 := a2 z
            clear b0 b1 b2 HCM
            generalize later wr z = w6 at *
            cases B
            case true =>
              go_wp2_with fail
              go_roundg (gk - 1)
              case measure => omega
              case rel => exact ⟨kk, m + 1, dj, rfl, by go_num, by omega, by omega, by omega, HI.out.skip (by omega) HBB.out, HO.out.call HB3.out, HB.out.trans (HB3.out.mono (by have := HB.out.size; have := HBG.out; omega))⟩
            case false =>
              have ho6 : OwnX 51 3 InA.enc w6 base (.slice (some ⟨g, 0, none⟩) n cap) dj.toList := HO.out.call HB3.out
              obtain ⟨c0, c1, c2⟩ := cells_row hsj ho6 kk hkn2
              have f0 := ho6.unfrozen (kk * 3)
              have f1 := ho6.unfrozen (kk * 3 + 1)
              have f2 := ho6.unfrozen (kk * 3 + 2)
              have HP := OwnX.put InA.enc_len (by omega) hsj ho6 kk hkn2 ⟨s1, t1, e1, sa1, sc1, ta1, tc1, ea1, ec1⟩
              simp only [InA.enc, set3_cells] at HP
              have HP := Lib.hid HP
              clear ho6
              go_wp2_with fail
              go_roundg (gk - 1)
              case measure => omega
              case rel => exact ⟨kk + 1, m + 1, dj.setIfInBounds kk ⟨s1, t1, e1, sa1, sc1, ta1, tc1, ea1, ec1⟩, by go_num, by go_num, by omega, by omega, by omega, (by have := HI.out.keep (by omega) HBB.out; rw [HXX.out] at this; exact this), HP.out.1, HB.out.trans ((HB3.out.mono (by have := HB.out.size; have := HBG.out; omega)).trans HP.out.2)⟩
          · have hnn : n = kp + 2 + m := by omega
            have hsj : dj.size = n := HI.out.1.trans hn
            have hkn2 : kk < n := by omega
            have hz1 : ¬ (m : Int) + 1 < ((n - (kp + 1) : Nat) : Int) := by omega
            have hz4 : (kk : Int) ≤ (n : Int) := by omega
            have hz5 : (kk : Int) ≤ (cap : Int) := by omega
            have hz6 : (0 : Int) ≤ (kk : Int) := by omega
            have hcl : ∀ ty, (Builtin.clear_ #[28] ty #[.slice (some ⟨g, kk * 3, none⟩) (n - kk) (cap - kk)]).run Tryz.prog wr = .ok (.tuple #[]) (wr.setCells g (kk * 3) (List.replicate ((n - kk) * 3) (.slice none 0 0))) := fun ty =>
              run_clear_k wr 28 51 ty (.agg #[.slice none 0 0, .slice none 0 0, .slice none 0 0]) (.slice none 0 0) 3 (by omega) Tryz.underlying28 Tryz.zeroValue51 rfl rfl g (kk * 3) (n - kk) (cap - kk) (by omega)
                (fun j hj => by
                  have hq := Nat.div_add_mod j 3
                  have hm := Nat.mod_lt j (show 0 < 3 by omega)
                  obtain ⟨x0, x1, x2⟩ := cells_row hsj HO.out (kk + j / 3) (by omega)
                  have h3 : j % 3 = 0 ∨ j % 3 = 1 ∨ j % 3 = 2 := by omega
                  rcases h3 with h3 | h3 | h3
                  · rw [show kk * 3 + j = (kk + j / 3) * 3 by omega, x0]; rfl
                  · rw [show kk * 3 + j = (kk + j / 3) * 3 + 1 by omega, x1]; rfl
                  · rw [show kk * 3 + j = (kk + j / 3) * 3 + 2 by omega, x2]; rfl)
                (fun j hj => HO.out.unfrozen _)
            have HNN := Lib.hid hnn
            clear hnn
            have HCUT := Lib.hid (OwnX.cut InA.enc_len hsj HO.out (show kk ≤ n by omega) (.slice none 0 0))
            go_wp2_with fail
            go_ret
            refine ⟨_, rfl, ?_, HB.out.trans HCUT.out.2⟩
            have e := HI.out.2.2.1
            rw [show kp + 1 + m + 1 = xs.length by have := HNN.out; omega, List.take_length] at e
            rw [← e]
            exact HCUT.out.1
    · obtain rfl : k = n := by omega
      go_wp2_with fail
      go_ret
      refine ⟨_, rfl, ?_, HB.out⟩
      have e := HK.out
      rw [← hn, List.take_length] at e
      rw [e]
      exact HO.out
end Go.Proofs.YtkgnapojkijbgaaGreat
/- The contract of config.Normal. -/
namespace Go.Proofs.YtkgnapojkijbgaaGreat
open Go.RowKit Go.Lib Go.Sort

theorem results_cell_tmpC {P : Program} {fn : Func} {p u : Tmp} {ty : TypeId} (h : fn.results = #[.cell p ty, .tmp u]) (tmps : Array Value) (w : World) (g : Nat) (t : TypeId) (cs : Array Value) (fr : Nat × Nat) (d : TypeDesc)
    (hp : tmps.getD p undef = .pointer (some ⟨g, 0, none⟩)) (hg : w.heap[g]? = some (.cells cs t fr))
    (hu : P.underlying ty = some d) (hd : (match d with | .struct _ | .array _ _ => true | _ => false) = true) (hi : (P.info? ty).map (·.size) = some cs.size) :
    (results fn tmps).run P w = .ok (.tuple #[.agg cs, tmps.getD u undef]) w := by
  have hp' : tmps[p]?.getD undef = .pointer (some ⟨g, 0, none⟩) := by simpa using hp
  simp [results, h, hp', asAddr, run_loadVar_row w g t ty cs fr d hg hu hd hi]
theorem OwnX.same {A : Type} {enc : A → List Value} {k : Nat} {T : TypeId} {w w1 : World} {base : Nat} {v : Value} {xs : List A} (h : OwnX T k enc w base v xs) (hq : ∀ q, base ≤ q → w1.heap[q]? = w.heap[q]?) : OwnX T k enc w1 base v xs := by
  obtain ⟨ha, hr⟩ := h
  refine ⟨ha, hr.imp id ?_⟩
  rintro ⟨g, cap, cur, e1, e2, e3, e4⟩
  exact ⟨g, cap, cur, e1, e2, (hq g e2).trans e3, e4⟩
theorem OwnS.same {T : TypeId} {w w1 : World} {base : Nat} {v : Value} {ss : List ByteArray} (h : OwnS T w base v ss) (hq : ∀ q, base ≤ q → w1.heap[q]? = w.heap[q]?) : OwnS T w1 base v ss := by
  obtain ⟨ha, hr⟩ := h
  refine ⟨ha, hr.imp id ?_⟩
  rintro ⟨g, cap, cur, e1, e2, e3, e4⟩
  exact ⟨g, cap, cur, e1, e2, (hq g e2).trans e3, e4⟩
theorem OwnX.sameL {A : Type} {enc : A → List Value} {k : Nat} {T : TypeId} {w w1 : World} {base : Nat} {v : Value} {xs : List A} (h : OwnX T k enc w base v xs) (hq : ∀ q, base ≤ q → q < w.heap.size → w1.heap[q]? = w.heap[q]?) : OwnX T k enc w1 base v xs := by
  obtain ⟨ha, hr⟩ := h
  refine ⟨ha, hr.imp id ?_⟩
  rintro ⟨g, cap, cur, e1, e2, e3, e4⟩
  exact ⟨g, cap, cur, e1, e2, (hq g e2 (lt_of_block e3)).trans e3, e4⟩
theorem OwnS.sameL {T : TypeId} {w w1 : World} {base : Nat} {v : Value} {ss : List ByteArray} (h : OwnS T w base v ss) (hq : ∀ q, base ≤ q → q < w.heap.size → w1.heap[q]? = w.heap[q]?) : OwnS T w1 base v ss := by
  obtain ⟨ha, hr⟩ := h
  refine ⟨ha, hr.imp id ?_⟩
  rintro ⟨g, cap, cur, e1, e2, e3, e4⟩
  exact ⟨g, cap, cur, e1, e2, (hq g e2 (lt_of_block e3)).trans e3, e4⟩
/-- W keeps what lay ahead of B0, and what a call from w to w1 has made -/
def Keep (B0 : Nat) (w w1 W : World) : Prop := Below B0 w W ∧ w1.heap.size ≤ W.heap.size ∧ ∀ q, w.heap.size ≤ q → q < w1.heap.size → W.heap[q]? = w1.heap[q]?
theorem Keep.refl {B0 : Nat} {w w1 : World} (hB : B0 ≤ w.heap.size) (h : Below w.heap.size w w1) : Keep B0 w w1 w1 := ⟨h.mono hB, Nat.le_refl _, fun _ _ _ => rfl⟩
theorem OwnX.shape {A : Type} {enc : A → List Value} {k : Nat} {T : TypeId} {w : World} {base : Nat} {v : Value} {xs : List A} (h : OwnX T k enc w base v xs) : ∃ a c, v = .slice a xs.length c := by
  rcases h.2 with ⟨rfl, h0⟩ | ⟨g, cap, cur, rfl, _⟩
  · exact ⟨none, 0, by rw [h0]⟩
  · exact ⟨_, _, rfl⟩
theorem OwnS.shape {T : TypeId} {w : World} {base : Nat} {v : Value} {ss : List ByteArray} (h : OwnS T w base v ss) : ∃ a c, v = .slice a ss.length c := by
  rcases h.2 with ⟨rfl, h0⟩ | ⟨g, cap, cur, rfl, _⟩
  · exact ⟨none, 0, by rw [h0]⟩
  · exact ⟨_, _, rfl⟩
theorem heap_set1 (w : World) (g i : Nat) (u : Value) (b : Nat) (hg : g < b) : ∀ q, b ≤ q → (w.setCell ⟨g, i, none⟩ u).heap[q]? = w.heap[q]? := fun q hq => Below.heap_setCell w ⟨g, i, none⟩ u q (by show q ≠ g; omega)
/-- a configuration stored whole -/
theorem st13 {w : World} {g : Nat} {t : TypeId} {x0 x1 x2 x3 x4 x5 x6 x7 x8 x9 x10 x11 x12 : Value} (h : Blk w g t #[x0, x1, x2, x3, x4, x5, x6, x7, x8, x9, x10, x11, x12]) (v0 v1 v2 v3 v4 v5 v6 v7 v8 v9 v10 v11 v12 : Value) (W : World) (hW : W = ((((((((((((w.setCell ⟨g, 0, none⟩ v0).setCell ⟨g, 1, none⟩ v1).setCell ⟨g, 2, none⟩ v2).setCell ⟨g, 3, none⟩ v3).setCell ⟨g, 4, none⟩ v4).setCell ⟨g, 5, none⟩ v5).setCell ⟨g, 6, none⟩ v6).setCell ⟨g, 7, none⟩ v7).setCell ⟨g, 8, none⟩ v8).setCell ⟨g, 9, none⟩ v9).setCell ⟨g, 10, none⟩ v10).setCell ⟨g, 11, none⟩ v11).setCell ⟨g, 12, none⟩ v12) :
    Blk W g t #[v0, v1, v2, v3, v4, v5, v6, v7, v8, v9, v10, v11, v12] ∧ (∀ q, q ≠ g → W.heap[q]? = w.heap[q]?) ∧ (∀ B, B ≤ g → ∀ w0, Below B w0 w → Below B w0 W) := by
  subst hW
  have h : Blk _ g t #[v0, x1, x2, x3, x4, x5, x6, x7, x8, x9, x10, x11, x12] := h.set 0 v0
  have h : Blk _ g t #[v0, v1, x2, x3, x4, x5, x6, x7, x8, x9, x10, x11, x12] := h.set 1 v1
  have h : Blk _ g t #[v0, v1, v2, x3, x4, x5, x6, x7, x8, x9, x10, x11, x12] := h.set 2 v2
  have h : Blk _ g t #[v0, v1, v2, v3, x4, x5, x6, x7, x8, x9, x10, x11, x12] := h.set 3 v3
  have h : Blk _ g t #[v0, v1, v2, v3, v4, x5, x6, x7, x8, x9, x10, x11, x12] := h.set 4 v4
  have h : Blk _ g t #[v0, v1, v2, v3, v4, v5, x6, x7, x8, x9, x10, x11, x12] := h.set 5 v5
  have h : Blk _ g t #[v0, v1, v2, v3, v4, v5, v6, x7, x8, x9, x10, x11, x12] := h.set 6 v6
  have h : Blk _ g t #[v0, v1, v2, v3, v4, v5, v6, v7, x8, x9, x10, x11, x12] := h.set 7 v7
  have h : Blk _ g t #[v0, v1, v2, v3, v4, v5, v6, v7, v8, x9, x10, x11, x12] := h.set 8 v8
  have h : Blk _ g t #[v0, v1, v2, v3, v4, v5, v6, v7, v8, v9, x10, x11, x12] := h.set 9 v9
  have h : Blk _ g t #[v0, v1, v2, v3, v4, v5, v6, v7, v8, v9, v10, x11, x12] := h.set 10 v10
  have h : Blk _ g t #[v0, v1, v2, v3, v4, v5, v6, v7, v8, v9, v10, v11, x12] := h.set 11 v11
  have h : Blk _ g t #[v0, v1, v2, v3, v4, v5, v6, v7, v8, v9, v10, v11, v12] := h.set 12 v12
  refine ⟨h, fun q hq => ?_, fun B hB w0 hb => ?_⟩
  · iterate 13 (rw [Below.heap_setCell _ _ _ _ (by show q ≠ g; exact hq)])
  · iterate 13 (refine Below.setCell ?_ (by show B ≤ g; exact hB) _)
    exact hb
set_option maxHeartbeats 1600000 in
set_option maxRecDepth 100000 in
theorem cmpct0I_any (a : Option Addr) (cap : Nat) (fv : Value) (w : World) : Calls Tryz.prog 19 #[.slice a 0 cap, fv] w (fun e w' => e = .returned (.slice a 0 cap) ∧ w' = w) := by
  go_enter Tryz.func19, Tryz.ntmps19
  go_wp2_with fail
  go_ret
  exact ⟨rfl, rfl⟩
/-- slices.CompactFunc of a row of the call's own -/
theorem cmpctX_any (base : Nat) (v : Value) (ys : List InA) (w : World) (ho : OwnX 51 3 InA.enc w base v ys) (hc : LikeOf ys base w) (h8 : ys.length ≤ 1000000) :
    Calls Tryz.prog 19 #[v, .func (.func 22) #[] #[]] w (fun e w' => ∃ v2, e = .returned v2 ∧ OwnX 51 3 InA.enc w' base v2 (compI ys) ∧ Below base w w') := by
  rcases ho.2 with ⟨rfl, h0⟩ | ⟨g, cap, cur, rfl, _, _, _, _, _, _⟩
  · obtain rfl : ys = [] := List.eq_nil_of_length_eq_zero h0
    exact (cmpct0I_any none 0 _ w).mono fun e w' ⟨he, hw⟩ => ⟨_, he, by rw [hw]; exact ho, by rw [hw]; exact Below.refl _ _⟩
  · exact cmpctI_any base g cap ys.length ys w rfl ho hc h8
theorem compG_mem (l : List InA) (p x : InA) (h : x ∈ compG p l) : x ∈ l := by
  induction l generalizing p with
  | nil => simp [compG] at h
  | cons y l ih =>
    simp only [compG] at h
    split at h
    · exact List.mem_cons_of_mem _ (ih y h)
    · rcases List.mem_cons.1 h with rfl | h
      · exact List.mem_cons_self
      · exact List.mem_cons_of_mem _ (ih y h)
theorem compI_mem {l : List InA} {x : InA} (h : x ∈ compI l) : x ∈ l := by
  cases l with
  | nil => simp [compI] at h
  | cons y l =>
    rcases List.mem_cons.1 h with rfl | h
    · exact List.mem_cons_self
    · exact List.mem_cons_of_mem _ (compG_mem l y x h)
/-- k2 is the normal form of k -/
def NormOf (k k2 : CfA) : Prop := k2.rt = k.rt ∧ SortedN RuA.name k.ru k2.ru ∧ k2.re = sortS k.re ∧ (∃ ys, SortedN inhT k.ih ys ∧ k2.ih = compI ys) ∧ SortedN HrA.n k.hr k2.hr
abbrev zCfg : Array Value := #[.slice none 0 0, .string ⟨#[]⟩, .slice none 0 0, .slice none 0 0, .int .i64 0, .int .i64 0, .int .i64 0, .slice none 0 0, .bool false, .slice none 0 0, .slice none 0 0, .slice none 0 0, .slice none 0 0]
def NormP (B0 : Nat) (k : CfA) (w : World) (e : Ending) (w' : World) : Prop :=
  Below w.heap.size w w' ∧ ((cfgC k = true ∧ ∃ k2 : CfA, e = .returned (.tuple #[.agg (kCells k2), .int .i64 0]) ∧ (∀ W, Keep B0 w w' W → k2.ok W) ∧ NormOf k k2) ∨ (cfgC k = false ∧ e = .returned (.tuple #[.agg zCfg, .int .i64 1])))
theorem cfgC_len {k : CfA} (h : cfgC k = true) : k.ru.length ≤ 16 ∧ k.re.length ≤ 16 ∧ k.ih.length ≤ 8 ∧ k.hr.length ≤ 8 ∧ ∀ x ∈ k.ih, x.s.length ≤ 1000000 ∧ x.t.length ≤ 1000000 := by
  simp only [cfgC, Bool.and_eq_true, decide_eq_true_eq] at h
  refine ⟨h.1.1, h.2.2.1.1, h.2.2.2.2.1.1, h.2.2.2.2.2.1.1, fun x hx => ?_⟩
  have hg := List.all_eq_true.1 h.2.2.2.2.1.2 x hx
  simp only [InA.good, sideC, matchC, Bool.and_eq_true, decide_eq_true_eq] at hg
  omega
set_option maxHeartbeats 12800000 in
set_option maxRecDepth 100000 in
theorem cfgNormal_any (k : CfA) (w : World) (B0 : Nat) (hB0 : B0 ≤ w.heap.size) (h0 : ∀ W, Below B0 w W → k.ok W) : Calls Tryz.prog 7 #[.agg (kCells k)] w (NormP B0 k w) := by
  have h := h0 w (Below.refl _ _)
  obtain ⟨Q, hQ⟩ : ∃ Q, Q = NormP B0 k w := ⟨_, rfl⟩
  have HQ := Lib.hid hQ
  rw [← hQ]
  have hb1 := (Below.refl w.heap.size w).alloc (Nat.le_refl _) (.cells (kCells k) 31)
  have hb2 := balR (o := .cells zCfg 31) hb1
  have hA := (Blk.new w 31 (kCells k)).alloc (.cells zCfg 31)
  have hZ := nbR w (.cells (kCells k) 31) zCfg 31
  have HR := Lib.hid (fun W (hW : Below w.heap.size w W) => cfgRight_any k W (h.call hW))
  have H1 := Lib.hid (fun (hl : k.ru.length ≤ 16) W (hW : Below w.heap.size w W) => srtR_any k.ua k.uc k.ru W (h.1.keep hW) (by omega))
  have H2 := Lib.hid (fun (hl : k.re.length ≤ 16) W (hW : Below w.heap.size w W) => srtS_any k.ra k.rc k.re W (h.2.2.1.call hW) (by omega))
  have H3 := Lib.hid (fun (hl : k.ih.length ≤ 8) (hs : ∀ x ∈ k.ih, x.s.length ≤ 1000000 ∧ x.t.length ≤ 1000000) W (hW : Below w.heap.size w W) => srtI_any k.ia k.ic k.ih W (h.2.2.2.1.keep hW) (by omega) hs)
  have H4 := Lib.hid (fun (hl : k.hr.length ≤ 8) W (hW : Below w.heap.size w W) => srtH_any k.ha k.hc k.hr W (h.2.2.2.2.keep hW) (by omega))
  have HLK := Lib.hid (fun (ys : List InA) (hy : ∀ x ∈ ys, x ∈ k.ih) base W (hbs : w.heap.size ≤ base) (hW : Below w.heap.size w W) => show LikeOf ys base W from fun V hV x hx y hyy => likeInh_any x y V ((h.2.2.2.1.2.2.1 x (hy x hx)).call (hW.trans (hV.mono hbs))) ((h.2.2.2.1.2.2.1 y (hy y hyy)).call (hW.trans (hV.mono hbs))))
  have HK := Lib.hid h0
  have HL := Lib.hid (fun e => cfgC_len (k := k) e)
  have HB := Lib.hid hb2
  obtain ⟨B, hB⟩ : ∃ B, cfgC k = B := ⟨_, rfl⟩
  have HBB := Lib.hid hB
  rw [hB] at HR HL
  have HB0 := Lib.hid hB0
  clear hb1 hb2 h hQ hB h0 hB0
  obtain ⟨ru, ua, uc, ⟨n, ma, mc, ba, bc, ma2, mc2, ka, kc⟩, re, ra, rc, ih, ia, ic, hr, ha, hc⟩ := k
  simp only [kCells] at *
  go_enter Tryz.func7, Tryz.ntmps7
  go_upto_region 1 with fail
  generalize (w.alloc (.cells #[.slice ua ru.length uc, .string n.recv, .slice ma n.ms.length mc, .slice ba n.bys.length bc, .int .i64 n.wait, .int .i64 n.every, .int .i64 n.rep, .slice ma2 n.mute.length mc2, .bool n.on, .slice ka n.kids.length kc, .slice ra re.length rc, .slice ia ih.length ic, .slice ha hr.length hc] 31)).alloc (.cells zCfg 31) = wx at *
  obtain ⟨g, hg⟩ : ∃ g, w.heap.size = g := ⟨_, rfl⟩
  have HG : Hid (w.heap.size ≤ g) := by show _ ≤ _; omega
  rw [hg] at hA hZ ⊢
  clear hg
  have HA := Lib.hid hA
  have HZ := Lib.hid hZ
  obtain ⟨c0, c1, c2, c3, c4, c5, c6, c7, c8, c9, c10, c11, c12⟩ := hA.cells13
  clear hA hZ
  cases B
  case false =>
    go_wp2_with (go_at_call 9; refine (HR.out _ HB.out).mono ?_; rintro e w2 ⟨rfl, hb2⟩; obtain ⟨d0, d1, d2, d3, d4, d5, d6, d7, d8, d9, d10, d11, d12⟩ := (HZ.out.call hb2).cells13; have f0 := (HZ.out.call hb2).frozen 0; have f1 := (HZ.out.call hb2).frozen 1; have f2 := (HZ.out.call hb2).frozen 2; have f3 := (HZ.out.call hb2).frozen 3; have f4 := (HZ.out.call hb2).frozen 4; have f5 := (HZ.out.call hb2).frozen 5; have f6 := (HZ.out.call hb2).frozen 6; have f7 := (HZ.out.call hb2).frozen 7; have f8 := (HZ.out.call hb2).frozen 8; have f9 := (HZ.out.call hb2).frozen 9; have f10 := (HZ.out.call hb2).frozen 10; have f11 := (HZ.out.call hb2).frozen 11; have f12 := (HZ.out.call hb2).frozen 12)
    obtain ⟨s1, s2, s3⟩ := st13 (HZ.out.call hb2) (.slice none 0 0) (.string ⟨#[]⟩) (.slice none 0 0) (.slice none 0 0) (.int .i64 0) (.int .i64 0) (.int .i64 0) (.slice none 0 0) (.bool false) (.slice none 0 0) (.slice none 0 0) (.slice none 0 0) (.slice none 0 0) _ rfl
    have hbe := s3 w.heap.size (by have := HG.out; omega) w (bthen HB.out hb2)
    refine bodyPost_ret (v := .tuple #[.agg zCfg, .int .i64 1]) ?_ rfl ?_
    · refine (results_cell_tmpC rfl _ _ (g + 1) _ zCfg _ _ ?_ s1 Tryz.underlying31 rfl (by kernel_rfl)).trans ?_
      · rfl
      · rfl
    · rw [HQ.out]
      exact ⟨hbe, .inr ⟨HBB.out, rfl⟩⟩
  obtain ⟨l1, l2, l3, l4, l5⟩ := HL.out rfl
  go_upto_region 3 with (go_at_call 9; refine (HR.out _ HB.out).mono ?_; rintro e w2 ⟨rfl, hb2⟩)
  have HB2 := Lib.hid (bthen HB.out hb2)
  have hA := HA.out.call hb2
  have hZ := HZ.out.call hb2
  clear c0 c1 c2 c3 c4 c5 c6 c7 c8 c9 c10 c11 c12 hb2 HA HZ HB HR
  have HWZ : Hid (w.heap.size ≤ w2.heap.size) := HB2.out.size
  have HA1 := Lib.hid hA
  have HZ1 := Lib.hid hZ
  obtain ⟨b1, hbase1⟩ : ∃ b, w2.heap.size = b := ⟨_, rfl⟩
  have hgb1 : g < b1 := by have := hA.lt; omega
  have hgc1 : g + 1 < b1 := by have := hZ.lt; omega
  have HGB1 := Lib.hid (And.intro hgb1 hgc1)
  have HBS1 := Lib.hid hbase1
  obtain ⟨c0, c1, c2, c3, c4, c5, c6, c7, c8, c9, c10, c11, c12⟩ := hA.cells13
  clear hA hZ hbase1 hgb1 hgc1
  go_upto_region 4 with (go_at_call 15; refine (H1.out l1 _ HB2.out).mono ?_; rintro e wn ⟨v, y1, rfl, hl1, hs1, hon, hbn⟩; have HS1 := Lib.hid (And.intro hl1 hs1); clear hl1 hs1; obtain ⟨va1, vc1, rfl⟩ := hon.shape; have f0 := (HA1.out.call hbn).frozen 0; obtain ⟨d0, d1, d2, d3, d4, d5, d6, d7, d8, d9, d10, d11, d12⟩ := (HA1.out.call hbn).cells13)
  have hA : Blk _ g 31 #[(.slice va1 y1.length vc1), .string n.recv, .slice ma n.ms.length mc, .slice ba n.bys.length bc, .int .i64 n.wait, .int .i64 n.every, .int .i64 n.rep, .slice ma2 n.mute.length mc2, .bool n.on, .slice ka n.kids.length kc, .slice ra re.length rc, .slice ia ih.length ic, .slice ha hr.length hc] := (HA1.out.call hbn).set 0 (.slice va1 y1.length vc1)
  have hZ := (HZ1.out.call hbn).setO ⟨g, 0, none⟩ (.slice va1 y1.length vc1) (show g + 1 ≠ g by omega)
  have HB3 := Lib.hid ((bthen HB2.out hbn).setCell (p := ⟨g, 0, none⟩) HG.out (.slice va1 y1.length vc1))
  have HO1 := Lib.hid (hon.same (heap_set1 _ g 0 (.slice va1 y1.length vc1) _ (show g < w2.heap.size by rw [HBS1.out]; exact HGB1.out.1)))
  rw [HBS1.out] at HO1
  clear hon hbn c0 d0 c1 d1 c2 d2 c3 d3 c4 d4 c5 d5 c6 d6 c7 d7 c8 d8 c9 d9 c10 d10 c11 d11 c12 d12 f0
  generalize wn.setCell ⟨g, 0, none⟩ (.slice va1 y1.length vc1) = wx1 at *
  have HA2 := Lib.hid hA
  have HZ2 := Lib.hid hZ
  obtain ⟨b2, hbase2⟩ : ∃ b, wx1.heap.size = b := ⟨_, rfl⟩
  have hgb2 : g < b2 := by have := hA.lt; omega
  have hgc2 : g + 1 < b2 := by have := hZ.lt; omega
  have HGB2 := Lib.hid (And.intro hgb2 hgc2)
  have HBS2 := Lib.hid hbase2
  obtain ⟨c0, c1, c2, c3, c4, c5, c6, c7, c8, c9, c10, c11, c12⟩ := hA.cells13
  clear hA hZ hbase2 hgb2 hgc2
  go_upto_region 5 with (go_at_call 17; refine (H2.out l2 _ HB3.out).mono ?_; rintro e wn ⟨v, rfl, hon, hbn⟩; obtain ⟨y2, hy2⟩ : ∃ y, sortS re = y := ⟨_, rfl⟩; rw [hy2] at hon; have HS2 := Lib.hid hy2; clear hy2; obtain ⟨va2, vc2, rfl⟩ := hon.shape; have f0 := (HA2.out.call hbn).frozen 10; obtain ⟨d0, d1, d2, d3, d4, d5, d6, d7, d8, d9, d10, d11, d12⟩ := (HA2.out.call hbn).cells13)
  have hA : Blk _ g 31 #[(.slice va1 y1.length vc1), .string n.recv, .slice ma n.ms.length mc, .slice ba n.bys.length bc, .int .i64 n.wait, .int .i64 n.every, .int .i64 n.rep, .slice ma2 n.mute.length mc2, .bool n.on, .slice ka n.kids.length kc, (.slice va2 y2.length vc2), .slice ia ih.length ic, .slice ha hr.length hc] := (HA2.out.call hbn).set 10 (.slice va2 y2.length vc2)
  have hZ := (HZ2.out.call hbn).setO ⟨g, 10, none⟩ (.slice va2 y2.length vc2) (show g + 1 ≠ g by omega)
  have HB4 := Lib.hid ((bthen HB3.out hbn).setCell (p := ⟨g, 10, none⟩) HG.out (.slice va2 y2.length vc2))
  have HO1 := Lib.hid ((HO1.out.call hbn).same (heap_set1 _ g 10 (.slice va2 y2.length vc2) _ HGB1.out.1))
  have HO2 := Lib.hid (hon.same (heap_set1 _ g 10 (.slice va2 y2.length vc2) _ (show g < wx1.heap.size by rw [HBS2.out]; exact HGB2.out.1)))
  rw [HBS2.out] at HO2
  clear hon hbn c0 d0 c1 d1 c2 d2 c3 d3 c4 d4 c5 d5 c6 d6 c7 d7 c8 d8 c9 d9 c10 d10 c11 d11 c12 d12 f0
  generalize wn.setCell ⟨g, 10, none⟩ (.slice va2 y2.length vc2) = wx2 at *
  have HA3 := Lib.hid hA
  have HZ3 := Lib.hid hZ
  obtain ⟨b3, hbase3⟩ : ∃ b, wx2.heap.size = b := ⟨_, rfl⟩
  have hgb3 : g < b3 := by have := hA.lt; omega
  have hgc3 : g + 1 < b3 := by have := hZ.lt; omega
  have HGB3 := Lib.hid (And.intro hgb3 hgc3)
  have HBS3 := Lib.hid hbase3
  obtain ⟨c0, c1, c2, c3, c4, c5, c6, c7, c8, c9, c10, c11, c12⟩ := hA.cells13
  clear hA hZ hbase3 hgb3 hgc3
  go_upto_region 6 with (first | (go_at_call 20; refine (H3.out l3 l5 _ HB4.out).mono ?_; rintro e wn0 ⟨v, ys, rfl, hl3, hs3, hon0, hbn0⟩; have hl8 : ys.length ≤ 1000000 := (by omega); clear hl3) | (go_at_call 19; refine (cmpctX_any _ _ ys wn0 hon0 (HLK.out ys (fun x hx => hs3.1.mem_iff.1 hx) _ _ HB4.out.size (bthen HB4.out hbn0)) hl8).mono ?_; rintro e wn ⟨v2, rfl, hon, hbn1⟩; have hbn := hbn0.trans hbn1; obtain ⟨y3, hy3⟩ : ∃ y, compI ys = y := ⟨_, rfl⟩; rw [hy3] at hon; have HS3 := Lib.hid (And.intro hs3 hy3); clear hs3 hy3; obtain ⟨va3, vc3, rfl⟩ := hon.shape; have f0 := (HA3.out.call hbn).frozen 11; obtain ⟨d0, d1, d2, d3, d4, d5, d6, d7, d8, d9, d10, d11, d12⟩ := (HA3.out.call hbn).cells13))
  have hA : Blk _ g 31 #[(.slice va1 y1.length vc1), .string n.recv, .slice ma n.ms.length mc, .slice ba n.bys.length bc, .int .i64 n.wait, .int .i64 n.every, .int .i64 n.rep, .slice ma2 n.mute.length mc2, .bool n.on, .slice ka n.kids.length kc, (.slice va2 y2.length vc2), (.slice va3 y3.length vc3), .slice ha hr.length hc] := (HA3.out.call hbn).set 11 (.slice va3 y3.length vc3)
  have hZ := (HZ3.out.call hbn).setO ⟨g, 11, none⟩ (.slice va3 y3.length vc3) (show g + 1 ≠ g by omega)
  have HB5 := Lib.hid ((bthen HB4.out hbn).setCell (p := ⟨g, 11, none⟩) HG.out (.slice va3 y3.length vc3))
  have HO1 := Lib.hid ((HO1.out.call hbn).same (heap_set1 _ g 11 (.slice va3 y3.length vc3) _ HGB1.out.1))
  have HO2 := Lib.hid ((HO2.out.call hbn).same (heap_set1 _ g 11 (.slice va3 y3.length vc3) _ HGB2.out.1))
  have HO3 := Lib.hid (hon.same (heap_set1 _ g 11 (.slice va3 y3.length vc3) _ (show g < wx2.heap.size by rw [HBS3.out]; exact HGB3.out.1)))
  rw [HBS3.out] at HO3
  clear hon hbn c0 d0 c1 d1 c2 d2 c3 d3 c4 d4 c5 d5 c6 d6 c7 d7 c8 d8 c9 d9 c10 d10 c11 d11 c12 d12 f0
  generalize wn.setCell ⟨g, 11, none⟩ (.slice va3 y3.length vc3) = wx3 at *
  clear hl8 hon0 hbn0 hbn1
  have HA4 := Lib.hid hA
  have HZ4 := Lib.hid hZ
  obtain ⟨b4, hbase4⟩ : ∃ b, wx3.heap.size = b := ⟨_, rfl⟩
  have hgb4 : g < b4 := by have := hA.lt; omega
  have hgc4 : g + 1 < b4 := by have := hZ.lt; omega
  have HGB4 := Lib.hid (And.intro hgb4 hgc4)
  have HBS4 := Lib.hid hbase4
  obtain ⟨c0, c1, c2, c3, c4, c5, c6, c7, c8, c9, c10, c11, c12⟩ := hA.cells13
  clear hA hZ hbase4 hgb4 hgc4
  go_upto_region 7 with (go_at_call 23; refine (H4.out l4 _ HB5.out).mono ?_; rintro e wn ⟨v, y4, rfl, hl4, hs4, hon, hbn⟩; have HS4 := Lib.hid (And.intro hl4 hs4); clear hl4 hs4; obtain ⟨va4, vc4, rfl⟩ := hon.shape; have f0 := (HA4.out.call hbn).frozen 12; obtain ⟨d0, d1, d2, d3, d4, d5, d6, d7, d8, d9, d10, d11, d12⟩ := (HA4.out.call hbn).cells13)
  have hA : Blk _ g 31 #[(.slice va1 y1.length vc1), .string n.recv, .slice ma n.ms.length mc, .slice ba n.bys.length bc, .int .i64 n.wait, .int .i64 n.every, .int .i64 n.rep, .slice ma2 n.mute.length mc2, .bool n.on, .slice ka n.kids.length kc, (.slice va2 y2.length vc2), (.slice va3 y3.length vc3), (.slice va4 y4.length vc4)] := (HA4.out.call hbn).set 12 (.slice va4 y4.length vc4)
  have hZ := (HZ4.out.call hbn).setO ⟨g, 12, none⟩ (.slice va4 y4.length vc4) (show g + 1 ≠ g by omega)
  have HB6 := Lib.hid ((bthen HB5.out hbn).setCell (p := ⟨g, 12, none⟩) HG.out (.slice va4 y4.length vc4))
  have HO1 := Lib.hid ((HO1.out.call hbn).same (heap_set1 _ g 12 (.slice va4 y4.length vc4) _ HGB1.out.1))
  have HO2 := Lib.hid ((HO2.out.call hbn).same (heap_set1 _ g 12 (.slice va4 y4.length vc4) _ HGB2.out.1))
  have HO3 := Lib.hid ((HO3.out.call hbn).same (heap_set1 _ g 12 (.slice va4 y4.length vc4) _ HGB3.out.1))
  have HO4 := Lib.hid (hon.same (heap_set1 _ g 12 (.slice va4 y4.length vc4) _ (show g < wx3.heap.size by rw [HBS4.out]; exact HGB4.out.1)))
  rw [HBS4.out] at HO4
  clear hon hbn c0 d0 c1 d1 c2 d2 c3 d3 c4 d4 c5 d5 c6 d6 c7 d7 c8 d8 c9 d9 c10 d10 c11 d11 c12 d12 f0
  generalize wn.setCell ⟨g, 12, none⟩ (.slice va4 y4.length vc4) = wx4 at *
  have HA5 := Lib.hid hA
  have HZ5 := Lib.hid hZ
  obtain ⟨c0, c1, c2, c3, c4, c5, c6, c7, c8, c9, c10, c11, c12⟩ := hA.cells13
  obtain ⟨d0, d1, d2, d3, d4, d5, d6, d7, d8, d9, d10, d11, d12⟩ := hZ.cells13
  have f0 := hZ.frozen 0
  have f1 := hZ.frozen 1
  have f2 := hZ.frozen 2
  have f3 := hZ.frozen 3
  have f4 := hZ.frozen 4
  have f5 := hZ.frozen 5
  have f6 := hZ.frozen 6
  have f7 := hZ.frozen 7
  have f8 := hZ.frozen 8
  have f9 := hZ.frozen 9
  have f10 := hZ.frozen 10
  have f11 := hZ.frozen 11
  have f12 := hZ.frozen 12
  clear hA hZ
  go_wp2_with fail
  generalize hWF : (((((((((((((wx4.setCell ⟨g + 1, 0, none⟩ (.slice va1 y1.length vc1)).setCell ⟨g + 1, 1, none⟩ (.string n.recv)).setCell ⟨g + 1, 2, none⟩ (.slice ma n.ms.length mc)).setCell ⟨g + 1, 3, none⟩ (.slice ba n.bys.length bc)).setCell ⟨g + 1, 4, none⟩ (.int .i64 n.wait)).setCell ⟨g + 1, 5, none⟩ (.int .i64 n.every)).setCell ⟨g + 1, 6, none⟩ (.int .i64 n.rep)).setCell ⟨g + 1, 7, none⟩ (.slice ma2 n.mute.length mc2)).setCell ⟨g + 1, 8, none⟩ (.bool n.on)).setCell ⟨g + 1, 9, none⟩ (.slice ka n.kids.length kc)).setCell ⟨g + 1, 10, none⟩ (.slice va2 y2.length vc2)).setCell ⟨g + 1, 11, none⟩ (.slice va3 y3.length vc3)).setCell ⟨g + 1, 12, none⟩ (.slice va4 y4.length vc4)) = WF
  obtain ⟨s1, s2, s3⟩ := st13 HZ5.out (.slice va1 y1.length vc1) (.string n.recv) (.slice ma n.ms.length mc) (.slice ba n.bys.length bc) (.int .i64 n.wait) (.int .i64 n.every) (.int .i64 n.rep) (.slice ma2 n.mute.length mc2) (.bool n.on) (.slice ka n.kids.length kc) (.slice va2 y2.length vc2) (.slice va3 y3.length vc3) (.slice va4 y4.length vc4) WF hWF.symm
  clear hWF c0 d0 f0 c1 d1 f1 c2 d2 f2 c3 d3 f3 c4 d4 f4 c5 d5 f5 c6 d6 f6 c7 d7 f7 c8 d8 f8 c9 d9 f9 c10 d10 f10 c11 d11 f11 c12 d12 f12
  have hbe := s3 w.heap.size (by have := HG.out; omega) w HB6.out
  have hgs := s3 w.heap.size (by have := HG.out; omega) w HB6.out
  have hok : ∀ W, Keep B0 w WF W → (⟨y1, va1, vc1, ⟨n, ma, mc, ba, bc, ma2, mc2, ka, kc⟩, y2, va2, vc2, y3, va3, vc3, y4, va4, vc4⟩ : CfA).ok W := by
    intro W ⟨hw1, hw2, hw3⟩
    have hwb : w.heap.size ≤ b1 ∧ w.heap.size ≤ b2 ∧ w.heap.size ≤ b3 ∧ w.heap.size ≤ b4 := by
      have h1 := HGB1.out.1
      have h2 := HGB2.out.1
      have h3 := HGB3.out.1
      have h4 := HGB4.out.1
      have h5 := HG.out
      omega
    have o1 := (HO1.out.same (fun q hq => s2 q (by have := HGB1.out.2; omega))).sameL (fun q hq hz => hw3 q (by omega) hz)
    have o2 := (HO2.out.same (fun q hq => s2 q (by have := HGB2.out.2; omega))).sameL (fun q hq hz => hw3 q (by omega) hz)
    have o3 := (HO3.out.same (fun q hq => s2 q (by have := HGB3.out.2; omega))).sameL (fun q hq hz => hw3 q (by omega) hz)
    have o4 := (HO4.out.same (fun q hq => s2 q (by have := HGB4.out.2; omega))).sameL (fun q hq hz => hw3 q (by omega) hz)
    obtain ⟨k1, k2, k3, k4, k5⟩ := HK.out W hw1
    obtain ⟨_, _, e1, r1⟩ := o1.row (ok := RuA.ok) RuA.enc_len (fun x hx => k1.2.2.1 x (HS1.out.2.1.mem_iff.1 hx))
    obtain ⟨_, _, e2, r2⟩ := o2.strs (fun s hs => k3.2.2.1 s ((sortS_mem (by rw [HS2.out]; exact hs))))
    obtain ⟨_, _, e3, r3⟩ := o3.row (ok := InA.ok) InA.enc_len (fun x hx => k4.2.2.1 x (HS3.out.1.1.mem_iff.1 (compI_mem (by rw [HS3.out.2]; exact hx))))
    obtain ⟨_, _, e4, r4⟩ := o4.row (ok := HrA.ok) HrA.enc_len (fun x hx => k5.2.2.1 x (HS4.out.2.1.mem_iff.1 hx))
    simp only [Value.slice.injEq] at e1 e2 e3 e4
    obtain ⟨rfl, _, rfl⟩ := e1
    obtain ⟨rfl, _, rfl⟩ := e2
    obtain ⟨rfl, _, rfl⟩ := e3
    obtain ⟨rfl, _, rfl⟩ := e4
    exact ⟨r1, k2, r2, r3, r4⟩
  refine bodyPost_ret (v := .tuple #[.agg #[(.slice va1 y1.length vc1), .string n.recv, .slice ma n.ms.length mc, .slice ba n.bys.length bc, .int .i64 n.wait, .int .i64 n.every, .int .i64 n.rep, .slice ma2 n.mute.length mc2, .bool n.on, .slice ka n.kids.length kc, (.slice va2 y2.length vc2), (.slice va3 y3.length vc3), (.slice va4 y4.length vc4)], .int .i64 0]) ?_ rfl ?_
  · refine (results_cell_tmpC rfl _ _ (g + 1) _ #[(.slice va1 y1.length vc1), .string n.recv, .slice ma n.ms.length mc, .slice ba n.bys.length bc, .int .i64 n.wait, .int .i64 n.every, .int .i64 n.rep, .slice ma2 n.mute.length mc2, .bool n.on, .slice ka n.kids.length kc, (.slice va2 y2.length vc2), (.slice va3 y3.length vc3), (.slice va4 y4.length vc4)] _ _ ?_ s1 Tryz.underlying31 rfl (by kernel_rfl)).trans ?_
    · rfl
    · rfl
  · rw [HQ.out]
    exact ⟨hbe, .inl ⟨HBB.out, ⟨y1, va1, vc1, ⟨n, ma, mc, ba, bc, ma2, mc2, ka, kc⟩, y2, va2, vc2, y3, va3, vc3, y4, va4, vc4⟩, rfl, hok, rfl, HS1.out.2, HS2.out.symm, ⟨_, HS3.out.1, HS3.out.2.symm⟩, HS4.out.2⟩⟩
end Go.Proofs.YtkgnapojkijbgaaGreat
