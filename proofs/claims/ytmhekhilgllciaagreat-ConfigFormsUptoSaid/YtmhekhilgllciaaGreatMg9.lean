/- slices.SortFunc of twelve inhibits or fewer. -/
import Derived.Test.YtmhekhilgllciaaGreatMg8
namespace Go.Proofs.YtmhekhilgllciaaGreat
open Go.RowKit Go.Sort Go.Lib Go.Shelf
set_option maxHeartbeats 3200000 in
set_option maxRecDepth 100000 in
theorem pdqI_any (base g cap f n : Nat) (l : Int) (xs : List InA) (d : Array InA) (w : World) (hn : d.size = n) (h : OwnX 51 3 InA.enc w base (.slice (some ⟨g, 0, none⟩) n cap) d.toList) (hin : ∀ i, i < n → d[i]! ∈ xs) (hc : CmpOf xs base f w) (h8 : n ≤ 12) :
    Calls Tryz.prog 111 #[.slice (some ⟨g, 0, none⟩) n cap, .int .i64 0, .int .i64 n, .int .i64 l, .func (.func 64) #[] #[.pointer (some ⟨f, 0, none⟩)]] w
      (fun e w' => e = .returned (.tuple #[]) ∧ OwnX 51 3 InA.enc w' base (.slice (some ⟨g, 0, none⟩) n cap) (Sort.insertionSort (ltOf (cmpN inhT)) d 0 n).toList ∧ Below base w w') := by
  have HI := Lib.hid (insI_any base g cap f n xs d w hn h hin hc (by omega))
  have hz : (n : Int) ≤ 12 := by omega
  clear h hin hc
  go_enter Tryz.func111, Tryz.ntmps111
  go_wp2
  refine wp_loop_rounds 1 ?_
  rw [rounds_succ]
  go_wp2_with (go_at_call 160; refine HI.out.mono ?_; rintro e w2 ⟨rfl, ho, hb⟩)
  (try simp only [Exit.inBlock, Exit.then]); refine bodyPost_ret (results_none rfl _ _ _) rfl ?_
  exact ⟨rfl, ho, hb⟩
end Go.Proofs.YtmhekhilgllciaaGreat
/- slices.SortFunc of twelve inhibits or fewer. -/
namespace Go.Proofs.YtmhekhilgllciaaGreat
open Go.RowKit Go.Sort Go.Lib Go.Shelf
set_option maxHeartbeats 3200000 in
set_option maxRecDepth 100000 in
theorem sort1I_any (base g cap f : Nat) (xs : List InA) (w : World) (h : OwnX 51 3 InA.enc w base (.slice (some ⟨g, 0, none⟩) xs.length cap) xs) (hc : CmpOf xs base f w) (h8 : xs.length ≤ 12) :
    Calls Tryz.prog 63 #[.slice (some ⟨g, 0, none⟩) xs.length cap, .func (.func 64) #[] #[.pointer (some ⟨f, 0, none⟩)]] w
      (fun e w' => e = .returned (.tuple #[]) ∧ ∃ ys, ys.length = xs.length ∧ SortedN inhT xs ys ∧ OwnX 51 3 InA.enc w' base (.slice (some ⟨g, 0, none⟩) xs.length cap) ys ∧ Below base w w') := by
  have hp := fun l => pdqI_any base g cap f xs.length l xs xs.toArray w (by simp) h (fun i hi => by simp [hi]) hc h8
  have hs := insertionSort_holds (lt := ltOf (cmpN inhT)) (swo_cmpN inhT) xs.toArray 0 xs.toArray.size (Nat.zero_le _) (Nat.le_refl _)
  have hr := sortedN_of inhT xs (Sort.insertionSort (ltOf (cmpN inhT)) xs.toArray 0 xs.toArray.size) hs.1 hs.2
  rw [show xs.toArray.size = xs.length by simp] at hr
  have HR := Lib.hid hr
  generalize Sort.insertionSort (ltOf (cmpN inhT)) xs.toArray 0 xs.length = D at *
  have HL := Lib.hid (fun W => show Calls Tryz.prog 108 #[.int .u64 (xs.length : Int)] W (fun e w' => (∃ l : Int, e = .returned (.int .i64 l)) ∧ W = w') from (Tryz.bits_Len (xs.length : Int) W (by omega) (by omega)).mono fun e w' ⟨he, hw⟩ => ⟨⟨_, he⟩, hw.symm⟩)
  have HP := Lib.hid hp
  have hz : (0 : Int) ≤ (xs.length : Int) := by omega
  have hz2 : (xs.length : Int) ≤ 12 := by omega
  have hzw : IntKind.u64.wrap (xs.length : Int) = (xs.length : Int) := by rw [IntKind.wrap_u64]; omega
  clear h hc hp hs hr
  go_enter Tryz.func63, Tryz.ntmps63
  go_wp2_with (first
    | (go_at_call 108; refine (HL.out _).mono ?_; rintro e w2 ⟨⟨l, rfl⟩, rfl⟩)
    | (go_at_call 111; refine (HP.out _).mono ?_; rintro e w3 ⟨rfl, ho, hb⟩))
  go_end0
  exact ⟨rfl, D.toList, HR.out.1, HR.out.2, ho, hb⟩
end Go.Proofs.YtmhekhilgllciaaGreat
/- The contract of config.sorted of inhibits. -/
namespace Go.Proofs.YtmhekhilgllciaaGreat
open Go.RowKit Go.Sort Go.Lib Go.Shelf

theorem Tryz.infoIn : (Tryz.prog.info? 51).map (fun i => (i.zero, i.size, i.bytes)) = some (some (.agg #[.slice none 0 0, .slice none 0 0, .slice none 0 0]), 3, 72) := by kernel_rfl
theorem info_partsIn {x : Option TypeInfo} (h : x.map (fun i => (i.zero, i.size, i.bytes)) = some (some (.agg #[.slice none 0 0, .slice none 0 0, .slice none 0 0]), 3, 72)) : ∃ i, x = some i ∧ i.zero = some (.agg #[.slice none 0 0, .slice none 0 0, .slice none 0 0]) ∧ i.size = 3 ∧ i.bytes = 72 := by
  cases x with
  | none => cases h
  | some i => simp at h; exact ⟨i, rfl, h.1, h.2.1, h.2.2⟩
set_option maxHeartbeats 1600000 in
set_option maxRecDepth 100000 in
theorem clone0I_any (a : Addr) (c : Nat) (w : World) : Calls Tryz.prog 62 #[.slice (some a) 0 c] w (fun e w' => ∃ v, e = .returned v ∧ OwnX 51 3 InA.enc w' w.heap.size v ([] : List InA) ∧ Below w.heap.size w w') := by
  obtain ⟨i0, hi, hz0, hz1, hz2⟩ := info_partsIn Tryz.infoIn
  have q22 : ∀ (w : World) (a : Option Addr) (n c n' c' : Nat), (binOp .eql 28 (.slice a n c) (.slice none n' c')).run Tryz.prog w = .ok (.bool a.isNone) w := fun w a n c n' c' => Lib.run_eql_slice_nil w _ _ a n c n' c' Tryz.underlying28
  go_enter Tryz.func62, Tryz.ntmps62
  go_wp2_with (refine wpList_append_own _ (by rfl) (.tmp 5) (.tmp 6) 28 (by rfl) w.heap.size 51 i0 (.agg #[.slice none 0 0, .slice none 0 0, .slice none 0 0]) 3 72 Tryz.underlying28 hi hz0 hz1 hz2 rfl (by omega) (.slice (some ⟨w.heap.size, 0, none⟩) 0 0) 0 [] (by rfl) (World.ownsRow_made w #[] 0 (Nat.le_refl _) (by unfold maxLen; omega) (by simp)) a 0 c [] (by rfl) (by rfl) (by intro j u hj; simp at hj) (by intro u hu; cases hu) (by unfold maxLen; omega) (by omega) (by simp) ?_; intro v' w1 hown hgrow hnil)
  go_ret
  refine ⟨v', rfl, by simpa [OwnX, rowV] using hown, ?_⟩
  exact ((Below.refl _ w).alloc (Nat.le_refl _) _).grown hgrow (by simp) (by intro k hk; simp [Value.ownBlock] at hk; omega)
theorem cloneI_any (a : Option Addr) (c : Nat) (xs : List InA) (w : World) (h : HasInhs w a c xs) (h8 : xs.length ≤ 1000000) :
    Calls Tryz.prog 62 #[.slice a xs.length c] w (fun e w' => ∃ v, e = .returned v ∧ OwnX 51 3 InA.enc w' w.heap.size v xs ∧ Below w.heap.size w w') := by
  obtain ⟨i0, hi, hz0, hz1, hz2⟩ := info_partsIn Tryz.infoIn
  obtain ⟨h1, h2, h3, h4⟩ := h
  rcases h4 with rfl | ⟨b, off, rfl, hb, hc⟩
  · cases a with
    | none => exact (show Calls Tryz.prog 62 _ _ _ from AnyE.slices_Clone_nil Tryz.cloneI 0 c w).mono fun e w' ⟨he, hw⟩ => ⟨_, he, by rw [hw]; exact OwnX.nil _ _ _, by rw [hw]; exact Below.refl _ _⟩
    | some a => exact clone0I_any a c w
  · refine (show Calls Tryz.prog 62 _ _ _ from AnyE.slices_Clone Tryz.cloneI i0 _ 3 72 hi hz0 hz1 hz2 rfl (by omega) Tryz.sizeOf51 b off xs.length c (rowV InA.enc xs) w (rowV_len InA.enc_len xs) (by unfold maxLen; omega) (by omega) (HasRow.flat (_ok := InA.ok) (_c := c) InA.enc_len (by omega) hc) (fun u hu => ?_)).mono fun e w' ⟨v, he, ho, _, hb⟩ => ⟨v, he, ho, hb⟩
    obtain ⟨x, _, h⟩ := List.mem_flatMap.1 hu
    exact InA.enc_one x u h
set_option maxHeartbeats 1600000 in
set_option maxRecDepth 100000 in
theorem ins0I_any (a : Option Addr) (cap : Nat) (fv : Value) (w : World) : Calls Tryz.prog 160 #[.slice a 0 cap, .int .i64 0, .int .i64 0, fv] w (fun e w' => e = .returned (.tuple #[]) ∧ w' = w) := by
  go_enter Tryz.func160, Tryz.ntmps160
  go_wp2
  refine wp_loop_rounds 1 ?_
  rw [rounds_succ]
  go_wp2
  go_end0
  exact ⟨rfl, rfl⟩
set_option maxHeartbeats 1600000 in
set_option maxRecDepth 100000 in
theorem pdq0I_any (a : Option Addr) (cap : Nat) (l : Int) (fv : Value) (w : World) : Calls Tryz.prog 111 #[.slice a 0 cap, .int .i64 0, .int .i64 0, .int .i64 l, fv] w (fun e w' => e = .returned (.tuple #[]) ∧ w' = w) := by
  have HI := Lib.hid (ins0I_any a cap fv)
  go_enter Tryz.func111, Tryz.ntmps111
  go_wp2
  refine wp_loop_rounds 1 ?_
  rw [rounds_succ]
  go_wp2_with (go_at_call 160; refine (HI.out _).mono ?_; rintro e w2 ⟨rfl, rfl⟩)
  (try simp only [Exit.inBlock, Exit.then]); refine bodyPost_ret (results_none rfl _ _ _) rfl ?_
  exact ⟨rfl, rfl⟩
set_option maxHeartbeats 1600000 in
set_option maxRecDepth 100000 in
theorem sort0I_any (a : Option Addr) (cap : Nat) (fv : Value) (w : World) : Calls Tryz.prog 63 #[.slice a 0 cap, fv] w (fun e w' => e = .returned (.tuple #[]) ∧ w' = w) := by
  have HP := Lib.hid (fun l => pdq0I_any a cap l fv)
  have HL := Lib.hid (fun W => show Calls Tryz.prog 108 #[.int .u64 0] W (fun e w' => (∃ l : Int, e = .returned (.int .i64 l)) ∧ W = w') from (Tryz.bits_Len 0 W (by omega) (by omega)).mono fun e w' ⟨he, hw⟩ => ⟨⟨_, he⟩, hw.symm⟩)
  go_enter Tryz.func63, Tryz.ntmps63
  go_wp2_with (first
    | (go_at_call 108; refine (HL.out _).mono ?_; rintro e w2 ⟨⟨l, rfl⟩, rfl⟩)
    | (go_at_call 111; refine (HP.out _ _).mono ?_; rintro e w3 ⟨rfl, rfl⟩))
  go_end0
  exact ⟨rfl, rfl⟩
/-- what config.sorted of these answers -/
def SrtI (xs : List InA) (w : World) (e : Ending) (w' : World) : Prop := ∃ v ys, e = .returned v ∧ ys.length = xs.length ∧ SortedN inhT xs ys ∧ OwnX 51 3 InA.enc w' w.heap.size v ys ∧ Below w.heap.size w w'
set_option maxHeartbeats 3200000 in
set_option maxRecDepth 100000 in
theorem srtI_any (a : Option Addr) (c : Nat) (xs : List InA) (w : World) (h : HasInhs w a c xs) (h8 : xs.length ≤ 12) (hl : ∀ x ∈ xs, x.s.length ≤ 1000000 ∧ x.t.length ≤ 1000000) :
    Calls Tryz.prog 20 #[.slice a xs.length c, .func (.func 21) #[] #[]] w (SrtI xs w) := by
  have hb := (Below.refl w.heap.size w).alloc (Nat.le_refl _) (.cells #[.func (.func 21) #[] #[]] 53)
  have hB := Blk.new w 53 #[.func (.func 21) #[] #[]]
  have hz : (w.alloc (.cells #[.func (.func 21) #[] #[]] 53)).heap.size = w.heap.size + 1 := by simp
  have hcl := cloneI_any a c xs _ (h.keep hb) (by omega)
  have hfit : ∀ x ∈ xs, InA.fit w x := fun x hx => ⟨h.2.2.1 x hx, hl x hx⟩
  have hs1 := fun (g cap : Nat) W (ho : OwnX 51 3 InA.enc W (w.heap.size + 1) (.slice (some ⟨g, 0, none⟩) xs.length cap) xs) (hf : Blk W w.heap.size 53 #[.func (.func 21) #[] #[]]) (hW : Below w.heap.size w W) => sort1I_any (w.heap.size + 1) g cap w.heap.size xs W ho (fun W2 hb2 x hx y hy => cmpI_any x y w.heap.size W2 ((hfit x hx).call (hW.trans (hb2.mono (Nat.le_succ _)))) ((hfit y hy).call (hW.trans (hb2.mono (Nat.le_succ _)))) ((hb2.block _ (Nat.lt_succ_self _)).trans hf)) h8
  have hs0 := fun a cap W => sort0I_any a cap (.func (.func 64) #[] #[.pointer (some ⟨w.heap.size, 0, none⟩)]) W
  have HB := Lib.hid hb
  have HCL := Lib.hid hcl
  have HS1 := Lib.hid hs1
  have HS0 := Lib.hid hs0
  have HBB := Lib.hid hB
  clear hb hcl hs1 hs0 hB h hfit hl
  go_enter Tryz.func20, Tryz.ntmps20
  go_upto_region 1 with fail
  obtain ⟨f, hf⟩ : ∃ f, w.heap.size = f := ⟨_, rfl⟩
  generalize w.alloc (.cells #[.func (.func 21) #[] #[]] 53) = wx at *
  have HF := Lib.hid hf
  rw [hf] at HBB HS1 HS0 hz ⊢
  clear hf
  go_upto_region 2 with (go_at_call 62; refine HCL.out.mono ?_; rintro e w2 ⟨v, rfl, ho2, hb2⟩)
  have hB2 := HBB.out.call hb2
  rw [hz] at ho2
  have hbb := HB.out.trans (hb2.mono HB.out.size)
  rcases ho2.2 with ⟨rfl, h0⟩ | ⟨g1, cap, cur, rfl, _, _, _, _, _, _⟩
  · obtain rfl : xs = [] := List.eq_nil_of_length_eq_zero h0
    have HBB2 := Lib.hid hbb
    clear hB2 hbb ho2
    go_wp2_with (go_at_call 63; refine (HS0.out _ _ _).mono ?_; rintro e w3 ⟨rfl, rfl⟩)
    go_ret
    exact ⟨_, [], rfl, rfl, ⟨.refl _, .nil⟩, OwnX.nil _ _ _, HBB2.out⟩
  · have hcall := HS1.out g1 cap w2 ho2 hB2 (HF.out ▸ hbb)
    have HCA := Lib.hid hcall
    have HBB2 := Lib.hid hbb
    clear hB2 hbb ho2 hcall
    go_wp2_with (go_at_call 63; refine HCA.out.mono ?_; rintro e w3 ⟨rfl, ys, hl3, hs3, ho3, hb3⟩)
    go_ret
    have hff := HF.out
    exact ⟨_, ys, rfl, hl3, hs3, ho3.base (by omega), HBB2.out.trans (hb3.mono (by omega))⟩
end Go.Proofs.YtmhekhilgllciaaGreat
/- Rows of structs of the call's own: a store of a whole struct, a clearing of what lies behind; lists without neighbours that are the same. -/
namespace Go.Proofs.YtmhekhilgllciaaGreat
open Go.RowKit Go.Sort Go.Lib Go.Shelf

section
variable {A : Type} [Inhabited A] {enc : A → List Value} {k : Nat}
theorem OwnX.lay {T : TypeId} {w : World} {base g cap n : Nat} {d : Array A} (hk : ∀ x, (enc x).length = k) (hn : d.size = n) (h : OwnX T k enc w base (.slice (some ⟨g, 0, none⟩) n cap) d.toList) (s : Nat) (vs : List Value) (hs : s + vs.length ≤ n * k) (ys : List A) (hm : ys.length ≤ n)
    (hy : ∀ t, t < ys.length * k → (setMany (flatK enc k d) s vs)[t]! = (flatK enc k ys.toArray)[t]!) :
    OwnX T k enc (w.setCells g s vs) base (.slice (some ⟨g, 0, none⟩) ys.length cap) ys ∧ Below base w (w.setCells g s vs) := by
  subst hn
  have h' : OwnX T k enc w base (.slice (some ⟨g, 0, none⟩) d.toList.length cap) d.toList := by simpa using h
  have hH := h'.holds hk
  rw [show d.toList.toArray = d by simp] at hH
  have hlt := (World.ownsRow.lt h' g rfl)
  have e : w.setCells g (0 + s) vs = putRow id w g 0 (setMany (flatK enc k d) s vs) := by
    have e1 := putRow_self id w g 0 (flatK enc k d) hH
    have e2 := setCells_putRow w g 0 vs s (flatK enc k d) (by simpa using hs)
    rw [e1] at e2
    exact e2
  rw [Nat.zero_add] at e
  rw [e]
  rcases h'.2 with ⟨hv, _⟩ | ⟨g1, c1, cur, hv, hb, hg, hn, hm', hcs, ht⟩
  · cases hv
  · simp only [Value.slice.injEq, Option.some.injEq, Addr.mk.injEq] at hv
    obtain ⟨⟨rfl, _, _⟩, _, rfl⟩ := hv
    have hne : ∀ q, q < base → (putRow id w g 0 (setMany (flatK enc k d) s vs)).heap[q]? = w.heap[q]? := fun q hq => by
      simp [putRow, mapBlock, Array.getElem?_modify, show g ≠ q by omega]
    refine ⟨?_, ⟨rfl, rfl, rfl, by simp, hne⟩⟩
    unfold OwnX
    have hfl := rowV_len hk ys
    have hn2 : d.size ≤ cap := by simpa using hn
    refine ⟨hfl, .inr ⟨g, cap, putCells id 0 (setMany (flatK enc k d) s vs) cur, rfl, hb, ?_, by omega, hm', by simp [putCells, hcs], ?_⟩⟩
    · simp [putRow, mapBlock, Array.getElem?_modify, hg, onCells]
    · have hcap : ys.length * k ≤ cap * k := Nat.mul_le_mul_right k (by omega)
      have hyd : ys.length * k ≤ d.size * k := Nat.mul_le_mul_right k hm
      apply List.ext_getElem?
      intro j
      rcases Nat.lt_or_ge j (ys.length * k) with hj | hj
      · have h2 : j < cur.size := by rw [hcs]; omega
        have h3 : j < (rowV enc ys).length := by rw [hfl]; exact hj
        rw [List.getElem?_take_of_lt hj]
        simp only [putCells, Array.getElem?_toList, Array.getElem?_mapIdx, Array.getElem?_eq_getElem h2, Option.map_some]
        rw [if_pos ⟨Nat.zero_le _, by simp; omega⟩, Nat.sub_zero, hy j hj, flat_row hk]
        simp [h3]
      · rw [List.getElem?_eq_none (by simp; omega), List.getElem?_eq_none (by rw [hfl]; omega)]
theorem OwnX.put {T : TypeId} {w : World} {base g cap n : Nat} {d : Array A} (hk : ∀ x, (enc x).length = k) (k0 : 0 < k) (hn : d.size = n) (h : OwnX T k enc w base (.slice (some ⟨g, 0, none⟩) n cap) d.toList) (i : Nat) (hi : i < n) (x : A) :
    OwnX T k enc (w.setCells g (i * k) (enc x)) base (.slice (some ⟨g, 0, none⟩) n cap) (d.setIfInBounds i x).toList ∧ Below base w (w.setCells g (i * k) (enc x)) := by
  subst hn
  have hb : i * k + k ≤ d.size * k := by have := Nat.mul_le_mul_right k (show i + 1 ≤ d.size from hi); rwa [Nat.add_mul, Nat.one_mul] at this
  have := OwnX.lay hk rfl h (i * k) (enc x) (by rw [hk]; exact hb) (d.setIfInBounds i x).toList (by simp) (fun t ht => ?_)
  · simpa using this
  · have ht' : t < d.size * k := by simpa using ht
    rw [get_setMany _ _ _ _ (by simpa using ht'), hk]
    rw [Array.toArray_toList, get_flatK _ _ (d.setIfInBounds i x) t (by simpa using ht'), get_flatK _ _ d t ht']
    have hq := Nat.div_add_mod t k
    have hm := Nat.mod_lt t k0
    by_cases hc : t / k = i
    · have e : k * (t / k) = i * k := by rw [hc, Nat.mul_comm]
      rw [if_pos ⟨by omega, by omega⟩, hc, getElem!_set_same d i x hi]
      congr 1
      omega
    · rw [getElem!_set_other d i (t / k) x hc]
      rw [if_neg]
      rintro ⟨h1, h2⟩
      exact hc (Nat.div_eq_of_lt_le (by omega) (by rw [Nat.add_mul, Nat.one_mul]; omega))
theorem OwnX.cut {T : TypeId} {w : World} {base g cap n m : Nat} {d : Array A} (hk : ∀ x, (enc x).length = k) (hn : d.size = n) (h : OwnX T k enc w base (.slice (some ⟨g, 0, none⟩) n cap) d.toList) (hm : m ≤ n) (z : Value) :
    OwnX T k enc (w.setCells g (m * k) (List.replicate ((n - m) * k) z)) base (.slice (some ⟨g, 0, none⟩) m cap) (d.toList.take m) ∧ Below base w (w.setCells g (m * k) (List.replicate ((n - m) * k) z)) := by
  subst hn
  have hmk : m * k ≤ d.size * k := Nat.mul_le_mul_right k hm
  have hsz : m * k + (d.size - m) * k = d.size * k := by rw [← Nat.add_mul]; congr 1; omega
  have hl : (d.toList.take m).length = m := by simp; omega
  have := OwnX.lay hk rfl h (m * k) (List.replicate ((d.size - m) * k) z) (by simp; omega) (d.toList.take m) (by rw [hl]; exact hm) (fun t ht => ?_)
  · rwa [hl] at this
  · rw [hl] at ht
    rw [get_setMany _ _ _ _ (by simp; omega), if_neg (by omega)]
    have k0 : 0 < k := by rcases Nat.eq_zero_or_pos k with h | h; · subst h; simp at ht
                          · exact h
    have hi : t / k < m := (Nat.div_lt_iff_lt_mul k0).2 ht
    rw [get_flatK _ _ d t (by omega), get_flatK _ _ (d.toList.take m).toArray t (by rw [show (d.toList.take m).toArray.size = (d.toList.take m).length from rfl, hl]; exact ht)]
    congr 2
    have hi2 : t / k < d.size := by omega
    simp [hi, hi2]
end
theorem zeroCells_rep (z v : Value) (k n : Nat) (hz : z.cells = Array.replicate k v) (k0 : 0 < k) : (Builtin.zeroCells z.cells n).toList = List.replicate (n * k) v := by
  rw [hz]
  apply List.ext_getElem
  · simp [Builtin.zeroCells]
  · intro i h1 h2
    have hm := Nat.mod_lt i k0
    simp [Builtin.zeroCells, hm]

/-- 'clear' of elements of k cells, each of which is the zero value's -/
theorem run_clear_k {P : Program} (w : World) (t e ty : TypeId) (z v : Value) (k : Nat) (k0 : 0 < k) (ht : P.underlying t = some (.slice e)) (hv : ∀ w, (zeroValue e).run P w = .ok z w) (hz : z.cells = Array.replicate k v) (h1 : v.oneCell' = true) (b o n c : Nat) (hn : 0 < n)
    (hc : ∀ j, j < n * k → (w.cell? ⟨b, o + j, none⟩).isSome = true) (hf : ∀ j, j < n * k → w.frozen? ⟨b, o + j, none⟩ = false) :
    (Builtin.clear_ #[t] ty #[.slice (some ⟨b, o, none⟩) n c]).run P w = .ok (.tuple #[]) (w.setCells b o (List.replicate (n * k) v)) := by
  have hzc := zeroCells_rep z v k n hz k0
  have hst := run_storeCells_cells (P := P) b o (List.replicate (n * k) v) 0 w (by simpa using hc) (by simpa using hf) (by intro u hu; rw [List.eq_of_mem_replicate hu]; exact h1)
  simp only [Nat.add_zero] at hst
  obtain ⟨m, rfl⟩ : ∃ m, n = m + 1 := ⟨n - 1, by omega⟩
  simp [Builtin.clear_, run_underlying ht, hv, hzc, hst]
/-- what stays of inhibits behind one of them: those that are not the same as the one ahead of them -/
noncomputable def compG (p : InA) : List InA → List InA
  | [] => []
  | y :: r => if eqB (likeI y p) = true then compG y r else y :: compG y r
noncomputable def compI : List InA → List InA
  | [] => []
  | x :: r => x :: compG x r
theorem compG_snoc (l : List InA) (p y : InA) : compG p (l ++ [y]) = compG p l ++ (if eqB (likeI y ((p :: l).getLast (by simp))) = true then [] else [y]) := by
  induction l generalizing p with
  | nil =>
    by_cases h : eqB (likeI y p) = true <;> simp [compG, h]
  | cons x l ih =>
    simp only [List.cons_append, compG, ih x, List.getLast_cons (show x :: l ≠ [] by simp)]
    split
    · rfl
    · rfl
theorem compI_snoc (l : List InA) (y : InA) (h : l ≠ []) : compI (l ++ [y]) = compI l ++ (if eqB (likeI y (l.getLast h)) = true then [] else [y]) := by
  cases l with
  | nil => exact absurd rfl h
  | cons x l => simp only [List.cons_append, compI, compG_snoc]
theorem compI_take (xs : List InA) (i : Nat) (h : i + 1 < xs.length) (B : Bool) (hB : eqB (likeI xs[i + 1] xs[i]) = B) : compI (xs.take (i + 2)) = compI (xs.take (i + 1)) ++ (if B = true then [] else [xs[i + 1]]) := by
  have hne : xs.take (i + 1) ≠ [] := by
    intro e
    have h1 : (xs.take (i + 1)).length = i + 1 := by rw [List.length_take]; omega
    rw [e] at h1
    cases h1
  rw [List.take_succ_eq_append_getElem h, compI_snoc _ _ hne]
  have hl : (xs.take (i + 1)).getLast hne = xs[i] := by
    rw [List.getLast_eq_getElem]
    simp only [List.length_take, List.getElem_take]
    have : min (i + 1) xs.length - 1 = i := by omega
    simp only [this]
  rw [hl, hB]
theorem compG_len (l : List InA) (p : InA) : (compG p l).length ≤ l.length := by
  induction l generalizing p with
  | nil => simp [compG]
  | cons x l ih =>
    simp only [compG]
    split
    · have := ih x; simp; omega
    · have := ih x; simp; omega
theorem compI_len (l : List InA) : (compI l).length ≤ l.length := by
  cases l with
  | nil => simp [compI]
  | cons x l => have := compG_len l x; simp [compI]; omega
end Go.Proofs.YtmhekhilgllciaaGreat
/- slices.CompactFunc of inhibits by likeInhibit, in place. -/
namespace Go.Proofs.YtmhekhilgllciaaGreat
open Go.RowKit Go.Sort Go.Lib Go.Shelf

/-- what a compaction asks of the comparison -/
def LikeOf (xs : List InA) (base : Nat) (w : World) : Prop := ∀ W, Below base w W → ∀ x ∈ xs, ∀ y ∈ xs,
  Calls Tryz.prog 22 #[.agg #[.slice x.sa x.s.length x.sc, .slice x.ta x.t.length x.tc, .slice x.ea x.e.length x.ec], .agg #[.slice y.sa y.s.length y.sc, .slice y.ta y.t.length y.tc, .slice y.ea y.e.length y.ec]] W (BoolB (eqB (likeI x y)) W)
theorem set3_cells (w : World) (g p : Nat) (a b c : Value) : w.setCells g p [a, b, c] = ((w.setCell ⟨g, p, none⟩ a).setCell ⟨g, p + 1, none⟩ b).setCell ⟨g, p + 2, none⟩ c := by
  simp only [World.setCells]
/-- what the second loop keeps -/
def CmpInv (xs : List InA) (m kk : Nat) (dj : Array InA) : Prop := dj.size = xs.length ∧ kk < m ∧ dj.toList.take kk = compI (xs.take m) ∧ ∀ i (h : i < xs.length), m - 1 ≤ i → dj[i]! = xs[i]
theorem CmpInv.skip {xs : List InA} {m kk : Nat} {dj : Array InA} (h : CmpInv xs (m + 1) kk dj) (hm : m + 1 < xs.length) (hB : eqB (likeI xs[m + 1] xs[m]) = true) : CmpInv xs (m + 2) kk dj := by
  obtain ⟨h1, h2, h3, h4⟩ := h
  refine ⟨h1, by omega, ?_, fun i hi hm => h4 i hi (by omega)⟩
  rw [compI_take xs m hm true hB, h3]
  simp
theorem CmpInv.keep {xs : List InA} {m kk : Nat} {dj : Array InA} (h : CmpInv xs (m + 1) kk dj) (hm : m + 1 < xs.length) (hB : eqB (likeI xs[m + 1] xs[m]) = false) : CmpInv xs (m + 2) (kk + 1) (dj.setIfInBounds kk xs[m + 1]) := by
  obtain ⟨h1, h2, h3, h4⟩ := h
  refine ⟨by simpa using h1, by omega, ?_, fun i hi hm => ?_⟩
  · rw [compI_take xs m hm false hB, ← h3]
    have hk : kk < dj.toList.length := by simp; omega
    simp only [Array.toList_setIfInBounds]
    rw [List.take_succ_eq_append_getElem (by simpa using hk)]
    simp [List.take_set_of_le]
  · rw [getElem!_set_other dj kk i _ (by omega)]
    exact h4 i hi (by omega)
set_option maxHeartbeats 12800000 in
set_option maxRecDepth 1000000 in
theorem cmpctI_any (base g cap n : Nat) (xs : List InA) (w : World) (hn : xs.length = n) (h : OwnX 51 3 InA.enc w base (.slice (some ⟨g, 0, none⟩) n cap) xs) (hc : LikeOf xs base w) (h8 : n ≤ 1000000) :
    Calls Tryz.prog 19 #[.slice (some ⟨g, 0, none⟩) n cap, .func (.func 22) #[] #[]] w
      (fun e w' => ∃ v, e = .returned v ∧ OwnX 51 3 InA.enc w' base v (compI xs) ∧ Below base w w') := by
  have HC := Lib.hid hc
  have HS := Lib.hid h
  have hbg := (World.ownsRow.lt h g rfl)
  have HBG := Lib.hid hbg
  have hcap : n ≤ cap ∧ cap ≤ maxLen := by
    rcases h.2 with ⟨hv, _⟩ | ⟨g1, c1, cur, hv, hb, hg, hn, hm, hcs, ht⟩
    · cases hv
    · simp only [Value.slice.injEq, Option.some.injEq, Addr.mk.injEq] at hv
      obtain ⟨_, _, rfl⟩ := hv
      exact ⟨by omega, hm⟩
  obtain ⟨hcap, h9⟩ := hcap
  unfold maxLen at h9
  clear hc h hbg
  go_enter Tryz.func19, Tryz.ntmps19
  by_cases hn2 : (n : Int) < 2
  · go_wp2_with fail
    go_ret
    refine ⟨_, rfl, ?_, Below.refl _ _⟩
    have e : compI xs = xs := by
      match xs, hn with
      | [], _ => rfl
      | [x], _ => rfl
      | x :: y :: r, h => simp at h; omega
    rw [e]
    exact HS.out
  go_wp2_with fail
  go_loopg [5] n (fun g1 v5 wr => ∃ k : Nat, v5 = .int .i64 (k : Int) ∧ 1 ≤ k ∧ k ≤ n ∧ k + g1 = n + 1 ∧ Hid (compI (xs.take k) = xs.take k) ∧ Hid (OwnX 51 3 InA.enc wr base (.slice (some ⟨g, 0, none⟩) n cap) xs) ∧ Hid (Below base w wr))
  case atStart => exact ⟨1, rfl, by omega, by omega, by omega, (by cases xs with | nil => rfl | cons x l => simp [compI, compG, Hid]), HS, Below.refl _ _⟩
  case round =>
    obtain ⟨k, rfl, h1k, hkn, hkg, HK, HO, HB⟩ := hrel
    by_cases hlt : k < n
    · obtain ⟨kp, rfl⟩ : ∃ kp, k = kp + 1 := ⟨k - 1, by omega⟩
      have hkz : (kp : Int) + 1 < (n : Int) := by omega
      have hkz1 : (kp : Int) < (n : Int) := by omega
      have hw1 : IntKind.i64.wrap ((kp : Int) + 1 - 1) = (kp : Int) := by rw [IntKind.wrap_i64]; omega
      have hw0 : IntKind.i64.wrap (kp : Int) = (kp : Int) := by rw [IntKind.wrap_i64]; omega
      have p0 : (0 : Int) ≤ (kp : Int) + 1 := by omega
      have e0 : ((kp : Int) + 1).toNat = kp + 1 := by omega
      have ho' : OwnX 51 3 InA.enc wr base (.slice (some ⟨g, 0, none⟩) n cap) xs.toArray.toList := HO.out
      obtain ⟨a0, a1, a2⟩ := cells_row (d := xs.toArray) (by simpa using hn) ho' (kp + 1) hlt
      obtain ⟨b0, b1, b2⟩ := cells_row (d := xs.toArray) (by simpa using hn) ho' kp (by omega)
      have ex : xs.toArray[kp + 1]! = xs[kp + 1] := by simp [show kp + 1 < xs.length by omega]
      have ep : xs.toArray[kp]! = xs[kp] := by simp [show kp < xs.length by omega]
      rw [ex] at a0 a1 a2
      rw [ep] at b0 b1 b2
      have HCM := Lib.hid (fun z => HC.out _ (HB.out.trans ((later_below wr z).mono (by have := HB.out.size; have := HBG.out; omega))) xs[kp + 1] (List.getElem_mem _) xs[kp] (List.getElem_mem _))
      obtain ⟨B, hB⟩ : ∃ B, eqB (likeI xs[kp + 1] xs[kp]) = B := ⟨_, rfl⟩
      rw [hB] at HCM
      unfold BoolB at HCM
      have HBB := Lib.hid hB
      have a0 := fun x => later_cell a0 x
      have a1 := fun x => later_cell a1 x
      have a2 := fun x => later_cell a2 x
      have b0 := fun x => later_cell b0 x
      have b1 := fun x => later_cell b1 x
      have b2 := fun x => later_cell b2 x
      clear hB ex ep ho'
      generalize xs[kp + 1] = X at a0 a1 a2 HCM
      generalize xs[kp] = Y at b0 b1 b2 HCM
      obtain ⟨s1, t1, e1, sa1, sc1, ta1, tc1, ea1, ec1⟩ := X
      obtain ⟨s2, t2, e2, sa2, sc2, ta2, tc2, ea2, ec2⟩ := Y
      simp only at a0 a1 a2 b0 b1 b2 HCM
      go_upto_region 6 with fail
      refine wp_region_later (by kernel_rfl) (by kernel_rfl) ?_
      repeat (go_big_quiet_step (first | (go_at_call 22; exact calls_later (HCM.out _))))
      refine wpQuiet_nil ?_
      rintro _ ⟨z, rfl⟩
      have HB3 : Hid (Below wr.heap.size wr (later wr z)) := later_below _ _
      clear a0 a1 a2 b0 b1 b2 HCM
      generalize later wr z = w5 at *
      cases B
      case false =>
        go_wp2_with fail
        go_roundg (gk - 1)
        case measure => omega
        case rel => exact ⟨kp + 2, by go_num, by omega, by omega, by omega, (by show _ = _; rw [compI_take xs kp (by omega) false HBB.out, HK.out]; exact (List.take_succ_eq_append_getElem (show kp + 1 < xs.length by omega)).symm), HO.out.call HB3.out, HB.out.trans (HB3.out.mono (by have := HB.out.size; have := HBG.out; omega))⟩
      case true =>
        go_wp2_with fail
        have HO5 : Hid (OwnX 51 3 InA.enc w5 base (.slice (some ⟨g, 0, none⟩) n cap) xs) := HO.out.call HB3.out
        have HB5 : Hid (Below base w w5) := HB.out.trans (HB3.out.mono (by have := HB.out.size; have := HBG.out; omega))
        have HI5 : Hid (CmpInv xs (kp + 1 + 1) (kp + 1) xs.toArray) := ⟨by simp, by omega, (by rw [show kp + 1 + 1 = kp + 2 from rfl, compI_take xs kp (by omega) true HBB.out, HK.out]; simp), fun i hi _ => by simp [hi]⟩
        clear HB3 HB HO HK HBB
        go_loopg [5, 7] n (fun gg s5 s7 wr2 => ∃ (kk m : Nat) (dj : Array InA), s5 = .int .i64 (kk : Int) ∧ s7 = .int .i64 ((m : Int) + 1) ∧ kp + 2 + m ≤ n ∧ n ≤ kp + 2 + m + gg ∧ kk < kp + 2 + m ∧ Hid (CmpInv xs (kp + 1 + m + 1) kk dj) ∧ Hid (OwnX 51 3 InA.enc wr2 base (.slice (some ⟨g, 0, none⟩) n cap) dj.toList) ∧ Hid (Below base w wr2))
        case atStart => exact ⟨kp + 1, 0, xs.toArray, by go_num, by go_num, by omega, by omega, by omega, HI5, HO5, HB5⟩
        case round =>
          obtain ⟨kk, m, dj, rfl, rfl, hm1, hm2, hm3, HI, HO, HB⟩ := hrel
          by_cases hlt2 : kp + 2 + m < n
          · have hsj : dj.size = n := HI.out.1.trans hn
            have hkn2 : kk < n := by omega
            have hz1 : (m : Int) + 1 < ((n - (kp + 1) : Nat) : Int) := by omega
            have hz2 : (m : Int) < ((n - (kp + 1) : Nat) : Int) := by omega
            have hz3 : (0 : Int) ≤ (m : Int) + 1 := by omega
            have hz4 : (kk : Int) < (n : Int) := by omega
            have hwm : IntKind.i64.wrap ((m : Int) + 1 - 1) = (m : Int) := by rw [IntKind.wrap_i64]; omega
            have hwm0 : IntKind.i64.wrap (m : Int) = (m : Int) := by rw [IntKind.wrap_i64]; omega
            have em : ((m : Int) + 1).toNat = m + 1 := by omega
            obtain ⟨a0, a1, a2⟩ := cells_row hsj HO.out (kp + 1 + m + 1) (by omega)
            obtain ⟨b0, b1, b2⟩ := cells_row hsj HO.out (kp + 1 + m) (by omega)
            rw [HI.out.2.2.2 (kp + 1 + m + 1) (by omega) (by omega)] at a0 a1 a2
            rw [HI.out.2.2.2 (kp + 1 + m) (by omega) (by omega)] at b0 b1 b2
            rw [show (kp + 1 + m + 1) * 3 = (kp + 1) * 3 + (m + 1) * 3 by omega] at a0 a1 a2
            rw [show (kp + 1 + m) * 3 = (kp + 1) * 3 + m * 3 by omega] at b0 b1 b2
            have HCM := Lib.hid (fun z => HC.out _ (HB.out.trans ((later_below wr z).mono (by have := HB.out.size; have := HBG.out; omega))) xs[kp + 1 + m + 1] (List.getElem_mem _) xs[kp + 1 + m] (List.getElem_mem _))
            obtain ⟨B, hB⟩ : ∃ B, eqB (likeI xs[kp + 1 + m + 1] xs[kp + 1 + m]) = B := ⟨_, rfl⟩
            rw [hB] at HCM
            unfold BoolB at HCM
            have HBB := Lib.hid hB
            obtain ⟨X, hX⟩ : ∃ X, xs[kp + 1 + m + 1] = X := ⟨_, rfl⟩
            have HXX := Lib.hid hX
            rw [hX] at a0 a1 a2 HCM
            generalize xs[kp + 1 + m] = Y at b0 b1 b2 HCM
            have a0 := fun x => later_cell a0 x
            have a1 := fun x => later_cell a1 x
            have a2 := fun x => later_cell a2 x
            have b0 := fun x => later_cell b0 x
            have b1 := fun x => later_cell b1 x
            have b2 := fun x => later_cell b2 x
            clear hB hX
            obtain ⟨s1, t1, e1, sa1, sc1, ta1, tc1, ea1, ec1⟩ := X
            obtain ⟨s2, t2, e2, sa2, sc2, ta2, tc2, ea2, ec2⟩ := Y
            simp only at a0 a1 a2 b0 b1 b2 HCM
            go_upto_region 11 with fail
            refine wp_region_later (by kernel_rfl) (by kernel_rfl) ?_
            repeat (go_big_quiet_step (first | (go_at_call 22; exact calls_later (HCM.out _))))
            refine wpQuiet_nil ?_
            rintro _ ⟨z, rfl⟩
            have HB3 : Hid (Below wr.heap.size wr (later wr z)) := later_below _ _
            have a0 := a0 z
            have a1 := a1 z
            have a2 := a2 z
            clear b0 b1 b2 HCM
            generalize later wr z = w6 at *
            cases B
            case true =>
              go_wp2_with fail
              go_roundg (gk - 1)
              case measure => omega
              case rel => exact ⟨kk, m + 1, dj, rfl, by go_num, by omega, by omega, by omega, HI.out.skip (by omega) HBB.out, HO.out.call HB3.out, HB.out.trans (HB3.out.mono (by have := HB.out.size; have := HBG.out; omega))⟩
            case false =>
              have ho6 : OwnX 51 3 InA.enc w6 base (.slice (some ⟨g, 0, none⟩) n cap) dj.toList := HO.out.call HB3.out
              obtain ⟨c0, c1, c2⟩ := cells_row hsj ho6 kk hkn2
              have f0 := ho6.unfrozen (kk * 3)
              have f1 := ho6.unfrozen (kk * 3 + 1)
              have f2 := ho6.unfrozen (kk * 3 + 2)
              have HP := OwnX.put InA.enc_len (by omega) hsj ho6 kk hkn2 ⟨s1, t1, e1, sa1, sc1, ta1, tc1, ea1, ec1⟩
              simp only [InA.enc, set3_cells] at HP
              have HP := Lib.hid HP
              clear ho6
              go_wp2_with fail
              go_roundg (gk - 1)
              case measure => omega
              case rel => exact ⟨kk + 1, m + 1, dj.setIfInBounds kk ⟨s1, t1, e1, sa1, sc1, ta1, tc1, ea1, ec1⟩, by go_num, by go_num, by omega, by omega, by omega, (by have := HI.out.keep (by omega) HBB.out; rw [HXX.out] at this; exact this), HP.out.1, HB.out.trans ((HB3.out.mono (by have := HB.out.size; have := HBG.out; omega)).trans HP.out.2)⟩
          · have hnn : n = kp + 2 + m := by omega
            have hsj : dj.size = n := HI.out.1.trans hn
            have hkn2 : kk < n := by omega
            have hz1 : ¬ (m : Int) + 1 < ((n - (kp + 1) : Nat) : Int) := by omega
            have hz4 : (kk : Int) ≤ (n : Int) := by omega
            have hz5 : (kk : Int) ≤ (cap : Int) := by omega
            have hz6 : (0 : Int) ≤ (kk : Int) := by omega
            have hcl : ∀ ty, (Builtin.clear_ #[28] ty #[.slice (some ⟨g, kk * 3, none⟩) (n - kk) (cap - kk)]).run Tryz.prog wr = .ok (.tuple #[]) (wr.setCells g (kk * 3) (List.replicate ((n - kk) * 3) (.slice none 0 0))) := fun ty =>
              run_clear_k wr 28 51 ty (.agg #[.slice none 0 0, .slice none 0 0, .slice none 0 0]) (.slice none 0 0) 3 (by omega) Tryz.underlying28 Tryz.zeroValue51 rfl rfl g (kk * 3) (n - kk) (cap - kk) (by omega)
                (fun j hj => by
                  have hq := Nat.div_add_mod j 3
                  have hm := Nat.mod_lt j (show 0 < 3 by omega)
                  obtain ⟨x0, x1, x2⟩ := cells_row hsj HO.out (kk + j / 3) (by omega)
                  have h3 : j % 3 = 0 ∨ j % 3 = 1 ∨ j % 3 = 2 := by omega
                  rcases h3 with h3 | h3 | h3
                  · rw [show kk * 3 + j = (kk + j / 3) * 3 by omega, x0]; rfl
                  · rw [show kk * 3 + j = (kk + j / 3) * 3 + 1 by omega, x1]; rfl
                  · rw [show kk * 3 + j = (kk + j / 3) * 3 + 2 by omega, x2]; rfl)
                (fun j hj => HO.out.unfrozen _)
            have HNN := Lib.hid hnn
            clear hnn
            have HCUT := Lib.hid (OwnX.cut InA.enc_len hsj HO.out (show kk ≤ n by omega) (.slice none 0 0))
            go_wp2_with fail
            go_ret
            refine ⟨_, rfl, ?_, HB.out.trans HCUT.out.2⟩
            have e := HI.out.2.2.1
            rw [show kp + 1 + m + 1 = xs.length by have := HNN.out; omega, List.take_length] at e
            rw [← e]
            exact HCUT.out.1
    · obtain rfl : k = n := by omega
      go_wp2_with fail
      go_ret
      refine ⟨_, rfl, ?_, HB.out⟩
      have e := HK.out
      rw [← hn, List.take_length] at e
      rw [e]
      exact HO.out
end Go.Proofs.YtmhekhilgllciaaGreat
