/- The contracts of config.sorted of texts, and of config.once. -/
import Derived.Test.YtmhekhilgllciaaGreatCfgM
import Derived.Test.YtmhekhilgllciaaGreatOwnS
import Derived.Test.YtmhekhilgllciaaGreatBlkG
import Derived.Test.YtmhekhilgllciaaGreatLabC
import Derived.Test.YtmhekhilgllciaaGreatSortC
import Derived.Shelf.SlSortCmp.NoneTotal
import Derived.Deep.QuietTactic
import Derived.BigQuiet
namespace Go.Proofs.YtmhekhilgllciaaGreat
open Go.RowKit Go.Sort Go.Lib Go.Shelf

abbrev cmpB (a b : Bs) : Int := Lib.compareBytes a b
theorem lt_cmpB (a b : Bs) : ltOf cmpB a b = lessB a b := by rw [lessB_cmp]; rfl
theorem lt_cmpB' : ltOf cmpB = lessB := by funext a b; exact lt_cmpB a b
theorem swo_cmpB : SWO (ltOf cmpB) := by
  rw [lt_cmpB']
  refine ⟨lessB_irrefl, fun _ _ _ h g => lessB_trans _ _ _ h g, fun a b c h g => ?_⟩
  have := leB_trans c b a (by simp [leB, g]) (by simp [leB, h])
  simpa [leB] using this
theorem itself_any (s : ByteArray) (w : World) : Calls Tryz.prog 18 #[.string s] w (fun e w' => e = .returned (.string s) ∧ w' = w) := by
  go_enter Tryz.func18, Tryz.ntmps18
  go_wp2_with fail
  go_ret
  exact ⟨rfl, rfl⟩
set_option maxHeartbeats 1600000 in
theorem cmpS_any (x y : ByteArray) (g : Nat) (w : World) (hg : Blk w g 48 #[.func (.func 18) #[] #[]]) :
    Calls Tryz.prog 61 #[.string x, .string y, .pointer (some ⟨g, 0, none⟩)] w fun e w' => e = .returned (.int .i64 (cmpB x.data.toList y.data.toList)) ∧ ∃ q, w' = w.drewN q := by
  have c0 := hg.cell 0
  have hc := fun W => Tryz.strings_Compare x y W
  obtain ⟨K, hK⟩ : ∃ K, cmpB x.data.toList y.data.toList = K := ⟨_, rfl⟩
  rw [hK]
  simp only [show Lib.compareBytes x.data.toList y.data.toList = K from hK] at hc
  clear hK
  have HC := Lib.hid hc
  clear hc hg
  go_enter Tryz.func61, Tryz.ntmps61
  go_upto_region 1 with fail
  go_quiet (first
    | (go_at_call 18; exact Calls.quiet_of_same (itself_any _ _))
    | (go_at_call 58; exact Calls.quiet_of_same (HC.out _)))
  go_wp2_with fail
  go_ret
  exact ⟨rfl, nq, rfl⟩
theorem heap_sortW (w : World) (b m g : Nat) (d : Array Bs) (os : Array Obj) (hg : g < w.heap.size) (hne : g ≠ b) : (sortWorld encStr w b 0 m d os).heap[g]? = w.heap[g]? := by
  unfold sortWorld
  rw [heap_grow_old _ _ (by simpa using hg)]
  simp [putRow, mapBlock, Sort.ahead, Array.getElem?_modify, Ne.symm hne]
theorem heap_sortW_own (w : World) (b m : Nat) (d : Array Bs) (os : Array Obj) {cur : Array Value} {t : TypeId} {fr : Nat × Nat} (hb : w.heap[b]? = some (.cells cur t fr)) : (sortWorld encStr w b 0 m d os).heap[b]? = some (.cells (putCells encStr 0 d cur) t fr) := by
  have hlt := lt_of_block hb
  unfold sortWorld
  rw [heap_grow_old _ _ (by simpa using hlt)]
  simp [putRow, mapBlock, Sort.ahead, Array.getElem?_modify, hb, onCells]
theorem size_sortW (w : World) (b m : Nat) (d : Array Bs) (os : Array Obj) : w.heap.size ≤ (sortWorld encStr w b 0 m d os).heap.size := by
  simp [sortWorld, grow, putRow, mapBlock, Sort.ahead]
theorem cmpS_lays (b size g : Nat) (w : World) (hg : Blk w g 48 #[.func (.func 18) #[] #[]]) (hne : g ≠ b) :
    CmpLays1 Tryz.prog 61 #[.pointer (some ⟨g, 0, none⟩)] encStr cmpB b 0 size w := by
  intro m os dk _ x y
  have h := cmpS_any ⟨x.toArray⟩ ⟨y.toArray⟩ g (sortWorld encStr w b 0 m dk os) ((heap_sortW w b m g dk os hg.lt hne).trans hg)
  exact h.mono fun e w' ⟨he, q, hq⟩ => ⟨he, q, #[], by rw [hq, grow_empty]⟩
def strB (b : Bs) : ByteArray := ⟨b.toArray⟩
def bsOf (ss : List ByteArray) : List Bs := ss.map fun s => s.data.toList
theorem strB_of (s : ByteArray) : strB s.data.toList = s := bytes_ext (by simp [strB])
/-- texts sorted -/
def sortS (ss : List ByteArray) : List ByteArray := (srtB (bsOf ss)).map strB
theorem sortS_len (ss : List ByteArray) : (sortS ss).length = ss.length := by
  simp [sortS, bsOf, (srtB_perm _).length_eq]
theorem sortS_nil : sortS [] = [] := List.eq_nil_of_length_eq_zero (by rw [sortS_len]; rfl)
theorem sortS_mem {ss : List ByteArray} {s : ByteArray} (h : s ∈ sortS ss) : s ∈ ss := by
  obtain ⟨b, hb, rfl⟩ := List.mem_map.1 h
  have := (srtB_perm (bsOf ss)).mem_iff.1 hb
  obtain ⟨x, hx, rfl⟩ := List.mem_map.1 this
  rw [strB_of]
  exact hx
theorem own_holds {T : TypeId} {w : World} {base g cap : Nat} {ss : List ByteArray} (h : OwnS T w base (.slice (some ⟨g, 0, none⟩) ss.length cap) ss) : Holds encStr w g 0 (bsOf ss).toArray := by
  intro j hj
  have hj' : j < ss.length := by simpa [bsOf] using hj
  rcases h.2 with ⟨hv, _⟩ | ⟨g1, c1, cur, hv, hb, hg, hn, hm, hcs, ht⟩
  · cases hv
  · simp only [Value.slice.injEq, Option.some.injEq, Addr.mk.injEq] at hv
    obtain ⟨⟨rfl, _, _⟩, _, rfl⟩ := hv
    have hl : (strsV ss).length = ss.length := by simp [strsV]
    refine ⟨?_, by simp [World.frozen?, hg]⟩
    rw [Nat.zero_add, World.ownsRow.cellAt h j (by omega)]
    have e : (bsOf ss).toArray[j]! = ss[j].data.toList := by simp [bsOf, hj']
    rw [e]
    simp [strsV, hj', encStr]
theorem own_sorted {T : TypeId} {w : World} {base g cap m : Nat} {ss : List ByteArray} {os : Array Obj} (h : OwnS T w base (.slice (some ⟨g, 0, none⟩) ss.length cap) ss) :
    OwnS T (sortWorld encStr w g 0 m (srtB (bsOf ss)).toArray os) base (.slice (some ⟨g, 0, none⟩) ss.length cap) (sortS ss) := by
  rcases h.2 with ⟨hv, _⟩ | ⟨g1, c1, cur, hv, hb, hg, hn, hm, hcs, ht⟩
  · cases hv
  · simp only [Value.slice.injEq, Option.some.injEq, Addr.mk.injEq] at hv
    obtain ⟨⟨rfl, _, _⟩, _, rfl⟩ := hv
    have hl := sortS_len ss
    have hsz : (srtB (bsOf ss)).toArray.size = ss.length := by simp [bsOf, (srtB_perm _).length_eq]
    unfold OwnS
    rw [hl]
    refine ⟨by simp [strsV, hl], .inr ⟨g, cap, putCells encStr 0 (srtB (bsOf ss)).toArray cur, rfl, hb, heap_sortW_own w g m _ os hg, hn, hm, by simp [putCells, hcs], ?_⟩⟩
    apply List.ext_getElem?
    intro j
    rcases Nat.lt_or_ge j ss.length with hj | hj
    · have h1 : j < (srtB (bsOf ss)).length := by simpa using (by rw [hsz]; exact hj : j < (srtB (bsOf ss)).toArray.size)
      have h2 : j < cur.size := by rw [hcs]; omega
      rw [List.getElem?_take_of_lt (by omega)]
      simp only [putCells, Array.getElem?_toList, Array.getElem?_mapIdx, Array.getElem?_eq_getElem h2, Option.map_some]
      rw [if_pos ⟨Nat.zero_le _, by rw [hsz]; omega⟩]
      simp [strsV, sortS, h1, encStr, strB]
    · rw [List.getElem?_eq_none (by simp; omega), List.getElem?_eq_none (by simp [strsV, hl]; omega)]
/-- what config.sorted of texts answers -/
def SrtP (ss : List ByteArray) (w : World) (e : Ending) (w' : World) : Prop := ∃ v, e = .returned v ∧ OwnS 9 w' w.heap.size v (sortS ss) ∧ Below w.heap.size w w'
set_option maxHeartbeats 1600000 in
theorem sort1_any (base g cap f : Nat) (ss : List ByteArray) (w : World) (h : OwnS 9 w base (.slice (some ⟨g, 0, none⟩) ss.length cap) ss) (h8 : ss.length ≤ 1000000) (hf : Blk w f 48 #[.func (.func 18) #[] #[]]) :
    Calls Tryz.prog 60 #[.slice (some ⟨g, 0, none⟩) ss.length cap, .func (.func 61) #[] #[.pointer (some ⟨f, 0, none⟩)]] w
      (fun e w' => e = .returned (.tuple #[]) ∧ OwnS 9 w' base (.slice (some ⟨g, 0, none⟩) ss.length cap) (sortS ss) ∧ Below base w w') := by
  have eg : ∀ args w, (callFunc 61 args).run Tryz.prog w = .ok (.enter 61 args) w := enters_of Tryz.func61 (by kernel_rfl) rfl
  have hH := own_holds h
  obtain ⟨hg, hbg⟩ : g < w.heap.size ∧ base ≤ g := by
    have := World.ownsRow.lt h g rfl
    exact ⟨this.2, this.1⟩
  have hne : f ≠ g := fun e => by
    rcases h.2 with ⟨hv, _⟩ | ⟨g1, c1, cur, hv, _, hgg, _⟩
    · cases hv
    · simp only [Value.slice.injEq, Option.some.injEq, Addr.mk.injEq] at hv
      obtain ⟨⟨rfl, _, _⟩, _, rfl⟩ := hv
      subst e
      have := hgg.symm.trans (show w.heap[f]? = _ from hf)
      simp at this
  have hsz : (bsOf ss).toArray.size = ss.length := by simp [bsOf]
  have hcon := Any.slices_SortFunc_total Tryz.sortS encStr (fun _ => rfl) cmpB swo_cmpB 61 #[.pointer (some ⟨f, 0, none⟩)] g 0 cap (bsOf ss).toArray w eg (cmpS_lays g _ f w hf hne) hH hg (by rw [hsz]; omega)
    (fun x y h1 h2 => by rw [lt_cmpB] at h1 h2; exact lessB_tri _ _ h1 h2)
  rw [hsz] at hcon
  refine (show Calls Tryz.prog 60 _ _ _ from hcon).mono fun e w' ⟨he, n, os, hw⟩ => ⟨he, ?_⟩
  rw [lt_cmpB'] at hw
  have hs : (List.mergeSort (bsOf ss).toArray.toList fun x y => !lessB y x) = srtB (bsOf ss) := rfl
  rw [hs] at hw
  rw [hw]
  refine ⟨own_sorted h, rfl, rfl, rfl, size_sortW _ _ _ _ _, fun k hk => heap_sortW w g n k _ os (by omega) (by omega)⟩
theorem cloneS_any (a : Option Addr) (c : Nat) (ss : List ByteArray) (w : World) (h : HasStrs w a c ss) (h8 : ss.length ≤ 1000000) :
    Calls Tryz.prog 59 #[.slice a ss.length c] w (fun e w' => ∃ v, e = .returned v ∧ OwnS 9 w' w.heap.size v ss ∧ Below w.heap.size w w') := by
  obtain ⟨h1, h2, h3, h4⟩ := h
  rcases h4 with rfl | ⟨b, off, rfl, hb, hc⟩
  · cases a with
    | none => exact (Tryz.slices_Clone_string_nil 0 c w).mono fun e w' ⟨he, hw⟩ => ⟨_, he, by rw [hw]; exact OwnS.nil _ _ _, by rw [hw]; exact Below.refl _ _⟩
    | some a => exact (Tryz.slices_Clone_string_zero a c w).mono fun e w' ⟨v, he, ho, _, hb⟩ => ⟨v, he, ho, hb⟩
  · refine (Tryz.slices_Clone_string b off ss.length c ss w (Nat.le_refl _) (by omega) (fun j hj => ?_)).mono fun e w' ⟨v, he, ho, _, hb⟩ => ⟨v, he, ?_, hb⟩
    · rw [hc j hj]
      simp [hj]
    · rw [List.take_length] at ho
      exact ho
set_option maxHeartbeats 3200000 in
set_option maxRecDepth 100000 in
theorem srtS_any (a : Option Addr) (c : Nat) (ss : List ByteArray) (w : World) (h : HasStrs w a c ss) (h8 : ss.length ≤ 1000000) :
    Calls Tryz.prog 17 #[.slice a ss.length c, .func (.func 18) #[] #[]] w (SrtP ss w) := by
  have hb := (Below.refl w.heap.size w).alloc (Nat.le_refl _) (.cells #[.func (.func 18) #[] #[]] 48)
  have hB := Blk.new w 48 #[.func (.func 18) #[] #[]]
  have hz : (w.alloc (.cells #[.func (.func 18) #[] #[]] 48)).heap.size = w.heap.size + 1 := by simp
  have hcl := cloneS_any a c ss _ (h.call hb) h8
  have hs1 := fun (g cap : Nat) W (ho : OwnS 9 W (w.heap.size + 1) (.slice (some ⟨g, 0, none⟩) ss.length cap) ss) hf => sort1_any (w.heap.size + 1) g cap w.heap.size ss W ho h8 hf
  have hs0 := fun a cap W => AnyF.slices_SortFunc_none (P := Tryz.prog) { Tryz.sortS with } a cap (.func (.func 61) #[] #[.pointer (some ⟨w.heap.size, 0, none⟩)]) W
  have hs0' : ∀ a cap W, Calls Tryz.prog 60 #[.slice a 0 cap, .func (.func 61) #[] #[.pointer (some ⟨w.heap.size, 0, none⟩)]] W (fun e w' => e = .returned (.tuple #[]) ∧ w' = W) := hs0
  have hbz : w.heap.size ≤ w.heap.size + 1 := by omega
  have HB := Lib.hid hb
  have HCL := Lib.hid hcl
  have HS1 := Lib.hid hs1
  have HS0 := Lib.hid hs0'
  have HBB := Lib.hid hB
  clear hb hcl hs1 hs0 hs0' hB h
  go_enter Tryz.func17, Tryz.ntmps17
  go_upto_region 1 with fail
  obtain ⟨f, hf⟩ : ∃ f, w.heap.size = f := ⟨_, rfl⟩
  generalize w.alloc (.cells #[.func (.func 18) #[] #[]] 48) = wx at *
  have HF := Lib.hid hf
  rw [hf] at HBB HS1 HS0 hz ⊢
  clear hf hbz
  go_upto_region 2 with (go_at_call 59; refine HCL.out.mono ?_; rintro e w2 ⟨v, rfl, ho2, hb2⟩)
  have hB2 := HBB.out.call hb2
  have hbw := HB.out
  rw [hz] at ho2
  have hbb := HB.out.trans (hb2.mono HB.out.size)
  rcases ho2.2 with ⟨rfl, h0⟩ | ⟨g1, cap, cur, rfl, _, _, _, _, _, _⟩
  · obtain rfl : ss = [] := List.eq_nil_of_length_eq_zero h0
    have HBB2 := Lib.hid hbb
    clear hB2 hbw hbb ho2
    go_wp2_with (go_at_call 60; refine (HS0.out _ _ _).mono ?_; rintro e w3 ⟨rfl, rfl⟩)
    go_ret
    exact ⟨_, rfl, by rw [sortS_nil]; exact OwnS.nil _ _ _, HBB2.out⟩
  · have hcall := HS1.out g1 cap w2 ho2 hB2
    have HCA := Lib.hid hcall
    have HBB2 := Lib.hid hbb
    clear hB2 hbw hbb ho2 hcall
    go_wp2_with (go_at_call 60; refine HCA.out.mono ?_; rintro e w3 ⟨rfl, ho3, hb3⟩)
    go_ret
    refine ⟨_, rfl, ?_, HBB2.out.trans (hb3.mono (by have := HF.out; omega))⟩
    have hff := HF.out
    obtain ⟨ha, hr⟩ := ho3
    refine ⟨ha, hr.imp id ?_⟩
    rintro ⟨g, cap', cur, e1, e2, e3⟩
    exact ⟨g, cap', cur, e1, by omega, e3⟩
theorem sortS_bs (ss : List ByteArray) : (sortS ss).map (fun s => s.data.toList) = srtB (bsOf ss) := by
  unfold sortS
  rw [List.map_map]
  have : ((fun s : ByteArray => s.data.toList) ∘ strB) = id := by funext b; simp [strB]
  rw [this, List.map_id]
theorem compactS_any (base : Nat) (v : Value) (zs : List ByteArray) (w : World) (h : OwnS 9 w base v zs) (h8 : zs.length ≤ 1000000) :
    Calls Tryz.prog 84 #[v] w (fun e w' => ∃ a c, e = .returned (.slice a (Lib.compact (bsOf zs)).length c) ∧ Below base w w') := by
  rcases h.2 with ⟨rfl, h0⟩ | ⟨g, cap, cur, rfl, hb, hg, hn, hm, hcs, ht⟩
  · obtain rfl : zs = [] := List.eq_nil_of_length_eq_zero h0
    exact (Tryz.slices_Compact_string_empty none 0 w).mono fun e w' ⟨he, hw⟩ => ⟨none, 0, he, by rw [hw]; exact Below.refl _ _⟩
  · have hH := own_holds h
    have hc := Tryz.slices_Compact_string g 0 cap (bsOf zs) w hH (by simp [bsOf]; omega) (by simpa [bsOf] using hn)
    have e : (bsOf zs).length = zs.length := by simp [bsOf]
    rw [e] at hc
    refine hc.mono fun e w' ⟨he, q, hw⟩ => ⟨_, _, he, ?_⟩
    rw [hw]
    refine ⟨rfl, rfl, rfl, by simp [putRow, mapBlock, Sort.ahead], fun k hk => ?_⟩
    have hne : g ≠ k := by omega
    simp [putRow, mapBlock, Sort.ahead, Array.getElem?_modify, hne]
/-- is no text there twice? -/
def onceS (ss : List ByteArray) : Bool := onceB (bsOf ss)
set_option maxHeartbeats 3200000 in
set_option maxRecDepth 100000 in
theorem once_any (a : Option Addr) (c : Nat) (ss : List ByteArray) (w : World) (h : HasStrs w a c ss) (h8 : ss.length ≤ 1000000) :
    Calls Tryz.prog 34 #[.slice a ss.length c] w (BoolB (onceS ss) w) := by
  have hs := srtS_any a c ss w h h8
  have hc := fun (v : Value) W (ho : OwnS 9 W w.heap.size v (sortS ss)) => compactS_any w.heap.size v (sortS ss) W ho (by rw [sortS_len]; exact h8)
  have e1 : bsOf (sortS ss) = srtB (bsOf ss) := sortS_bs ss
  rw [e1] at hc
  have hR : onceS ss = decide ((Lib.compact (srtB (bsOf ss))).length = ss.length) := by
    unfold onceS onceB
    rw [show (bsOf ss).length = ss.length by simp [bsOf]]
  rw [hR]
  generalize (Lib.compact (srtB (bsOf ss))).length = K at *
  have hq : (((K : Nat) : Int) == ((ss.length : Nat) : Int)) = decide (K = ss.length) := by
    rw [Bool.eq_iff_iff, beq_iff_eq, decide_eq_true_iff]
    omega
  have HS := Lib.hid hs
  have HC := Lib.hid hc
  generalize hD : decide (K = ss.length) = D at *
  clear hs hc hR h e1 hD
  go_enter Tryz.func34, Tryz.ntmps34
  go_wp2_with (first
    | (go_at_call 17; refine HS.out.mono ?_; rintro e w2 ⟨v, rfl, ho2, hb2⟩)
    | (go_at_call 84; refine (HC.out v w2 ho2).mono ?_; rintro e w3 ⟨a3, c3, rfl, hb3⟩))
  go_ret
  exact ⟨by first | rfl | rw [hq], hb2.trans hb3⟩
end Go.Proofs.YtmhekhilgllciaaGreat
