/- A region that draws its order and ends in stores into cells that it has loaded: a load may be taken first if the first of these stores waits for it. It speaks of no one program. -/
import Derived.OrdersHeld
import Derived.StillTail
import Derived.Deep.RegionHeld
import Derived.Test.YtmhekhilgllciaaGreatMg3
import Derived.Test.YtmhekhilgllciaaGreatMg6
import Derived.Test.YtmhekhilgllciaaGreatMg7
import Derived.Test.YtmhekhilgllciaaGreatMg4
import Derived.Test.YtmhekhilgllciaaGreatLater
import Derived.Shelf.SlSortCmp.InsertionK
import Derived.BigRegion
namespace Go.Proofs.YtmhekhilgllciaaGreat

section
variable {P : Program} {ops : Array Oper} {Q : Exit → Act → World → Prop} {md : Region.Mode} {S : World → Prop} {m : Nat}

/-- what has come up has come up behind all that it waits for -/
def closedB (md : Region.Mode) (ops : Array Oper) (listed : Array Bool) : Bool :=
  (List.range ops.size).all fun j => !listed.getD j false || ((ops[j]?).map fun o => o.after.all fun e => !Region.binds md e || listed.getD e.on false).getD true
def ClosedR (md : Region.Mode) (ops : Array Oper) (listed : Array Bool) : Prop :=
  ∀ j oj, ops[j]? = some oj → listed.getD j false = true → ∀ e ∈ oj.after, Region.binds md e = true → listed.getD e.on false = true
theorem closed_of {listed : Array Bool} (h : closedB md ops listed = true) : ClosedR md ops listed := by
  intro j oj hj hl e he hb
  have hlt : j < ops.size := (Array.getElem?_eq_some_iff.1 hj).1
  have h1 := List.all_eq_true.1 h j (List.mem_range.2 hlt)
  rw [hl, hj] at h1
  simp only [Bool.not_true, Bool.false_or, Option.map_some, Option.getD_some] at h1
  obtain ⟨i, hi, rfl⟩ := Array.mem_iff_getElem.1 he
  have h2 := Array.all_eq_true.1 h1 i hi
  rw [hb] at h2
  simpa using h2
theorem ClosedR.set {i : Nat} {listed : Array Bool} (h : ClosedR md ops listed) (hi : i ∈ Region.ready md ops listed) : ClosedR md ops (listed.setIfInBounds i true) := by
  obtain ⟨_, oi, hoi, hall⟩ := mem_ready.1 hi
  intro j oj hj hl e he hb
  by_cases hij : i = j
  · subst hij
    have : oj = oi := Option.some.inj (hj.symm.trans hoi)
    subst this
    exact getD_set_true (hall e he hb)
  · rw [getD_set_ne false hij] at hl
    exact getD_set_true (h j oj hj hl e he hb)
theorem not_yet {i : Nat} {listed : Array Bool} (h : ClosedR md ops listed) (hi : i ∈ Region.ready md ops listed) (hm : Region.waitsFor md ops m i = true) : listed.getD m false = false := by
  cases hl : listed.getD m false with
  | false => rfl
  | true =>
    obtain ⟨om, hom, e, he, hb, hon⟩ := Region.waitsFor_spec hm
    have h2 := h m om hom hl e he hb
    rw [hon, getD_both (mem_ready.1 hi).1] at h2
    cases h2
/-- m waits for the first of these, that for the next, and so on, the last for i -/
def pathB (md : Region.Mode) (ops : Array Oper) (m : Nat) : List Nat → Nat → Bool
  | [], i => Region.waitsFor md ops m i
  | k :: ks, i => Region.waitsFor md ops m k && pathB md ops k ks i
theorem not_yet_path {i : Nat} {listed : Array Bool} (h : ClosedR md ops listed) (hi : i ∈ Region.ready md ops listed) : ∀ (p : List Nat) (m : Nat), pathB md ops m p i = true → listed.getD m false = false
  | [], _, hm => not_yet h hi hm
  | k :: ks, m, hm => by
    simp only [pathB, Bool.and_eq_true] at hm
    have hk := not_yet_path h hi ks k hm.2
    cases hl : listed.getD m false with
    | false => rfl
    | true =>
      obtain ⟨om, hom, e, he, hb, hon⟩ := Region.waitsFor_spec hm.1
      have h2 := h m om hom hl e he hb
      rw [hon, hk] at h2
      cases h2
/-- whatever order is picked from here on, and S holds behind every operation that is carried out, until number m has come up -/
def wpAnyM (P : Program) (md : Region.Mode) (ops : Array Oper) (Q : Exit → Act → World → Prop) (S : World → Prop) (m : Nat) : Nat → Array Bool → Act → World → Prop
  | 0, listed, a, w => Region.ready md ops listed = [] ∧ Q .normal a w
  | fuel + 1, listed, a, w =>
    (Region.ready md ops listed = [] → Q .normal a w) ∧
    ∀ i ∈ Region.ready md ops listed, wpOp P ops Q i (fun a' w' => ((listed.setIfInBounds i true).getD m false = false → S w') ∧ wpAnyM P md ops Q S m fuel (listed.setIfInBounds i true) a' w') a w
theorem wpAny_of_marked : ∀ (fuel : Nat) (listed : Array Bool) (a : Act) (w : World), wpAnyM P md ops Q S m fuel listed a w → wpAny P md ops Q fuel listed a w
  | 0, _, _, _, h => h
  | fuel + 1, _, _, _, h => ⟨h.1, fun i hi => wpOp_mono (fun a' w' h' => wpAny_of_marked fuel _ a' w' h'.2) (h.2 i hi)⟩
theorem marked_of_any : ∀ (fuel : Nat) (listed : Array Bool) (a : Act) (w : World), listed.getD m false = true → wpAny P md ops Q fuel listed a w → wpAnyM P md ops Q S m fuel listed a w
  | 0, _, _, _, _, h => h
  | fuel + 1, listed, _, _, hl, h => ⟨h.1, fun i hi => wpOp_mono (fun a' w' h' => ⟨fun h0 => (by rw [getD_set_true hl] at h0; cases h0), marked_of_any fuel _ a' w' (getD_set_true hl) h'⟩) (h.2 i hi)⟩

theorem wpAnyM_first {i : Nat} {oi : Oper} {v : Value} {T : World → Prop} (hi : ops[i]? = some oi) (hsel : ∀ (j : Nat) (o : Oper) cs b, ops[j]? = some o → o.op ≠ .select cs b)
    (hQ : ∀ c a w, Q (.panic c) (a.put oi.dst v) w → Q (.panic c) a w)
    (him : i ≠ m) (hT : (∀ w, T w) ∨ (T = S ∧ ∃ p, pathB md ops m p i = true)) :
    ∀ (fuel : Nat) (listed : Array Bool) (a : Act) (w : World), ClosedR md ops listed →
      (∀ j oj, ops[j]? = some oj → j ≠ i → listed.getD j true = false → (∀ e ∈ oj.after, Region.binds md e = true → e.on ≠ i) → oi.apart ops oj = true) →
      i ∈ Region.ready md ops listed → YieldsIf P ops T oi v a → (listed.getD m false = false → S w) →
      wpAnyM P md ops Q S m fuel (listed.setIfInBounds i true) (a.put oi.dst v) w → wpAnyM P md ops Q S m (fuel + 1) listed a w := by
  intro fuel
  have hTw : ∀ (listed : Array Bool) (w : World), ClosedR md ops listed → i ∈ Region.ready md ops listed → (listed.getD m false = false → S w) → T w := by
    intro listed w hc hr hS
    rcases hT with h | ⟨rfl, p, hm⟩
    · exact h w
    · exact hS (not_yet_path hc hr p m hm)
  have back : ∀ (listed : Array Bool) (j : Nat), (listed.setIfInBounds j true).getD m false = false → listed.getD m false = false := by
    intro listed j h
    cases hl : listed.getD m false with
    | false => rfl
    | true => rw [getD_set_true hl] at h; cases h
  induction fuel with
  | zero =>
    intro listed a w hc _ hr hy hS H
    refine ⟨fun h => (by rw [h] at hr; cases hr), fun j hj => ?_⟩
    by_cases hji : j = i
    · subst hji; exact hy.wpOp hi (hTw _ _ hc hr hS) ⟨fun h => hS (back _ _ h), H⟩
    · have := ready_mono hj hji
      rw [H.1] at this
      cases this
  | succ fuel ih =>
    intro listed a w hc hfree hr hy hS H
    refine ⟨fun h => (by rw [h] at hr; cases hr), fun j hj => ?_⟩
    by_cases hji : j = i
    · subst hji; exact hy.wpOp hi (hTw _ _ hc hr hS) ⟨fun h => hS (back _ _ h), H⟩
    · have h1 := H.2 j (ready_mono hj hji)
      obtain ⟨hjun, oj, hoj, hall⟩ := mem_ready.1 hj
      have hnot : ∀ e ∈ oj.after, Region.binds md e = true → e.on ≠ i := fun e he hb heq => by
        have h1 := hall e he hb
        rw [heq, getD_both (mem_ready.1 hr).1] at h1
        cases h1
      have h2 := wpOp_putIf hoj (hfree j oj hoj hji hjun hnot) (fun cs b => hsel i oi cs b hi) (fun cs b => hsel j oj cs b hoj) hQ hy h1
      have hfree' : ∀ k ok, ops[k]? = some ok → k ≠ i → (listed.setIfInBounds j true).getD k true = false →
          (∀ e ∈ ok.after, Region.binds md e = true → e.on ≠ i) → oi.apart ops ok = true := fun k ok hk hki hun hno => by
        refine hfree k ok hk hki ?_ hno
        by_cases hjk : j = k
        · subst hjk; exact hjun
        · rw [getD_set_ne true hjk] at hun; exact hun
      refine wpOp_mono (fun a' w' h3 => ?_) h2
      have hS' : (listed.setIfInBounds j true).getD m false = false → S w' := fun h0 => by
        refine h3.2.1 ?_
        rw [Array.setIfInBounds_comm _ _ (Ne.symm hji)]
        rw [getD_set_ne false him]; exact h0
      refine ⟨hS', ih (listed.setIfInBounds j true) a' w' (hc.set hj) hfree' (ready_mono hr (Ne.symm hji)) h3.1 hS' ?_⟩
      rw [Array.setIfInBounds_comm _ _ hji]
      exact h3.2.2

/-- the beginning -/
theorem wp_region_marked {id : Nat} {a : Act} {w : World} (S : World → Prop) (m : Nat) (hm : P.follows .mixedOrders = true)
    (h : wpAnyM P .any ops Q S m ops.size (Array.replicate ops.size false) a w.drew) : (Code.region id ops true).wp P Q a w :=
  wp_region_any hm (wpAny_of_marked _ _ _ _ h)
/-- a load may be taken first -/
theorem wpAnyM_load (i : Nat) {oi : Oper} {v : Value} {fuel : Nat} {listed : Array Bool} {a : Act} {w : World} (hi : ops[i]? = some oi) (hc : closedB md ops listed = true)
    (hs : Region.noSelect ops = true) (hf : Region.free md ops listed i = true) (hr : (Region.ready md ops listed).contains i = true) (him : i ≠ m) (hw : Region.waitsFor md ops m i = true)
    (hQ : ∀ c a w, Q (.panic c) (a.put oi.dst v) w → Q (.panic c) a w) (hy : YieldsIf P ops S oi v a) (hS : S w)
    (h : wpAnyM P md ops Q S m fuel (listed.setIfInBounds i true) (a.put oi.dst v) w) : wpAnyM P md ops Q S m (fuel + 1) listed a w :=
  wpAnyM_first (T := S) hi (Region.noSelect_spec hs) hQ him (.inr ⟨rfl, [], hw⟩) fuel listed a w (closed_of hc) (Region.free_spec hi hf) (by simpa using hr) hy (fun _ => hS) h
/-- a load may be taken first, if the one that is marked waits for it over others -/
theorem wpAnyM_loadP (p : List Nat) (i : Nat) {oi : Oper} {v : Value} {fuel : Nat} {listed : Array Bool} {a : Act} {w : World} (hi : ops[i]? = some oi) (hc : closedB md ops listed = true)
    (hs : Region.noSelect ops = true) (hf : Region.free md ops listed i = true) (hr : (Region.ready md ops listed).contains i = true) (him : i ≠ m) (hw : pathB md ops m p i = true)
    (hQ : ∀ c a w, Q (.panic c) (a.put oi.dst v) w → Q (.panic c) a w) (hy : YieldsIf P ops S oi v a) (hS : S w)
    (h : wpAnyM P md ops Q S m fuel (listed.setIfInBounds i true) (a.put oi.dst v) w) : wpAnyM P md ops Q S m (fuel + 1) listed a w :=
  wpAnyM_first (T := S) hi (Region.noSelect_spec hs) hQ him (.inr ⟨rfl, p, hw⟩) fuel listed a w (closed_of hc) (Region.free_spec hi hf) (by simpa using hr) hy (fun _ => hS) h
/-- what hangs on no world may be taken first -/
theorem wpAnyM_pure (i : Nat) {oi : Oper} {v : Value} {fuel : Nat} {listed : Array Bool} {a : Act} {w : World} (hi : ops[i]? = some oi) (hc : closedB md ops listed = true)
    (hs : Region.noSelect ops = true) (hf : Region.free md ops listed i = true) (hr : (Region.ready md ops listed).contains i = true) (him : i ≠ m)
    (hQ : ∀ c a w, Q (.panic c) (a.put oi.dst v) w → Q (.panic c) a w) (hy : YieldsIf P ops (fun _ => True) oi v a) (hS : S w)
    (h : wpAnyM P md ops Q S m fuel (listed.setIfInBounds i true) (a.put oi.dst v) w) : wpAnyM P md ops Q S m (fuel + 1) listed a w :=
  wpAnyM_first (T := fun _ => True) hi (Region.noSelect_spec hs) hQ him (.inl fun _ => trivial) fuel listed a w (closed_of hc) (Region.free_spec hi hf) (by simpa using hr) hy (fun _ => hS) h
/-- the one that may come up, comes up -/
theorem wpAnyM_one (i : Nat) {oi : Oper} {fuel : Nat} {listed : Array Bool} {a : Act} {w : World} (hi : ops[i]? = some oi) (hr : Region.ready md ops listed = [i])
    (h : ∀ K' : Act → World → Prop, Shut (∀ a w, S w → wpAnyM P md ops Q S m fuel (listed.setIfInBounds i true) a w → K' a w) → if Region.wanted oi (yielded ops a.tmps) = true then Oper.wp P oi a w K' Q else K' (a.put oi.dst undef) w) :
    wpAnyM P md ops Q S m (fuel + 1) listed a w := by
  refine ⟨fun h0 => (by rw [hr] at h0; cases h0), fun j hj => ?_⟩
  rw [hr] at hj
  obtain rfl : j = i := by simpa using hj
  exact wpOp_step hi (fun K' hK => h K' (fun a w hS hW => hK a w ⟨fun _ => hS, hW⟩))
/-- either of the two that may come up -/
theorem wpAnyM_two (i k : Nat) {oi ok : Oper} {fuel : Nat} {listed : Array Bool} {a : Act} {w : World} (hi : ops[i]? = some oi) (hk : ops[k]? = some ok) (hr : Region.ready md ops listed = [i, k])
    (h : ∀ K' : Act → World → Prop, Shut (∀ a w, S w → wpAnyM P md ops Q S m fuel (listed.setIfInBounds i true) a w → K' a w) → if Region.wanted oi (yielded ops a.tmps) = true then Oper.wp P oi a w K' Q else K' (a.put oi.dst undef) w)
    (h2 : ∀ K' : Act → World → Prop, Shut (∀ a w, S w → wpAnyM P md ops Q S m fuel (listed.setIfInBounds k true) a w → K' a w) → if Region.wanted ok (yielded ops a.tmps) = true then Oper.wp P ok a w K' Q else K' (a.put ok.dst undef) w) :
    wpAnyM P md ops Q S m (fuel + 1) listed a w := by
  refine ⟨fun h0 => (by rw [hr] at h0; cases h0), fun j hj => ?_⟩
  rw [hr] at hj
  simp only [List.mem_cons, List.not_mem_nil, or_false] at hj
  rcases hj with rfl | rfl
  · exact wpOp_step hi (fun K' hK => h K' (fun a w hS hW => hK a w ⟨fun _ => hS, hW⟩))
  · exact wpOp_step hk (fun K' hK => h2 K' (fun a w hS hW => hK a w ⟨fun _ => hS, hW⟩))
/-- the stores, in their order -/
theorem wpAnyM_tail {L : List Oper} {fuel : Nat} {listed : Array Bool} {a : Act} {w : World} (hf : fuel = (L.drop m).length) (hm : m < listed.size) (hm2 : m < L.length)
    (hB : Region.seqB md L.toArray (L.drop m).length m listed = true) (h : wpList P L.toArray Q (L.drop m) a w) : wpAnyM P md L.toArray Q S m fuel listed a w := by
  subst hf
  have e : L.drop m = L[m] :: L.drop (m + 1) := List.drop_eq_getElem_cons hm2
  rw [e] at hB h ⊢
  simp only [List.length_cons, Region.seqB, Bool.and_eq_true, decide_eq_true_eq] at hB ⊢
  refine ⟨fun h0 => (by rw [hB.1] at h0; cases h0), fun j hj => ?_⟩
  rw [hB.1] at hj
  obtain rfl : j = m := by simpa using hj
  have h0 : L.toArray[j]? = some L[j] := by simp [hm2]
  have hl : (listed.setIfInBounds j true).getD j false = true := by simp [hm]
  have hw : wpOp P L.toArray Q j (wpList P L.toArray Q (L.drop (j + 1))) a w := by unfold wpOp; simp only [h0]; exact h
  refine wpOp_mono (fun a' w' h' => ⟨fun h1 => (by rw [hl] at h1; cases h1), marked_of_any _ _ _ _ hl (wpAny_of_seq (L.drop (j + 1)) (j + 1) _ a' w' (fun q => by simp [List.getElem?_drop]) hB.2 h')⟩) hw
end
end Go.Proofs.YtmhekhilgllciaaGreat
/- The contracts of config.matcherText, of config.each of matchers, of binder.bind, of inhibitText and of likeInhibit. -/
namespace Go.Proofs.YtmhekhilgllciaaGreat
open Go.RowKit

set_option maxHeartbeats 1600000 in
set_option maxRecDepth 100000 in
theorem cfgMText_any (xa : Option Addr) (xc : Nat) (x : Mat) (w : World) (h : HasMat w (.agg (matCells xa xc x)) x) : Calls Tryz.prog 67 #[.agg #[.string x.name, .int .i64 x.how, .slice xa x.words.length xc]] w (fun e w' => e = .returned (.string (textV x)) ∧ Below w.heap.size w w') := by
  have hb := (Below.refl w.heap.size w).alloc (Nat.le_refl _) (.cells #[.string x.name, .int .i64 x.how, .slice xa x.words.length xc] 97)
  have hB := Blk.new w 97 #[.string x.name, .int .i64 x.how, .slice xa x.words.length xc]
  have ht := mText_any _ x _ (h.call hb)
  unfold TextPost at ht
  simp only [matCells] at ht
  generalize textV x = V at *
  generalize textE x = E at *
  have HT := Lib.hid ht
  have HB := Lib.hid hb
  obtain ⟨c0, c1, c2⟩ := hB.cells3
  clear ht hb h hB
  go_enter Tryz.func67, Tryz.ntmps67
  go_upto_region 1 with fail
  generalize w.alloc (.cells #[.string x.name, .int .i64 x.how, .slice xa x.words.length xc] 97) = wx at *
  go_wp2_with (go_at_call 113; refine HT.out.mono ?_; rintro e w2 ⟨rfl, hb2⟩)
  go_ret
  exact ⟨rfl, bthen HB.out hb2⟩
set_option maxHeartbeats 3200000 in
set_option maxRecDepth 100000 in
theorem eachM_any (a : Option Addr) (c : Nat) (xs : List Mat) (w : World) (h : HasMats w a c xs) (h8 : xs.length ≤ 1000000) :
    Calls Tryz.prog 66 #[.slice a xs.length c, .func (.func 67) #[] #[]] w (fun e w' => ∃ v, e = .returned v ∧ OwnS 9 w' w.heap.size v (xs.map textV) ∧ Below w.heap.size w w') := by
  obtain ⟨i0, hi, hz0, hz1, hz2⟩ := info_parts Tryz.infoS
  have HH := Lib.hid h
  have h1 := h.1
  have h2 := h.2.1
  unfold maxLen at h2
  clear h
  go_enter Tryz.func66, Tryz.ntmps66
  go_wp2_with fail
  go_loopg [10, 5, 7] xs.length (fun gg iv v _ wr => ∃ (V : Value) (k : Nat), V = v ∧ k + gg = xs.length ∧ iv = .int .i64 (k : Int) ∧ OwnS 9 wr w.heap.size V ((xs.take k).map textV) ∧ Below w.heap.size w wr ∧ w.heap.size ≤ wr.heap.size)
  case atStart => exact ⟨_, 0, rfl, by omega, rfl, OwnS.nil _ _ _, Below.refl _ _, Nat.le_refl _⟩
  case round =>
    obtain ⟨V, k, rfl, hkg, rfl, hown, hbr, hzr⟩ := hrel
    cases gk with
    | zero =>
      obtain rfl : k = xs.length := by omega
      rw [List.take_length] at hown
      have HO := Lib.hid hown
      have HBR := Lib.hid hbr
      clear hown hbr
      go_wp2_with fail
      go_ret
      exact ⟨V, rfl, HO.out, HBR.out⟩
    | succ gg =>
      have hkl : k < xs.length := by omega
      obtain ⟨b, off, rfl, xa, xc, ⟨g0, g1, g2⟩, g3, g4, g5⟩ : ∃ b off, a = some ⟨b, off, none⟩ ∧ ∃ x y,
          (w.cell? ⟨b, off + k * 3, none⟩ = some (.string xs[k].name) ∧ w.cell? ⟨b, off + k * 3 + 1, none⟩ = some (.int .i64 xs[k].how) ∧ w.cell? ⟨b, off + k * 3 + 2, none⟩ = some (.slice x xs[k].words.length y)) ∧ HasStrs w x y xs[k].words ∧ xs[k].name.size ≤ maxLen ∧ (Lit.int .i64 xs[k].how).wf = true := by
        rcases HH.out.2.2 with h | ⟨b, off, h1, _, h3⟩
        · rw [h] at hkl; simp at hkl
        · exact ⟨b, off, h1, h3 k hkl⟩
      have e0 := cellL hbr g0
      have e1 := cellL hbr g1
      have e2 := cellL hbr g2
      have hts : (xs.take (k + 1)).map textV = (xs.take k).map textV ++ [textV xs[k]] := by
        rw [List.take_succ_eq_append_getElem hkl, List.map_append]; rfl
      have hll : ((xs.take k).map textV).length ≤ 1000000 := by simp; omega
      have HTS := Lib.hid hts
      clear hts
      generalize xs[k] = x at *
      have hbn := (Below.refl wr.heap.size wr).alloc (Nat.le_refl _) (.cells #[.string x.name, .int .i64 x.how, .slice xa x.words.length xc] 97)
      have hN := Blk.new wr 97 #[.string x.name, .int .i64 x.how, .slice xa x.words.length xc]
      obtain ⟨f0, f1, f2⟩ := hN.cells3
      have hownn := hown.call hbn
      have hbrn := hbr.trans (hbn.mono hzr)
      have hzn := Nat.le_trans hzr hbn.size
      have hcall := cfgMText_any xa xc x _ (show HasMat (wr.alloc (.cells #[.string x.name, .int .i64 x.how, .slice xa x.words.length xc] 97)) (.agg (matCells xa xc x)) x from ⟨xa, xc, rfl, g3.call (bthen hbr hbn), g4, g5⟩)
      have HCA := Lib.hid hcall
      generalize (xs.take k).map textV = M at *
      clear hN hbn hown hbr hcall g0 g1 g2 g3 g4 g5
      go_upto_region 5 with fail
      generalize wr.alloc (.cells #[.string x.name, .int .i64 x.how, .slice xa x.words.length xc] 97) = wn at *
      clear e0 e1 e2
      generalize textV x = S at *
      go_wp2_with (first
        | (go_at_call 67; refine HCA.out.mono ?_; rintro e w3 ⟨rfl, hb3⟩; have ho3 := hownn.call hb3; have hz3 := Nat.le_trans hzn hb3.size)
        | (refine wpList_pushStr w3 (by rfl) (.tmp 14) (.tmp 18) 24 (by rfl) w.heap.size 9 i0 (.string ⟨#[]⟩) Tryz.underlying24 hi hz0 hz1 hz2 rfl V M S (by rfl) ho3 (by rfl) hll hz3 ?_; intro v4 w4 ho4 hg4))
      have hb4 := ho3.grown (hbrn.trans (hb3.mono hzn)) (Nat.le_refl _) hz3 hg4
      go_roundg gg
      case measure => omega
      case rel => exact ⟨v4, k + 1, rfl, by omega, by go_num, by rw [HTS.out]; exact ho4, hb4, Nat.le_trans hz3 hg4.size⟩
/-- the binder's cell holds a fault; all blocks below B but the binder's are as they were -/
structure BindW (B g : Nat) (w w' : World) : Prop where
  os : w'.os = w.os
  tape : w'.tape = w.tape
  output : w'.output = w.output
  size : w.heap.size ≤ w'.heap.size
  other : ∀ k, k < w.heap.size → k ≠ g → w'.heap[k]? = w.heap[k]?
  cell : ∃ f : Int, Blk w' g 93 #[.int .i64 f]
theorem BindW.below {B g : Nat} {w w' : World} (h : BindW B g w w') (hB : B ≤ w.heap.size) (hg : B ≤ g) : Below B w w' := ⟨h.os, h.tape, h.output, h.size, fun k hk => h.other k (by omega) (by omega)⟩
theorem BindW.blk {B g k : Nat} {t : TypeId} {cs : Array Value} {w w' : World} (h : BindW B g w w') (hk : Blk w k t cs) (hne : k ≠ g) : Blk w' k t cs := (h.other k hk.lt hne).trans hk
set_option maxHeartbeats 1600000 in
set_option maxRecDepth 100000 in
theorem cfgBind_any (g : Nat) (f : Int) (a : Option Addr) (c : Nat) (ss : List ByteArray) (w : World) (hg : Blk w g 93 #[.int .i64 f]) (h : HasStrs w a c ss) (B : Nat) :
    Calls Tryz.prog 65 #[.pointer (some ⟨g, 0, none⟩), .slice a ss.length c] w (fun e w' => e = .returned (.string (bindS ss)) ∧ BindW B g w w') := by
  have hb := bind_any a c ss w h
  have hbe : bindE ss = 0 ∨ bindE ss = 2 := by unfold bindE; split <;> simp
  generalize bindS ss = S at *
  generalize bindE ss = E at *
  have HB := Lib.hid hb
  have HG := Lib.hid hg
  clear hb hg h
  go_enter Tryz.func65, Tryz.ntmps65
  rcases hbe with rfl | rfl
  · go_wp2_with (go_at_call 112; refine HB.out.mono ?_; rintro e w2 ⟨rfl, hb2⟩)
    go_ret
    exact ⟨rfl, hb2.os, hb2.tape, hb2.output, hb2.size, fun k hk _ => hb2.block k hk, f, HG.out.call hb2⟩
  · go_upto_region 3 with (go_at_call 112; refine HB.out.mono ?_; rintro e w2 ⟨rfl, hb2⟩)
    have hG2 := HG.out.call hb2
    have hG3 := hG2.set 0 (.int .i64 2)
    have q0 := hG2.cell 0
    have q1 := hG2.frozen 0
    have HB2 := Lib.hid hb2
    have HG3 := Lib.hid hG3
    clear hb2 hG2 hG3
    go_wp2_with fail
    go_ret
    exact ⟨rfl, HB2.out.os, HB2.out.tape, HB2.out.output, by simpa [World.setCell] using HB2.out.size, fun k hk hne => (Below.heap_setCell w2 ⟨g, 0, none⟩ _ k hne).trans (HB2.out.block k hk), 2, HG3.out⟩
/-- an inhibit's text -/
def inhT (x : InA) : ByteArray := bindS [bindS (x.s.map textV), bindS (x.t.map textV), bindS x.e]
structure InhSt (w : World) (g0 g1 : Nat) (x : InA) (u : World) : Prop where
  below : Below w.heap.size w u
  blk : Blk u g0 51 #[.slice x.sa x.s.length x.sc, .slice x.ta x.t.length x.tc, .slice x.ea x.e.length x.ec]
  bnd : ∃ f : Int, Blk u g1 93 #[.int .i64 f]
  young : w.heap.size ≤ g1
  ne : g0 ≠ g1
theorem InhSt.call {w u u1 : World} {g0 g1 : Nat} {x : InA} (h : InhSt w g0 g1 x u) (hb : Below u.heap.size u u1) : InhSt w g0 g1 x u1 :=
  ⟨bthen h.below hb, h.blk.call hb, by obtain ⟨f, hf⟩ := h.bnd; exact ⟨f, hf.call hb⟩, h.young, h.ne⟩
theorem InhSt.bind {w u u1 : World} {g0 g1 B : Nat} {x : InA} (h : InhSt w g0 g1 x u) (hb : BindW B g1 u u1) : InhSt w g0 g1 x u1 :=
  ⟨h.below.trans ⟨hb.os, hb.tape, hb.output, hb.size, fun k hk => hb.other k (Nat.lt_of_lt_of_le hk h.below.size) (by have := h.young; omega)⟩, hb.blk h.blk h.ne, hb.cell, h.young, h.ne⟩
theorem InhSt.cells {w u : World} {g0 g1 : Nat} {x : InA} (h : InhSt w g0 g1 x u) : (fun w' : World => w'.cell? ⟨g0, 0, none⟩ = some (.slice x.sa x.s.length x.sc) ∧ w'.cell? ⟨g0, 1, none⟩ = some (.slice x.ta x.t.length x.tc) ∧ w'.cell? ⟨g0, 2, none⟩ = some (.slice x.ea x.e.length x.ec)) u := h.blk.cells3
theorem strs3 (W : World) (a b c : ByteArray) (ha : a.size ≤ maxLen) (hb : b.size ≤ maxLen) (hc : c.size ≤ maxLen) : HasStrs (W.alloc (.cells #[.string a, .string b, .string c] 9)) (some ⟨W.heap.size, 0, none⟩) 3 [a, b, c] := by
  have hB := Blk.new W 9 #[.string a, .string b, .string c]
  refine ⟨Nat.le_refl _, by unfold maxLen; omega, fun s hs => ?_, .inr ⟨_, 0, rfl, hB.lt, fun i hi => ?_⟩⟩
  · simp only [List.mem_cons, List.not_mem_nil, or_false] at hs
    rcases hs with rfl | rfl | rfl
    · exact ha
    · exact hb
    · exact hc
  · have hi' : i < 3 := hi
    rcases (by omega : i = 0 ∨ i = 1 ∨ i = 2) with rfl | rfl | rfl
    · exact hB.cell 0
    · exact hB.cell 1
    · exact hB.cell 2
theorem bindS_max (ss : List ByteArray) : (bindS ss).size ≤ maxLen := by
  unfold bindS
  split
  · rename_i h
    obtain ⟨h1, h2⟩ := mayB_true h
    have := bindL_len ss (fun s hs => by have := h2 s hs; omega)
    show (bindL ss).toArray.size ≤ maxLen
    rw [List.size_toArray]
    unfold maxLen
    omega
  · show 0 ≤ maxLen
    omega
theorem textV_max (m : Mat) : (textV m).size ≤ maxLen := by
  unfold textV
  split
  · rename_i h
    obtain ⟨h1, h2, h3, h4⟩ := right_words h
    have := joinW_len m.words h1 h3
    show (textM m).toArray.size ≤ maxLen
    rw [List.size_toArray]
    have hn : m.name.data.toList.length = m.name.size := by simp
    have hs : (signT m.how).length ≤ 2 := by
      obtain ⟨_, k1, k4, _⟩ := (rightM_iff m).1 h
      rcases (by omega : m.how = 1 ∨ m.how = 2 ∨ m.how = 3 ∨ m.how = 4) with e | e | e | e <;> rw [e] <;> decide
    simp only [textM, List.length_append, List.length_cons, List.length_nil]
    unfold maxLen
    omega
  · show 0 ≤ maxLen
    omega
set_option maxHeartbeats 12800000 in
set_option maxRecDepth 100000 in
theorem inhText_any (x : InA) (w : World) (h : InA.ok w x) (h1 : x.s.length ≤ 1000000) (h2 : x.t.length ≤ 1000000) : Calls Tryz.prog 21 #[.agg #[.slice x.sa x.s.length x.sc, .slice x.ta x.t.length x.tc, .slice x.ea x.e.length x.ec]] w (fun e w' => e = .returned (.string (inhT x)) ∧ Below w.heap.size w w') := by
  have hb0 := balR (o := .cells #[.slice x.sa x.s.length x.sc, .slice x.ta x.t.length x.tc, .slice x.ea x.e.length x.ec] 51) (Below.refl w.heap.size w)
  have hb1 := balR (o := .cells #[.int .i64 0] 93) hb0
  have hA := (Blk.new w 51 #[.slice x.sa x.s.length x.sc, .slice x.ta x.t.length x.tc, .slice x.ea x.e.length x.ec]).alloc (.cells #[.int .i64 0] 93)
  have hB := nbR w (.cells #[.slice x.sa x.s.length x.sc, .slice x.ta x.t.length x.tc, .slice x.ea x.e.length x.ec] 51) #[.int .i64 0] 93
  obtain ⟨MS, hMS⟩ : ∃ M, x.s.map textV = M := ⟨_, rfl⟩
  obtain ⟨MT, hMT⟩ : ∃ M, x.t.map textV = M := ⟨_, rfl⟩
  have hI : inhT x = bindS [bindS MS, bindS MT, bindS x.e] := by rw [← hMS, ← hMT]; rfl
  rw [hI]
  have HE1 := Lib.hid (fun u (hu : Below w.heap.size w u) => eachM_any x.sa x.sc x.s u (h.1.call hu) h1)
  have HE2 := Lib.hid (fun u (hu : Below w.heap.size w u) => eachM_any x.ta x.tc x.t u (h.2.1.call hu) h2)
  simp only [hMS] at HE1
  simp only [hMT] at HE2
  have HX := Lib.hid h
  have HZ1 := Lib.hid (show ∀ s ∈ MS, s.size ≤ maxLen from fun s hs => by rw [← hMS] at hs; obtain ⟨m, _, rfl⟩ := List.mem_map.1 hs; exact textV_max m)
  have HZ2 := Lib.hid (show ∀ s ∈ MT, s.size ≤ maxLen from fun s hs => by rw [← hMT] at hs; obtain ⟨m, _, rfl⟩ := List.mem_map.1 hs; exact textV_max m)
  have HZ3 := Lib.hid (And.intro (bindS_max MS) (And.intro (bindS_max MT) (bindS_max x.e)))
  clear hMS hMT hI
  have hst : InhSt w w.heap.size (w.heap.size + 1) x ((w.alloc (.cells #[.slice x.sa x.s.length x.sc, .slice x.ta x.t.length x.tc, .slice x.ea x.e.length x.ec] 51)).alloc (.cells #[.int .i64 0] 93)) := ⟨hb1, hA, ⟨0, hB⟩, by omega, by omega⟩
  clear hb0 hb1 hA hB h h1 h2
  go_enter Tryz.func21, Tryz.ntmps21
  go_upto_region 2 with fail
  obtain ⟨g0, hg⟩ : ∃ g, w.heap.size = g := ⟨_, rfl⟩
  generalize (w.alloc (.cells #[.slice x.sa x.s.length x.sc, .slice x.ta x.t.length x.tc, .slice x.ea x.e.length x.ec] 51)).alloc (.cells #[.int .i64 0] 93) = wx at *
  rw [hg] at hst ⊢
  clear hg
  have s0 : InhSt w g0 (g0 + 1) x wx.drew := hst.call (Below.refl _ _).drew
  have hS := s0.cells
  refine wp_region_marked (fun w' : World => w'.cell? ⟨g0, 0, none⟩ = some (.slice x.sa x.s.length x.sc) ∧ w'.cell? ⟨g0, 1, none⟩ = some (.slice x.ta x.t.length x.tc) ∧ w'.cell? ⟨g0, 2, none⟩ = some (.slice x.ea x.e.length x.ec)) 13 (by kernel_rfl) ?_
  refine wpAnyM_pure (v := ?v0) 0 rfl (by kernel_rfl) (by kernel_rfl) (by kernel_rfl) (by kernel_rfl) (by decide) (fun _ _ _ h => h) (Or.inl ⟨by rfl, ?hy0⟩) hS ?rest0
  case hy0 => intro wq hSw; go_simp; (try with_reducible rfl)
  case rest0 =>
  try simp only [Act.put, List.setIfInBounds_toArray]
  refine wpAnyM_loadP [] (v := ?v1) 1 rfl (by kernel_rfl) (by kernel_rfl) (by kernel_rfl) (by kernel_rfl) (by decide) (by kernel_rfl) (fun _ _ _ h => h) (Or.inl ⟨by rfl, ?hy1⟩) hS ?rest1
  case hy1 => intro wq hSw; (try dsimp only at hSw); obtain ⟨c0, c1, c2⟩ := hSw; go_simp; (try with_reducible rfl)
  case rest1 =>
  try simp only [Act.put]
  refine wpAnyM_pure (v := ?v4) 4 rfl (by kernel_rfl) (by kernel_rfl) (by kernel_rfl) (by kernel_rfl) (by decide) (fun _ _ _ h => h) (Or.inl ⟨by rfl, ?hy4⟩) hS ?rest4
  case hy4 => intro wq hSw; go_simp; (try with_reducible rfl)
  case rest4 =>
  try simp only [Act.put]
  refine wpAnyM_loadP [] (v := ?v5) 5 rfl (by kernel_rfl) (by kernel_rfl) (by kernel_rfl) (by kernel_rfl) (by decide) (by kernel_rfl) (fun _ _ _ h => h) (Or.inl ⟨by rfl, ?hy5⟩) hS ?rest5
  case hy5 => intro wq hSw; (try dsimp only at hSw); obtain ⟨c0, c1, c2⟩ := hSw; go_simp; (try with_reducible rfl)
  case rest5 =>
  try simp only [Act.put]
  refine wpAnyM_pure (v := ?v8) 8 rfl (by kernel_rfl) (by kernel_rfl) (by kernel_rfl) (by kernel_rfl) (by decide) (fun _ _ _ h => h) (Or.inl ⟨by rfl, ?hy8⟩) hS ?rest8
  case hy8 => intro wq hSw; go_simp; (try with_reducible rfl)
  case rest8 =>
  try simp only [Act.put]
  refine wpAnyM_loadP [] (v := ?v9) 9 rfl (by kernel_rfl) (by kernel_rfl) (by kernel_rfl) (by kernel_rfl) (by decide) (by kernel_rfl) (fun _ _ _ h => h) (Or.inl ⟨by rfl, ?hy9⟩) hS ?rest9
  case hy9 => intro wq hSw; (try dsimp only at hSw); obtain ⟨c0, c1, c2⟩ := hSw; go_simp; (try with_reducible rfl)
  case rest9 =>
  try simp only [Act.put]
  refine wpAnyM_one 2 rfl (by kernel_rfl) (fun K hK => ?_)
  go_simp
  go_at_call 66
  refine (HE1.out _ s0.below).mono ?_
  rintro e u1 ⟨v1, rfl, ho1, hd1⟩
  obtain ⟨a1, c1, rfl, hs1⟩ := ho1.strs HZ1.out
  have s1 := s0.call hd1
  refine hK.out _ _ s1.cells ?_
  clear hS
  have hS := s1.cells
  clear hK
  try simp only [Act.put, List.setIfInBounds_toArray, List.set_cons_zero, List.set_cons_succ]
  refine wpAnyM_one 3 rfl (by kernel_rfl) (fun K hK => ?_)
  go_simp
  obtain ⟨f2, hf2⟩ := s1.bnd
  go_at_call 65
  refine (cfgBind_any (g0 + 1) f2 a1 c1 MS _ hf2 hs1 w.heap.size).mono ?_
  rintro e u2 ⟨rfl, hd2⟩
  have s2 := s1.bind hd2
  refine hK.out _ _ s2.cells ?_
  clear hS
  have hS := s2.cells
  clear hK
  try simp only [Act.put, List.setIfInBounds_toArray, List.set_cons_zero, List.set_cons_succ]
  refine wpAnyM_one 6 rfl (by kernel_rfl) (fun K hK => ?_)
  go_simp
  go_at_call 66
  refine (HE2.out _ s2.below).mono ?_
  rintro e u3 ⟨v3, rfl, ho3, hd3⟩
  obtain ⟨a3, c3, rfl, hs3⟩ := ho3.strs HZ2.out
  have s3 := s2.call hd3
  refine hK.out _ _ s3.cells ?_
  clear hS
  have hS := s3.cells
  clear hK
  try simp only [Act.put, List.setIfInBounds_toArray, List.set_cons_zero, List.set_cons_succ]
  refine wpAnyM_one 7 rfl (by kernel_rfl) (fun K hK => ?_)
  go_simp
  obtain ⟨f4, hf4⟩ := s3.bnd
  go_at_call 65
  refine (cfgBind_any (g0 + 1) f4 a3 c3 MT _ hf4 hs3 w.heap.size).mono ?_
  rintro e u4 ⟨rfl, hd4⟩
  have s4 := s3.bind hd4
  refine hK.out _ _ s4.cells ?_
  clear hS
  have hS := s4.cells
  clear hK
  try simp only [Act.put, List.setIfInBounds_toArray, List.set_cons_zero, List.set_cons_succ]
  refine wpAnyM_one 10 rfl (by kernel_rfl) (fun K hK => ?_)
  go_simp
  obtain ⟨f5, hf5⟩ := s4.bnd
  go_at_call 65
  refine (cfgBind_any (g0 + 1) f5 x.ea x.ec x.e _ hf5 (HX.out.2.2.1.call s4.below) w.heap.size).mono ?_
  rintro e u5 ⟨rfl, hd5⟩
  have s5 := s4.bind hd5
  refine hK.out _ _ s5.cells ?_
  clear hS
  have hS := s5.cells
  clear hK
  try simp only [Act.put, List.setIfInBounds_toArray, List.set_cons_zero, List.set_cons_succ]
  refine wpAnyM_one 11 rfl (by kernel_rfl) (fun K hK => ?_)
  go_simp
  have hn6 := (Below.refl u5.heap.size u5).alloc (Nat.le_refl _) (.cells #[.string (bindS MS), .string (bindS MT), .string (bindS x.e)] 9)
  have s6 := s5.call hn6
  have hr6 := strs3 u5 (bindS MS) (bindS MT) (bindS x.e) HZ3.out.1 HZ3.out.2.1 HZ3.out.2.2
  refine hK.out _ _ s6.cells ?_
  clear hS
  have hS := s6.cells
  clear hK
  try simp only [Act.put, List.setIfInBounds_toArray, List.set_cons_zero, List.set_cons_succ]
  refine wpAnyM_one 12 rfl (by kernel_rfl) (fun K hK => ?_)
  go_simp
  obtain ⟨f7, hf7⟩ := s6.bnd
  go_at_call 65
  refine (cfgBind_any (g0 + 1) f7 (some ⟨u5.heap.size, 0, none⟩) 3 [bindS MS, bindS MT, bindS x.e] _ hf7 hr6 w.heap.size).mono ?_
  rintro e u7 ⟨rfl, hd7⟩
  have s7 := s6.bind hd7
  refine hK.out _ _ s7.cells ?_
  clear hS
  have hS := s7.cells
  clear hK
  try simp only [Act.put, List.setIfInBounds_toArray, List.set_cons_zero, List.set_cons_succ]
  refine wpAnyM_tail rfl (by decide) (by decide) (by kernel_rfl) ?_
  simp only [List.drop_succ_cons, List.drop_zero]
  go_wp2_with fail
  go_ret
  exact ⟨rfl, s7.below⟩
end Go.Proofs.YtmhekhilgllciaaGreat
/- The contract of config.likeInhibit. -/
namespace Go.Proofs.YtmhekhilgllciaaGreat
open Go.RowKit

/-- two inhibits are the same -/
def likeI (x y : InA) : Prop := x.s = y.s ∧ x.t = y.t ∧ x.e = y.e
set_option maxHeartbeats 3200000 in
set_option maxRecDepth 100000 in
theorem likeInh_any (x y : InA) (w : World) (hx : InA.ok w x) (hy : InA.ok w y) : Calls Tryz.prog 22 #[.agg #[.slice x.sa x.s.length x.sc, .slice x.ta x.t.length x.tc, .slice x.ea x.e.length x.ec], .agg #[.slice y.sa y.s.length y.sc, .slice y.ta y.t.length y.tc, .slice y.ea y.e.length y.ec]] w (BoolB (eqB (likeI x y)) w) := by
  have hb := balR (o := .cells #[.slice x.sa x.s.length x.sc, .slice x.ta x.t.length x.tc, .slice x.ea x.e.length x.ec] 51) (Below.refl w.heap.size w)
  have hb2 := balR (o := .cells #[.slice y.sa y.s.length y.sc, .slice y.ta y.t.length y.tc, .slice y.ea y.e.length y.ec] 51) hb
  have hA := (Blk.new w 51 #[.slice x.sa x.s.length x.sc, .slice x.ta x.t.length x.tc, .slice x.ea x.e.length x.ec]).alloc (.cells #[.slice y.sa y.s.length y.sc, .slice y.ta y.t.length y.tc, .slice y.ea y.e.length y.ec] 51)
  have hB := nbR w (.cells #[.slice x.sa x.s.length x.sc, .slice x.ta x.t.length x.tc, .slice x.ea x.e.length x.ec] 51) #[.slice y.sa y.s.length y.sc, .slice y.ta y.t.length y.tc, .slice y.ea y.e.length y.ec] 51
  have H1 := Lib.hid (fun W (hW : Below w.heap.size w W) => eqMats_any x.sa y.sa x.sc y.sc x.s y.s W (hx.1.call hW) (hy.1.call hW))
  have H2 := Lib.hid (fun W (hW : Below w.heap.size w W) => eqMats_any x.ta y.ta x.tc y.tc x.t y.t W (hx.2.1.call hW) (hy.2.1.call hW))
  have H3 := Lib.hid (fun W (hW : Below w.heap.size w W) => equalD_any x.ea y.ea x.ec y.ec x.e y.e W (hx.2.2.1.call hW) (hy.2.2.1.call hW))
  have hR : eqB (likeI x y) = (eqB (x.s = y.s) && (eqB (x.t = y.t) && decide (x.e = y.e))) := by
    unfold likeI
    rw [eqB_and, eqB_and, eqB_dec (x.e = y.e)]
  rw [hR]
  generalize eqB (x.s = y.s) = B1 at *
  generalize eqB (x.t = y.t) = B2 at *
  generalize decide (x.e = y.e) = B3 at *
  have HB := Lib.hid hb2
  clear hb hb2 hx hy hR
  obtain ⟨s, t, e, sa, sc, ta, tc, ea, ec⟩ := x
  obtain ⟨s', t', e', sa', sc', ta', tc', ea', ec'⟩ := y
  simp only at *
  go_enter Tryz.func22, Tryz.ntmps22
  go_upto_region 1 with fail
  obtain ⟨g, hg⟩ : ∃ g, w.heap.size = g := ⟨_, rfl⟩
  generalize (w.alloc (.cells #[.slice sa s.length sc, .slice ta t.length tc, .slice ea e.length ec] 51)).alloc (.cells #[.slice sa' s'.length sc', .slice ta' t'.length tc', .slice ea' e'.length ec'] 51) = wx at *
  rw [hg] at hA hB ⊢
  clear hg
  obtain ⟨c0, c1, c2⟩ := hA.cells3
  obtain ⟨d0, d1, d2⟩ := hB.cells3
  cases B1
  case false =>
    go_wp2_with (go_at_call 68; (with_reducible refine (H1.out _ HB.out).mono ?_); rintro e w2 ⟨rfl, hb2⟩)
    go_ret
    exact ⟨rfl, bthen HB.out hb2⟩
  cases B2
  case false =>
    go_wp2_with (first
      | (go_at_call 68; (with_reducible refine (H1.out _ HB.out).mono ?_); rintro e w2 ⟨rfl, hb2⟩; obtain ⟨p0, p1, p2⟩ := (hA.call hb2).cells3; obtain ⟨q0, q1, q2⟩ := (hB.call hb2).cells3)
      | (go_at_call 68; (with_reducible refine (H2.out _ (bthen HB.out hb2)).mono ?_); rintro e w3 ⟨rfl, hb3⟩))
    go_ret
    exact ⟨rfl, bthen HB.out (bthen hb2 hb3)⟩
  go_wp2_with (first
    | (go_at_call 68; (with_reducible refine (H1.out _ HB.out).mono ?_); rintro e w2 ⟨rfl, hb2⟩; obtain ⟨p0, p1, p2⟩ := (hA.call hb2).cells3; obtain ⟨q0, q1, q2⟩ := (hB.call hb2).cells3)
    | (go_at_call 68; (with_reducible refine (H2.out _ (bthen HB.out hb2)).mono ?_); rintro e w3 ⟨rfl, hb3⟩; obtain ⟨r0, r1, r2⟩ := ((hA.call hb2).call hb3).cells3; obtain ⟨u0, u1, u2⟩ := ((hB.call hb2).call hb3).cells3)
    | (go_at_call 52; (with_reducible refine (H3.out _ (bthen HB.out (bthen hb2 hb3))).mono ?_); rintro e w4 ⟨rfl, hb4⟩))
  go_ret
  exact ⟨by simp, bthen HB.out (bthen hb2 (bthen hb3 hb4))⟩
end Go.Proofs.YtmhekhilgllciaaGreat
/- The contract of the comparison that config.sorted of inhibits sorts by. -/
namespace Go.Proofs.YtmhekhilgllciaaGreat
open Go.RowKit Go.Sort Go.Lib Go.Shelf

instance : Inhabited InA := ⟨⟨[], [], [], none, 0, none, 0, none, 0⟩⟩
theorem InA.enc_len (x : InA) : x.enc.length = 3 := rfl
theorem InA.enc_one (x : InA) : ∀ v ∈ x.enc, v.oneCell' = true := by
  intro v hv
  simp only [InA.enc, List.mem_cons, List.not_mem_nil, or_false] at hv
  rcases hv with rfl | rfl | rfl <;> rfl
/-- an inhibit in memory whose lists are not too long -/
def InA.fit (w : World) (x : InA) : Prop := InA.ok w x ∧ x.s.length ≤ 1000000 ∧ x.t.length ≤ 1000000
theorem InA.fit.call {w w1 : World} {x : InA} (h : InA.fit w x) (hb : Below w.heap.size w w1) : InA.fit w1 x := ⟨InA.ok.call h.1 hb, h.2⟩
set_option maxHeartbeats 3200000 in
set_option maxRecDepth 100000 in
theorem cmpI_any (x y : InA) (g : Nat) (w : World) (hx : InA.fit w x) (hy : InA.fit w y) (hg : Blk w g 53 #[.func (.func 21) #[] #[]]) :
    Calls Tryz.prog 64 #[.agg #[.slice x.sa x.s.length x.sc, .slice x.ta x.t.length x.tc, .slice x.ea x.e.length x.ec], .agg #[.slice y.sa y.s.length y.sc, .slice y.ta y.t.length y.tc, .slice y.ea y.e.length y.ec], .pointer (some ⟨g, 0, none⟩)] w fun e w' => e = .returned (.int .i64 (cmpN inhT x y)) ∧ Below w.heap.size w w' := by
  have hb := balR (o := .cells #[.slice x.sa x.s.length x.sc, .slice x.ta x.t.length x.tc, .slice x.ea x.e.length x.ec] 51) (Below.refl w.heap.size w)
  have hb2 := balR (o := .cells #[.slice y.sa y.s.length y.sc, .slice y.ta y.t.length y.tc, .slice y.ea y.e.length y.ec] 51) hb
  have hX := (Blk.new w 51 #[.slice x.sa x.s.length x.sc, .slice x.ta x.t.length x.tc, .slice x.ea x.e.length x.ec]).alloc (.cells #[.slice y.sa y.s.length y.sc, .slice y.ta y.t.length y.tc, .slice y.ea y.e.length y.ec] 51)
  have hY := nbR w (.cells #[.slice x.sa x.s.length x.sc, .slice x.ta x.t.length x.tc, .slice x.ea x.e.length x.ec] 51) #[.slice y.sa y.s.length y.sc, .slice y.ta y.t.length y.tc, .slice y.ea y.e.length y.ec] 51
  have hG := (hg.alloc (.cells #[.slice x.sa x.s.length x.sc, .slice x.ta x.t.length x.tc, .slice x.ea x.e.length x.ec] 51)).alloc (.cells #[.slice y.sa y.s.length y.sc, .slice y.ta y.t.length y.tc, .slice y.ea y.e.length y.ec] 51)
  have H1 := Lib.hid (fun W (hW : Below w.heap.size w W) => inhText_any x W (InA.ok.call hx.1 hW) hx.2.1 hx.2.2)
  have H2 := Lib.hid (fun W (hW : Below w.heap.size w W) => inhText_any y W (InA.ok.call hy.1 hW) hy.2.1 hy.2.2)
  obtain ⟨K, hK⟩ : ∃ K, cmpN inhT x y = K := ⟨_, rfl⟩
  have HC := Lib.hid (fun W => show Calls Tryz.prog 58 #[.string (inhT x), .string (inhT y)] W (fun e w' => e = .returned (.int .i64 K) ∧ W = w') from (Tryz.strings_Compare (inhT x) (inhT y) W).mono fun e w' ⟨he, hw⟩ => ⟨by rw [he, ← hK]; rfl, hw.symm⟩)
  rw [hK]
  clear hK
  generalize inhT x = TX at *
  generalize inhT y = TY at *
  have HB := Lib.hid hb2
  clear hb hb2 hx hy hg
  obtain ⟨s, t, e, sa, sc, ta, tc, ea, ec⟩ := x
  obtain ⟨s', t', e', sa', sc', ta', tc', ea', ec'⟩ := y
  simp only at *
  go_enter Tryz.func64, Tryz.ntmps64
  go_upto_region 1 with fail
  obtain ⟨u, hu⟩ : ∃ u, w.heap.size = u := ⟨_, rfl⟩
  generalize (w.alloc (.cells #[.slice sa s.length sc, .slice ta t.length tc, .slice ea e.length ec] 51)).alloc (.cells #[.slice sa' s'.length sc', .slice ta' t'.length tc', .slice ea' e'.length ec'] 51) = wx at *
  rw [hu] at hX hY ⊢
  have HB2 : Hid (Below wx.heap.size wx wx) := Below.refl _ _
  have hu1 := HB.out.size
  rw [hu] at hu1
  have HU := Lib.hid hu
  clear hu
  obtain ⟨c0, c1, c2⟩ := hX.cells3
  obtain ⟨d0, d1, d2⟩ := hY.cells3
  have g0 := hG.cell 0
  simp only [List.getElem?_toArray, List.getElem?_cons_zero] at g0
  have c0 := fun x => later_cell c0 x
  have c1 := fun x => later_cell c1 x
  have c2 := fun x => later_cell c2 x
  have d0 := fun x => later_cell d0 x
  have d1 := fun x => later_cell d1 x
  have d2 := fun x => later_cell d2 x
  have g0 := fun x => later_cell g0 x
  have HL : Hid (∀ z, Below w.heap.size w (later wx z)) := fun z => HB.out.trans ((later_below wx z).mono (by rw [HU.out]; exact hu1))
  clear hX hY hG hu1
  refine wp_region_later (by kernel_rfl) (by kernel_rfl) ?_
  repeat (go_big_quiet_step (first
    | (go_at_call 21; first | (with_reducible exact calls_later (H1.out _ (HL.out _))) | (with_reducible exact calls_later (H2.out _ (HL.out _))))
    | (go_at_call 58; exact calls_later_same (HC.out _))))
  refine wpQuiet_nil ?_
  rintro _ ⟨z, rfl⟩
  have hb3 := HL.out z
  generalize later wx z = w2 at *
  go_wp2_with fail
  go_ret
  exact ⟨rfl, hb3⟩
end Go.Proofs.YtmhekhilgllciaaGreat
/- The sort of inhibits: slices.SortFunc at twelve of them or fewer. -/
namespace Go.Proofs.YtmhekhilgllciaaGreat
open Go.RowKit Go.Sort Go.Lib Go.Shelf

section
variable {A : Type} [Inhabited A] {enc : A → List Value} {k : Nat}
theorem OwnX.swap {T : TypeId} {w : World} {base g cap : Nat} {d : Array A} {n : Nat} (hk : ∀ x, (enc x).length = k) (hn : d.size = n) (h : OwnX T k enc w base (.slice (some ⟨g, 0, none⟩) n cap) d.toList) (i j : Nat) (hi : i < n) (hj : j < n) :
    OwnX T k enc ((w.drew.setCells g (0 + i * k) (enc d[j]!)).setCells g (0 + j * k) (enc d[i]!)) base (.slice (some ⟨g, 0, none⟩) n cap) (swp d i j).toList ∧ Below base w ((w.drew.setCells g (0 + i * k) (enc d[j]!)).setCells g (0 + j * k) (enc d[i]!)) := by
  subst hn
  have h' : OwnX T k enc w base (.slice (some ⟨g, 0, none⟩) d.toList.length cap) d.toList := by simpa using h
  have hH := h'.holds hk
  rw [show d.toList.toArray = d by simp] at hH
  have hlt := (World.ownsRow.lt h' g rfl)
  have e0 : sortWorldK enc k w g 0 0 d #[] = w := by
    unfold sortWorldK
    rw [grow_empty]
    exact putRowK_self enc k w g 0 d hH
  have e1 := sortWorldK_swp_c enc k w g 0 hk 0 d #[] hlt.2 i j hi hj
  rw [e0] at e1
  rw [e1]
  have ho := h'.sorted (ys := (swp d i j).toList) (m := 1) (os := #[]) hk (by simp [size_swp])
  rw [show (swp d i j).toList.toArray = swp d i j by simp] at ho
  refine ⟨by simpa using ho, rfl, rfl, rfl, size_sortK _ _ _ _ _, fun q hq => heap_sortK w g 1 q _ #[] (by omega) (by omega)⟩
end
theorem all_swp {xs : List InA} {d : Array InA} {n : Nat} (hn : d.size = n) (h : ∀ i, i < n → d[i]! ∈ xs) (i j : Nat) (hi : i < n) (hj : j < n) : ∀ q, q < n → (swp d i j)[q]! ∈ xs := by
  intro q hq
  subst hn
  rw [swp_get d hi hj q]
  split
  · exact h _ hi
  · split
    · exact h _ hj
    · exact h _ hq
theorem drew_set1 (w : World) (p : Addr) (v : Value) : w.drew.setCell p v = (w.setCell p v).drew := rfl
theorem two_set (w : World) (g p q : Nat) (a b c a' b' c' : Value) : (w.drew.setCells g p [a, b, c]).setCells g q [a', b', c'] = ((((((w.setCell ⟨g, p, none⟩ a).setCell ⟨g, p + 1, none⟩ b).setCell ⟨g, p + 2, none⟩ c).setCell ⟨g, q, none⟩ a').setCell ⟨g, q + 1, none⟩ b').setCell ⟨g, q + 2, none⟩ c').drew := by
  simp only [World.setCells, drew_set1]
/-- what a sort asks of the comparison -/
def CmpOf (xs : List InA) (base f : Nat) (w : World) : Prop := ∀ W, Below base w W → ∀ x ∈ xs, ∀ y ∈ xs,
  Calls Tryz.prog 64 #[.agg #[.slice x.sa x.s.length x.sc, .slice x.ta x.t.length x.tc, .slice x.ea x.e.length x.ec], .agg #[.slice y.sa y.s.length y.sc, .slice y.ta y.t.length y.tc, .slice y.ea y.e.length y.ec], .pointer (some ⟨f, 0, none⟩)] W fun e w' => e = .returned (.int .i64 (cmpN inhT x y)) ∧ Below W.heap.size W w'
theorem cells_row {T : TypeId} {w : World} {base g cap n : Nat} {d : Array InA} (hn : d.size = n) (h : OwnX T 3 InA.enc w base (.slice (some ⟨g, 0, none⟩) n cap) d.toList) (i : Nat) (hi : i < n) :
    w.cell? ⟨g, i * 3, none⟩ = some (.slice d[i]!.sa d[i]!.s.length d[i]!.sc) ∧ w.cell? ⟨g, i * 3 + 1, none⟩ = some (.slice d[i]!.ta d[i]!.t.length d[i]!.tc) ∧ w.cell? ⟨g, i * 3 + 2, none⟩ = some (.slice d[i]!.ea d[i]!.e.length d[i]!.ec) := by
  subst hn
  have h' : OwnX T 3 InA.enc w base (.slice (some ⟨g, 0, none⟩) d.toList.length cap) d.toList := by simpa using h
  have hc : ∀ j, j < 3 → w.cell? ⟨g, i * 3 + j, none⟩ = (InA.enc d[i]!)[j]? := fun j hj => by
    rw [World.ownsRow.cellAt h' (i * 3 + j) (by simp; omega), rowV_get InA.enc_len d.toList i (by simpa using hi) j hj]
    simp [hi]
  exact ⟨hc 0 (by omega), hc 1 (by omega), hc 2 (by omega)⟩
theorem OwnX.unfrozen {A : Type} {enc : A → List Value} {k : Nat} {T : TypeId} {w : World} {base g cap n : Nat} {xs : List A} (h : OwnX T k enc w base (.slice (some ⟨g, 0, none⟩) n cap) xs) (i : Nat) : w.frozen? ⟨g, i, none⟩ = false := by
  rcases h.2 with ⟨hv, _⟩ | ⟨g1, c1, cur, hv, hb, hg, hn, hm, hcs, ht⟩
  · cases hv
  · simp only [Value.slice.injEq, Option.some.injEq, Addr.mk.injEq] at hv
    obtain ⟨⟨rfl, _, _⟩, _, rfl⟩ := hv
    simp [World.frozen?, hg]
set_option maxHeartbeats 6400000 in
set_option maxRecDepth 1000000 in
theorem insI_any (base g cap f n : Nat) (xs : List InA) (d : Array InA) (w : World) (hn : d.size = n) (h : OwnX 51 3 InA.enc w base (.slice (some ⟨g, 0, none⟩) n cap) d.toList) (hin : ∀ i, i < n → d[i]! ∈ xs) (hc : CmpOf xs base f w) (h8 : n ≤ 1000000) :
    Calls Tryz.prog 160 #[.slice (some ⟨g, 0, none⟩) n cap, .int .i64 0, .int .i64 n, .func (.func 64) #[] #[.pointer (some ⟨f, 0, none⟩)]] w
      (fun e w' => e = .returned (.tuple #[]) ∧ OwnX 51 3 InA.enc w' base (.slice (some ⟨g, 0, none⟩) n cap) (Sort.insertionSort (ltOf (cmpN inhT)) d 0 n).toList ∧ Below base w w') := by
  have HC := Lib.hid hc
  have HS := Lib.hid h
  have HIN := Lib.hid hin
  have hbg := (World.ownsRow.lt h g rfl)
  have HBG := Lib.hid hbg
  clear hc h hin hbg
  go_enter Tryz.func160, Tryz.ntmps160
  go_wp2_with fail
  go_loopg [8] n (fun g1 vi wr => ∃ (i : Nat) (dk : Array InA), vi = .int .i64 (i : Int) ∧ 0 < i ∧ i ≤ n + 1 ∧ n + 1 - i ≤ g1 + 1 ∧ dk.size = n ∧ Hid (OwnX 51 3 InA.enc wr base (.slice (some ⟨g, 0, none⟩) n cap) dk.toList) ∧ Hid (∀ i, i < n → dk[i]! ∈ xs) ∧ Hid (Below base w wr) ∧ Hid (insOuter (ltOf (cmpN inhT)) 0 n i dk = insOuter (ltOf (cmpN inhT)) 0 n 1 d))
  case atStart => exact ⟨1, d, by go_num, by omega, by omega, by omega, hn, HS, HIN, Below.refl _ _, rfl⟩
  case round =>
    obtain ⟨i, dk, rfl, hai, hib, hg1, hsk, HO1, HI1, HB1, HO⟩ := hrel
    by_cases hlt : i < n
    · have hltz : (i : Int) < (n : Int) := by omega
      go_wp2_with fail
      go_loopg [9] i (fun g2 vj wr2 => ∃ (j : Nat) (dj : Array InA), vj = .int .i64 (j : Int) ∧ j ≤ i ∧ j ≤ g2 ∧ dj.size = n ∧ Hid (OwnX 51 3 InA.enc wr2 base (.slice (some ⟨g, 0, none⟩) n cap) dj.toList) ∧ Hid (∀ i, i < n → dj[i]! ∈ xs) ∧ Hid (Below base w wr2) ∧ Hid (insInner (ltOf (cmpN inhT)) 0 j dj = insInner (ltOf (cmpN inhT)) 0 i dk))
      case atStart => exact ⟨i, dk, rfl, Nat.le_refl _, Nat.le_refl _, hsk, HO1, HI1, HB1, rfl⟩
      case round =>
        obtain ⟨j, dj, rfl, hji, hg2, hsj, HO2, HI2, HB2, HI⟩ := hrel
        have out : (j ≤ 0 ∨ ltOf (cmpN inhT) dj[j]! dj[j - 1]! = false) → Hid (insOuter (ltOf (cmpN inhT)) 0 n (i + 1) dj = insOuter (ltOf (cmpN inhT)) 0 n 1 d) := fun hs => by
          show _ = _
          rw [← HO.out, insOuter_go _ _ _ _ _ hlt, ← HI.out, insInner_stop _ _ _ _ hs]
        have OUT := Lib.hid out
        clear out
        by_cases hja : 0 < j
        · obtain ⟨jp, rfl⟩ : ∃ jp, j = jp + 1 := ⟨j - 1, by omega⟩
          have hjaz : (0 : Int) < (jp : Int) + 1 := by omega
          have hjn : jp + 1 < n := by omega
          obtain ⟨xj, hxj⟩ : ∃ x, dj[jp + 1]! = x := ⟨_, rfl⟩
          obtain ⟨xp, hxp⟩ : ∃ x, dj[jp]! = x := ⟨_, rfl⟩
          have hwp : IntKind.i64.wrap (jp : Int) = (jp : Int) := by rw [IntKind.wrap_i64]; omega
          have hw1 : IntKind.i64.wrap ((jp : Int) + 1 - 1) = (jp : Int) := by rw [IntKind.wrap_i64]; omega
          have jz : (jp : Int) + 1 < (n : Int) := by omega
          have jz1 : (jp : Int) < (n : Int) := by omega
          have p0 : (0 : Int) ≤ (jp : Int) + 1 := by omega
          have e0 : ((jp : Int) + 1).toNat = jp + 1 := by omega
          have HCM := Lib.hid (fun z => HC.out _ (HB2.out.trans ((later_below wr z).mono (by have := HB2.out.size; have := HBG.out; omega))) xj (by rw [← hxj]; exact HI2.out _ (by omega)) xp (by rw [← hxp]; exact HI2.out _ (by omega)))
          obtain ⟨a0, a1, a2⟩ := cells_row hsj HO2.out (jp + 1) hjn
          obtain ⟨b0, b1, b2⟩ := cells_row hsj HO2.out jp (by omega)
          rw [hxj] at a0 a1 a2
          rw [hxp] at b0 b1 b2
          obtain ⟨K, hK⟩ : ∃ K, cmpN inhT xj xp = K := ⟨_, rfl⟩
          rw [hK] at HCM
          have HKK := Lib.hid hK
          have HXX := Lib.hid (And.intro hxj hxp)
          clear hK hxj hxp
          obtain ⟨s1, t1, e1, sa1, sc1, ta1, tc1, ea1, ec1⟩ := xj
          obtain ⟨s2, t2, e2, sa2, sc2, ta2, tc2, ea2, ec2⟩ := xp
          simp only at a0 a1 a2 b0 b1 b2 HCM
          have a0 := fun x => later_cell a0 x
          have a1 := fun x => later_cell a1 x
          have a2 := fun x => later_cell a2 x
          have b0 := fun x => later_cell b0 x
          have b1 := fun x => later_cell b1 x
          have b2 := fun x => later_cell b2 x
          go_upto_region 4 with fail
          by_cases hlv : K < 0
          · refine wp_region_later (by kernel_rfl) (by kernel_rfl) ?_
            repeat (go_big_quiet_step (first | (go_at_call 64; exact calls_later (HCM.out _))))
            refine wpQuiet_nil ?_
            rintro _ ⟨z, rfl⟩
            have HB3 : Hid (Below wr.heap.size wr (later wr z)) := later_below _ _
            have a0 := a0 z
            have a1 := a1 z
            have a2 := a2 z
            have b0 := b0 z
            have b1 := b1 z
            have b2 := b2 z
            have ho5 := HO2.out.call HB3.out
            generalize later wr z = w5 at *
            go_upto_region 6 with fail
            have hs5 : OwnX 51 3 InA.enc w5.drew base (.slice (some ⟨g, 0, none⟩) dj.toList.length cap) dj.toList := by
              have : OwnX 51 3 InA.enc w5.drew base (.slice (some ⟨g, 0, none⟩) n cap) dj.toList := ho5
              simpa [hsj] using this
            have hH5 : HoldsK InA.enc 3 w5.drew g 0 dj := by
              have := hs5.holds InA.enc_len
              simpa using this
            have bnd : ∀ x, x < dj.size → x * 3 + 3 ≤ dj.size * 3 := fun x hx => by omega
            have HSW := OwnX.swap InA.enc_len hsj ho5 (jp + 1) jp (by omega) (by omega)
            rw [HXX.out.1, HXX.out.2, Nat.zero_add, Nat.zero_add] at HSW
            simp only [InA.enc, two_set] at HSW
            have HSW := Lib.hid HSW
            have fz := fun i => (show w5.frozen? ⟨g, i, none⟩ = false from ho5.unfrozen i)
            have fa0 := fz ((jp + 1) * 3)
            have fa1 := fz ((jp + 1) * 3 + 1)
            have fa2 := fz ((jp + 1) * 3 + 2)
            have fb0 := fz (jp * 3)
            have fb1 := fz (jp * 3 + 1)
            have fb2 := fz (jp * 3 + 2)
            have HO5 := Lib.hid ho5
            clear hs5 hH5 bnd ho5 fz
            have mixed : Tryz.prog.follows .mixedOrders = true := by kernel_rfl
            go_big_region_o
            all_goals go_wp2
            go_roundg jp
            case measure => omega
            case rel =>
              refine ⟨jp, swp dj (jp + 1) jp, rfl, by omega, Nat.le_refl _, by rw [size_swp]; exact hsj, HSW.out.1, all_swp hsj HI2.out (jp + 1) jp (by omega) (by omega), HB2.out.trans ((HB3.out.mono (by have := HB2.out.size; have := HBG.out; omega)).trans HSW.out.2), ?_⟩
              show _ = _
              have := insInner_go (ltOf (cmpN inhT)) 0 (jp + 1) dj (by omega) (by simp only [Nat.add_sub_cancel]; rw [HXX.out.1, HXX.out.2]; exact decide_eq_true (by rw [HKK.out]; exact hlv))
              simp only [Nat.add_sub_cancel] at this
              rw [← HI.out, this]
          · refine wp_region_later (by kernel_rfl) (by kernel_rfl) ?_
            repeat (go_big_quiet_step (first | (go_at_call 64; exact calls_later (HCM.out _))))
            refine wpQuiet_nil ?_
            rintro _ ⟨z, rfl⟩
            have HB3 : Hid (Below wr.heap.size wr (later wr z)) := later_below _ _
            clear a0 a1 a2 b0 b1 b2 HCM
            generalize later wr z = w5 at *
            go_wp2_with fail
            go_roundg (n - (i + 1))
            case measure => omega
            case rel => exact ⟨i + 1, dj, by go_num, by omega, by omega, by omega, hsj, HO2.out.call HB3.out, HI2, HB2.out.trans (HB3.out.mono (by have := HB2.out.size; have := HBG.out; omega)), OUT.out (Or.inr (by simp only [Nat.add_sub_cancel]; rw [HXX.out.1, HXX.out.2]; exact decide_eq_false (by rw [HKK.out]; omega)))⟩
        · obtain rfl : j = 0 := by omega
          go_upto_region 4 with fail
          refine wp_region_later (by kernel_rfl) (by kernel_rfl) ?_
          repeat (go_big_quiet_step (fail))
          refine wpQuiet_nil ?_
          rintro _ ⟨z, rfl⟩
          have HB3 : Hid (Below wr.heap.size wr (later wr z)) := later_below _ _
          generalize later wr z = w5 at *
          go_wp2_with fail
          go_roundg (n - (i + 1))
          case measure => omega
          case rel => exact ⟨i + 1, dj, by go_num, by omega, by omega, by omega, hsj, HO2.out.call HB3.out, HI2, HB2.out.trans (HB3.out.mono (by have := HB2.out.size; have := HBG.out; omega)), OUT.out (Or.inl (Nat.le_refl _))⟩
    · have hltz : ¬ (i : Int) < (n : Int) := by omega
      go_wp2_with fail
      go_end0
      refine ⟨rfl, ?_, HB1.out⟩
      have e := HO.out
      rw [insOuter_stop _ _ _ _ _ hlt] at e
      have o := HO1.out
      rw [e] at o
      exact o
end Go.Proofs.YtmhekhilgllciaaGreat
