/- A region that draws its order and ends in stores into cells that it has loaded: a load may be taken first if the first of these stores waits for it. It speaks of no one program. -/
import Derived.OrdersHeld
import Derived.StillTail
import Derived.Deep.RegionHeld
import Derived.Test.YtkgnapojkijbgaaGreatDoorMg1
import Derived.Test.YtkgnapojkijbgaaGreatDoorMg2
import Derived.Test.YtkgnapojkijbgaaGreatDoorLater
import Derived.Shelf.SlSortCmp.InsertionK
import Derived.BigRegion
import Derived.WalkKit
import Derived.Test.YtkgnapojkijbgaaGreatDoorInfo
import Derived.Test.YtkgnapojkijbgaaGreatDoorRulB
import Derived.Laws.EntriesVeiled
import Derived.Test.YtkgnapojkijbgaaGreatDoorLabM
import Derived.Lib.IndexMore
import Derived.Test.YtkgnapojkijbgaaGreatDoorRulM
import Derived.Lib.ItoaNum
import Derived.Lib.AtoiAll
namespace Go.Proofs.YtkgnapojkijbgaaGreatDoor

section
variable {P : Program} {ops : Array Oper} {Q : Exit → Act → World → Prop} {md : Region.Mode} {S : World → Prop} {m : Nat}

/-- what has come up has come up behind all that it waits for -/
def closedB (md : Region.Mode) (ops : Array Oper) (listed : Array Bool) : Bool :=
  (List.range ops.size).all fun j => !listed.getD j false || ((ops[j]?).map fun o => o.after.all fun e => !Region.binds md e || listed.getD e.on false).getD true
def ClosedR (md : Region.Mode) (ops : Array Oper) (listed : Array Bool) : Prop :=
  ∀ j oj, ops[j]? = some oj → listed.getD j false = true → ∀ e ∈ oj.after, Region.binds md e = true → listed.getD e.on false = true
theorem closed_of {listed : Array Bool} (h : closedB md ops listed = true) : ClosedR md ops listed := by
  intro j oj hj hl e he hb
  have hlt : j < ops.size := (Array.getElem?_eq_some_iff.1 hj).1
  have h1 := List.all_eq_true.1 h j (List.mem_range.2 hlt)
  rw [hl, hj] at h1
  simp only [Bool.not_true, Bool.false_or, Option.map_some, Option.getD_some] at h1
  obtain ⟨i, hi, rfl⟩ := Array.mem_iff_getElem.1 he
  have h2 := Array.all_eq_true.1 h1 i hi
  rw [hb] at h2
  simpa using h2
theorem ClosedR.set {i : Nat} {listed : Array Bool} (h : ClosedR md ops listed) (hi : i ∈ Region.ready md ops listed) : ClosedR md ops (listed.setIfInBounds i true) := by
  obtain ⟨_, oi, hoi, hall⟩ := mem_ready.1 hi
  intro j oj hj hl e he hb
  by_cases hij : i = j
  · subst hij
    have : oj = oi := Option.some.inj (hj.symm.trans hoi)
    subst this
    exact getD_set_true (hall e he hb)
  · rw [getD_set_ne false hij] at hl
    exact getD_set_true (h j oj hj hl e he hb)
theorem not_yet {i : Nat} {listed : Array Bool} (h : ClosedR md ops listed) (hi : i ∈ Region.ready md ops listed) (hm : Region.waitsFor md ops m i = true) : listed.getD m false = false := by
  cases hl : listed.getD m false with
  | false => rfl
  | true =>
    obtain ⟨om, hom, e, he, hb, hon⟩ := Region.waitsFor_spec hm
    have h2 := h m om hom hl e he hb
    rw [hon, getD_both (mem_ready.1 hi).1] at h2
    cases h2
/-- m waits for the first of these, that for the next, and so on, the last for i -/
def pathB (md : Region.Mode) (ops : Array Oper) (m : Nat) : List Nat → Nat → Bool
  | [], i => Region.waitsFor md ops m i
  | k :: ks, i => Region.waitsFor md ops m k && pathB md ops k ks i
theorem not_yet_path {i : Nat} {listed : Array Bool} (h : ClosedR md ops listed) (hi : i ∈ Region.ready md ops listed) : ∀ (p : List Nat) (m : Nat), pathB md ops m p i = true → listed.getD m false = false
  | [], _, hm => not_yet h hi hm
  | k :: ks, m, hm => by
    simp only [pathB, Bool.and_eq_true] at hm
    have hk := not_yet_path h hi ks k hm.2
    cases hl : listed.getD m false with
    | false => rfl
    | true =>
      obtain ⟨om, hom, e, he, hb, hon⟩ := Region.waitsFor_spec hm.1
      have h2 := h m om hom hl e he hb
      rw [hon, hk] at h2
      cases h2
/-- whatever order is picked from here on, and S holds behind every operation that is carried out, until number m has come up -/
def wpAnyM (P : Program) (md : Region.Mode) (ops : Array Oper) (Q : Exit → Act → World → Prop) (S : World → Prop) (m : Nat) : Nat → Array Bool → Act → World → Prop
  | 0, listed, a, w => Region.ready md ops listed = [] ∧ Q .normal a w
  | fuel + 1, listed, a, w =>
    (Region.ready md ops listed = [] → Q .normal a w) ∧
    ∀ i ∈ Region.ready md ops listed, wpOp P ops Q i (fun a' w' => ((listed.setIfInBounds i true).getD m false = false → S w') ∧ wpAnyM P md ops Q S m fuel (listed.setIfInBounds i true) a' w') a w
theorem wpAny_of_marked : ∀ (fuel : Nat) (listed : Array Bool) (a : Act) (w : World), wpAnyM P md ops Q S m fuel listed a w → wpAny P md ops Q fuel listed a w
  | 0, _, _, _, h => h
  | fuel + 1, _, _, _, h => ⟨h.1, fun i hi => wpOp_mono (fun a' w' h' => wpAny_of_marked fuel _ a' w' h'.2) (h.2 i hi)⟩
theorem marked_of_any : ∀ (fuel : Nat) (listed : Array Bool) (a : Act) (w : World), listed.getD m false = true → wpAny P md ops Q fuel listed a w → wpAnyM P md ops Q S m fuel listed a w
  | 0, _, _, _, _, h => h
  | fuel + 1, listed, _, _, hl, h => ⟨h.1, fun i hi => wpOp_mono (fun a' w' h' => ⟨fun h0 => (by rw [getD_set_true hl] at h0; cases h0), marked_of_any fuel _ a' w' (getD_set_true hl) h'⟩) (h.2 i hi)⟩

theorem wpAnyM_first {i : Nat} {oi : Oper} {v : Value} {T : World → Prop} (hi : ops[i]? = some oi) (hsel : ∀ (j : Nat) (o : Oper) cs b, ops[j]? = some o → o.op ≠ .select cs b)
    (hQ : ∀ c a w, Q (.panic c) (a.put oi.dst v) w → Q (.panic c) a w)
    (him : i ≠ m) (hT : (∀ w, T w) ∨ (T = S ∧ ∃ p, pathB md ops m p i = true)) :
    ∀ (fuel : Nat) (listed : Array Bool) (a : Act) (w : World), ClosedR md ops listed →
      (∀ j oj, ops[j]? = some oj → j ≠ i → listed.getD j true = false → (∀ e ∈ oj.after, Region.binds md e = true → e.on ≠ i) → oi.apart ops oj = true) →
      i ∈ Region.ready md ops listed → YieldsIf P ops T oi v a → (listed.getD m false = false → S w) →
      wpAnyM P md ops Q S m fuel (listed.setIfInBounds i true) (a.put oi.dst v) w → wpAnyM P md ops Q S m (fuel + 1) listed a w := by
  intro fuel
  have hTw : ∀ (listed : Array Bool) (w : World), ClosedR md ops listed → i ∈ Region.ready md ops listed → (listed.getD m false = false → S w) → T w := by
    intro listed w hc hr hS
    rcases hT with h | ⟨rfl, p, hm⟩
    · exact h w
    · exact hS (not_yet_path hc hr p m hm)
  have back : ∀ (listed : Array Bool) (j : Nat), (listed.setIfInBounds j true).getD m false = false → listed.getD m false = false := by
    intro listed j h
    cases hl : listed.getD m false with
    | false => rfl
    | true => rw [getD_set_true hl] at h; cases h
  induction fuel with
  | zero =>
    intro listed a w hc _ hr hy hS H
    refine ⟨fun h => (by rw [h] at hr; cases hr), fun j hj => ?_⟩
    by_cases hji : j = i
    · subst hji; exact hy.wpOp hi (hTw _ _ hc hr hS) ⟨fun h => hS (back _ _ h), H⟩
    · have := ready_mono hj hji
      rw [H.1] at this
      cases this
  | succ fuel ih =>
    intro listed a w hc hfree hr hy hS H
    refine ⟨fun h => (by rw [h] at hr; cases hr), fun j hj => ?_⟩
    by_cases hji : j = i
    · subst hji; exact hy.wpOp hi (hTw _ _ hc hr hS) ⟨fun h => hS (back _ _ h), H⟩
    · have h1 := H.2 j (ready_mono hj hji)
      obtain ⟨hjun, oj, hoj, hall⟩ := mem_ready.1 hj
      have hnot : ∀ e ∈ oj.after, Region.binds md e = true → e.on ≠ i := fun e he hb heq => by
        have h1 := hall e he hb
        rw [heq, getD_both (mem_ready.1 hr).1] at h1
        cases h1
      have h2 := wpOp_putIf hoj (hfree j oj hoj hji hjun hnot) (fun cs b => hsel i oi cs b hi) (fun cs b => hsel j oj cs b hoj) hQ hy h1
      have hfree' : ∀ k ok, ops[k]? = some ok → k ≠ i → (listed.setIfInBounds j true).getD k true = false →
          (∀ e ∈ ok.after, Region.binds md e = true → e.on ≠ i) → oi.apart ops ok = true := fun k ok hk hki hun hno => by
        refine hfree k ok hk hki ?_ hno
        by_cases hjk : j = k
        · subst hjk; exact hjun
        · rw [getD_set_ne true hjk] at hun; exact hun
      refine wpOp_mono (fun a' w' h3 => ?_) h2
      have hS' : (listed.setIfInBounds j true).getD m false = false → S w' := fun h0 => by
        refine h3.2.1 ?_
        rw [Array.setIfInBounds_comm _ _ (Ne.symm hji)]
        rw [getD_set_ne false him]; exact h0
      refine ⟨hS', ih (listed.setIfInBounds j true) a' w' (hc.set hj) hfree' (ready_mono hr (Ne.symm hji)) h3.1 hS' ?_⟩
      rw [Array.setIfInBounds_comm _ _ hji]
      exact h3.2.2

/-- the beginning -/
theorem wp_region_marked {id : Nat} {a : Act} {w : World} (S : World → Prop) (m : Nat) (hm : P.follows .mixedOrders = true)
    (h : wpAnyM P .any ops Q S m ops.size (Array.replicate ops.size false) a w.drew) : (Code.region id ops true).wp P Q a w :=
  wp_region_any hm (wpAny_of_marked _ _ _ _ h)
/-- a load may be taken first -/
theorem wpAnyM_load (i : Nat) {oi : Oper} {v : Value} {fuel : Nat} {listed : Array Bool} {a : Act} {w : World} (hi : ops[i]? = some oi) (hc : closedB md ops listed = true)
    (hs : Region.noSelect ops = true) (hf : Region.free md ops listed i = true) (hr : (Region.ready md ops listed).contains i = true) (him : i ≠ m) (hw : Region.waitsFor md ops m i = true)
    (hQ : ∀ c a w, Q (.panic c) (a.put oi.dst v) w → Q (.panic c) a w) (hy : YieldsIf P ops S oi v a) (hS : S w)
    (h : wpAnyM P md ops Q S m fuel (listed.setIfInBounds i true) (a.put oi.dst v) w) : wpAnyM P md ops Q S m (fuel + 1) listed a w :=
  wpAnyM_first (T := S) hi (Region.noSelect_spec hs) hQ him (.inr ⟨rfl, [], hw⟩) fuel listed a w (closed_of hc) (Region.free_spec hi hf) (by simpa using hr) hy (fun _ => hS) h
/-- a load may be taken first, if the one that is marked waits for it over others -/
theorem wpAnyM_loadP (p : List Nat) (i : Nat) {oi : Oper} {v : Value} {fuel : Nat} {listed : Array Bool} {a : Act} {w : World} (hi : ops[i]? = some oi) (hc : closedB md ops listed = true)
    (hs : Region.noSelect ops = true) (hf : Region.free md ops listed i = true) (hr : (Region.ready md ops listed).contains i = true) (him : i ≠ m) (hw : pathB md ops m p i = true)
    (hQ : ∀ c a w, Q (.panic c) (a.put oi.dst v) w → Q (.panic c) a w) (hy : YieldsIf P ops S oi v a) (hS : S w)
    (h : wpAnyM P md ops Q S m fuel (listed.setIfInBounds i true) (a.put oi.dst v) w) : wpAnyM P md ops Q S m (fuel + 1) listed a w :=
  wpAnyM_first (T := S) hi (Region.noSelect_spec hs) hQ him (.inr ⟨rfl, p, hw⟩) fuel listed a w (closed_of hc) (Region.free_spec hi hf) (by simpa using hr) hy (fun _ => hS) h
/-- what hangs on no world may be taken first -/
theorem wpAnyM_pure (i : Nat) {oi : Oper} {v : Value} {fuel : Nat} {listed : Array Bool} {a : Act} {w : World} (hi : ops[i]? = some oi) (hc : closedB md ops listed = true)
    (hs : Region.noSelect ops = true) (hf : Region.free md ops listed i = true) (hr : (Region.ready md ops listed).contains i = true) (him : i ≠ m)
    (hQ : ∀ c a w, Q (.panic c) (a.put oi.dst v) w → Q (.panic c) a w) (hy : YieldsIf P ops (fun _ => True) oi v a) (hS : S w)
    (h : wpAnyM P md ops Q S m fuel (listed.setIfInBounds i true) (a.put oi.dst v) w) : wpAnyM P md ops Q S m (fuel + 1) listed a w :=
  wpAnyM_first (T := fun _ => True) hi (Region.noSelect_spec hs) hQ him (.inl fun _ => trivial) fuel listed a w (closed_of hc) (Region.free_spec hi hf) (by simpa using hr) hy (fun _ => hS) h
/-- the one that may come up, comes up -/
theorem wpAnyM_one (i : Nat) {oi : Oper} {fuel : Nat} {listed : Array Bool} {a : Act} {w : World} (hi : ops[i]? = some oi) (hr : Region.ready md ops listed = [i])
    (h : ∀ K' : Act → World → Prop, Shut (∀ a w, S w → wpAnyM P md ops Q S m fuel (listed.setIfInBounds i true) a w → K' a w) → if Region.wanted oi (yielded ops a.tmps) = true then Oper.wp P oi a w K' Q else K' (a.put oi.dst undef) w) :
    wpAnyM P md ops Q S m (fuel + 1) listed a w := by
  refine ⟨fun h0 => (by rw [hr] at h0; cases h0), fun j hj => ?_⟩
  rw [hr] at hj
  obtain rfl : j = i := by simpa using hj
  exact wpOp_step hi (fun K' hK => h K' (fun a w hS hW => hK a w ⟨fun _ => hS, hW⟩))
/-- either of the two that may come up -/
theorem wpAnyM_two (i k : Nat) {oi ok : Oper} {fuel : Nat} {listed : Array Bool} {a : Act} {w : World} (hi : ops[i]? = some oi) (hk : ops[k]? = some ok) (hr : Region.ready md ops listed = [i, k])
    (h : ∀ K' : Act → World → Prop, Shut (∀ a w, S w → wpAnyM P md ops Q S m fuel (listed.setIfInBounds i true) a w → K' a w) → if Region.wanted oi (yielded ops a.tmps) = true then Oper.wp P oi a w K' Q else K' (a.put oi.dst undef) w)
    (h2 : ∀ K' : Act → World → Prop, Shut (∀ a w, S w → wpAnyM P md ops Q S m fuel (listed.setIfInBounds k true) a w → K' a w) → if Region.wanted ok (yielded ops a.tmps) = true then Oper.wp P ok a w K' Q else K' (a.put ok.dst undef) w) :
    wpAnyM P md ops Q S m (fuel + 1) listed a w := by
  refine ⟨fun h0 => (by rw [hr] at h0; cases h0), fun j hj => ?_⟩
  rw [hr] at hj
  simp only [List.mem_cons, List.not_mem_nil, or_false] at hj
  rcases hj with rfl | rfl
  · exact wpOp_step hi (fun K' hK => h K' (fun a w hS hW => hK a w ⟨fun _ => hS, hW⟩))
  · exact wpOp_step hk (fun K' hK => h2 K' (fun a w hS hW => hK a w ⟨fun _ => hS, hW⟩))
/-- the stores, in their order -/
theorem wpAnyM_tail {L : List Oper} {fuel : Nat} {listed : Array Bool} {a : Act} {w : World} (hf : fuel = (L.drop m).length) (hm : m < listed.size) (hm2 : m < L.length)
    (hB : Region.seqB md L.toArray (L.drop m).length m listed = true) (h : wpList P L.toArray Q (L.drop m) a w) : wpAnyM P md L.toArray Q S m fuel listed a w := by
  subst hf
  have e : L.drop m = L[m] :: L.drop (m + 1) := List.drop_eq_getElem_cons hm2
  rw [e] at hB h ⊢
  simp only [List.length_cons, Region.seqB, Bool.and_eq_true, decide_eq_true_eq] at hB ⊢
  refine ⟨fun h0 => (by rw [hB.1] at h0; cases h0), fun j hj => ?_⟩
  rw [hB.1] at hj
  obtain rfl : j = m := by simpa using hj
  have h0 : L.toArray[j]? = some L[j] := by simp [hm2]
  have hl : (listed.setIfInBounds j true).getD j false = true := by simp [hm]
  have hw : wpOp P L.toArray Q j (wpList P L.toArray Q (L.drop (j + 1))) a w := by unfold wpOp; simp only [h0]; exact h
  refine wpOp_mono (fun a' w' h' => ⟨fun h1 => (by rw [hl] at h1; cases h1), marked_of_any _ _ _ _ hl (wpAny_of_seq (L.drop (j + 1)) (j + 1) _ a' w' (fun q => by simp [List.getElem?_drop]) hB.2 h')⟩) hw
end
end Go.Proofs.YtkgnapojkijbgaaGreatDoor
/- The contracts of config.matcherText, of config.each of matchers, of binder.bind, of inhibitText and of likeInhibit. -/
namespace Go.Proofs.YtkgnapojkijbgaaGreatDoor
open Go.RowKit

set_option maxHeartbeats 1600000 in
set_option maxRecDepth 100000 in
theorem cfgMText_any (xa : Option Addr) (xc : Nat) (x : Mat) (w : World) (h : HasMat w (.agg (matCells xa xc x)) x) : Calls Tryz.prog 84 #[.agg #[.string x.name, .int .i64 x.how, .slice xa x.words.length xc]] w (fun e w' => e = .returned (.string (textV x)) ∧ Below w.heap.size w w') := by
  have hb := (Below.refl w.heap.size w).alloc (Nat.le_refl _) (.cells #[.string x.name, .int .i64 x.how, .slice xa x.words.length xc] 109)
  have hB := Blk.new w 109 #[.string x.name, .int .i64 x.how, .slice xa x.words.length xc]
  have ht := mText_any _ x _ (h.call hb)
  unfold TextPost at ht
  simp only [matCells] at ht
  generalize textV x = V at *
  generalize textE x = E at *
  have HT := Lib.hid ht
  have HB := Lib.hid hb
  obtain ⟨c0, c1, c2⟩ := hB.cells3
  clear ht hb h hB
  go_enter Tryz.func84, Tryz.ntmps84
  go_upto_region 1 with fail
  generalize w.alloc (.cells #[.string x.name, .int .i64 x.how, .slice xa x.words.length xc] 109) = wx at *
  go_wp2_with (go_at_call 151; refine HT.out.mono ?_; rintro e w2 ⟨rfl, hb2⟩)
  go_ret
  exact ⟨rfl, bthen HB.out hb2⟩
set_option maxHeartbeats 3200000 in
set_option maxRecDepth 100000 in
theorem eachM_any (a : Option Addr) (c : Nat) (xs : List Mat) (w : World) (h : HasMats w a c xs) (h8 : xs.length ≤ 1000000) :
    Calls Tryz.prog 83 #[.slice a xs.length c, .func (.func 84) #[] #[]] w (fun e w' => ∃ v, e = .returned v ∧ OwnS 9 w' w.heap.size v (xs.map textV) ∧ Below w.heap.size w w') := by
  obtain ⟨i0, hi, hz0, hz1, hz2⟩ := info_parts Tryz.infoS
  have HH := Lib.hid h
  have h1 := h.1
  have h2 := h.2.1
  unfold maxLen at h2
  clear h
  go_enter Tryz.func83, Tryz.ntmps83
  go_wp2_with fail
  go_loopg [10, 5, 7] xs.length (fun gg iv v _ wr => ∃ (V : Value) (k : Nat), V = v ∧ k + gg = xs.length ∧ iv = .int .i64 (k : Int) ∧ OwnS 9 wr w.heap.size V ((xs.take k).map textV) ∧ Below w.heap.size w wr ∧ w.heap.size ≤ wr.heap.size)
  case atStart => exact ⟨_, 0, rfl, by omega, rfl, OwnS.nil _ _ _, Below.refl _ _, Nat.le_refl _⟩
  case round =>
    obtain ⟨V, k, rfl, hkg, rfl, hown, hbr, hzr⟩ := hrel
    cases gk with
    | zero =>
      obtain rfl : k = xs.length := by omega
      rw [List.take_length] at hown
      have HO := Lib.hid hown
      have HBR := Lib.hid hbr
      clear hown hbr
      go_wp2_with fail
      go_ret
      exact ⟨V, rfl, HO.out, HBR.out⟩
    | succ gg =>
      have hkl : k < xs.length := by omega
      obtain ⟨b, off, rfl, xa, xc, ⟨g0, g1, g2⟩, g3, g4, g5⟩ : ∃ b off, a = some ⟨b, off, none⟩ ∧ ∃ x y,
          (w.cell? ⟨b, off + k * 3, none⟩ = some (.string xs[k].name) ∧ w.cell? ⟨b, off + k * 3 + 1, none⟩ = some (.int .i64 xs[k].how) ∧ w.cell? ⟨b, off + k * 3 + 2, none⟩ = some (.slice x xs[k].words.length y)) ∧ HasStrs w x y xs[k].words ∧ xs[k].name.size ≤ maxLen ∧ (Lit.int .i64 xs[k].how).wf = true := by
        rcases HH.out.2.2 with h | ⟨b, off, h1, _, h3⟩
        · rw [h] at hkl; simp at hkl
        · exact ⟨b, off, h1, h3 k hkl⟩
      have e0 := cellL hbr g0
      have e1 := cellL hbr g1
      have e2 := cellL hbr g2
      have hts : (xs.take (k + 1)).map textV = (xs.take k).map textV ++ [textV xs[k]] := by
        rw [List.take_succ_eq_append_getElem hkl, List.map_append]; rfl
      have hll : ((xs.take k).map textV).length ≤ 1000000 := by simp; omega
      have HTS := Lib.hid hts
      clear hts
      generalize xs[k] = x at *
      have hbn := (Below.refl wr.heap.size wr).alloc (Nat.le_refl _) (.cells #[.string x.name, .int .i64 x.how, .slice xa x.words.length xc] 109)
      have hN := Blk.new wr 109 #[.string x.name, .int .i64 x.how, .slice xa x.words.length xc]
      obtain ⟨f0, f1, f2⟩ := hN.cells3
      have hownn := hown.call hbn
      have hbrn := hbr.trans (hbn.mono hzr)
      have hzn := Nat.le_trans hzr hbn.size
      have hcall := cfgMText_any xa xc x _ (show HasMat (wr.alloc (.cells #[.string x.name, .int .i64 x.how, .slice xa x.words.length xc] 109)) (.agg (matCells xa xc x)) x from ⟨xa, xc, rfl, g3.call (bthen hbr hbn), g4, g5⟩)
      have HCA := Lib.hid hcall
      generalize (xs.take k).map textV = M at *
      clear hN hbn hown hbr hcall g0 g1 g2 g3 g4 g5
      go_upto_region 5 with fail
      generalize wr.alloc (.cells #[.string x.name, .int .i64 x.how, .slice xa x.words.length xc] 109) = wn at *
      clear e0 e1 e2
      generalize textV x = S at *
      go_wp2_with (first
        | (go_at_call 84; refine HCA.out.mono ?_; rintro e w3 ⟨rfl, hb3⟩; have ho3 := hownn.call hb3; have hz3 := Nat.le_trans hzn hb3.size)
        | (refine wpList_pushStr w3 (by rfl) (.tmp 14) (.tmp 18) 24 (by rfl) w.heap.size 9 i0 (.string ⟨#[]⟩) Tryz.underlying24 hi hz0 hz1 hz2 rfl V M S (by rfl) ho3 (by rfl) hll hz3 ?_; intro v4 w4 ho4 hg4))
      have hb4 := ho3.grown (hbrn.trans (hb3.mono hzn)) (Nat.le_refl _) hz3 hg4
      go_roundg gg
      case measure => omega
      case rel => exact ⟨v4, k + 1, rfl, by omega, by go_num, by rw [HTS.out]; exact ho4, hb4, Nat.le_trans hz3 hg4.size⟩
/-- the binder's cell holds a fault; all blocks below B but the binder's are as they were -/
structure BindW (B g : Nat) (w w' : World) : Prop where
  os : w'.os = w.os
  tape : w'.tape = w.tape
  output : w'.output = w.output
  size : w.heap.size ≤ w'.heap.size
  other : ∀ k, k < w.heap.size → k ≠ g → w'.heap[k]? = w.heap[k]?
  cell : ∃ f : Int, Blk w' g 58 #[.int .i64 f]
theorem BindW.below {B g : Nat} {w w' : World} (h : BindW B g w w') (hB : B ≤ w.heap.size) (hg : B ≤ g) : Below B w w' := ⟨h.os, h.tape, h.output, h.size, fun k hk => h.other k (by omega) (by omega)⟩
theorem BindW.blk {B g k : Nat} {t : TypeId} {cs : Array Value} {w w' : World} (h : BindW B g w w') (hk : Blk w k t cs) (hne : k ≠ g) : Blk w' k t cs := (h.other k hk.lt hne).trans hk
set_option maxHeartbeats 1600000 in
set_option maxRecDepth 100000 in
theorem cfgBind_any (g : Nat) (f : Int) (a : Option Addr) (c : Nat) (ss : List ByteArray) (w : World) (hg : Blk w g 58 #[.int .i64 f]) (h : HasStrs w a c ss) (B : Nat) :
    Calls Tryz.prog 27 #[.pointer (some ⟨g, 0, none⟩), .slice a ss.length c] w (fun e w' => e = .returned (.string (bindS ss)) ∧ BindW B g w w') := by
  have hb := bind_any a c ss w h
  have hbe : bindE ss = 0 ∨ bindE ss = 2 := by unfold bindE; split <;> simp
  generalize bindS ss = S at *
  generalize bindE ss = E at *
  have HB := Lib.hid hb
  have HG := Lib.hid hg
  clear hb hg h
  go_enter Tryz.func27, Tryz.ntmps27
  rcases hbe with rfl | rfl
  · go_wp2_with (go_at_call 80; refine HB.out.mono ?_; rintro e w2 ⟨rfl, hb2⟩)
    go_ret
    exact ⟨rfl, hb2.os, hb2.tape, hb2.output, hb2.size, fun k hk _ => hb2.block k hk, f, HG.out.call hb2⟩
  · go_upto_region 3 with (go_at_call 80; refine HB.out.mono ?_; rintro e w2 ⟨rfl, hb2⟩)
    have hG2 := HG.out.call hb2
    have hG3 := hG2.set 0 (.int .i64 2)
    have q0 := hG2.cell 0
    have q1 := hG2.frozen 0
    have HB2 := Lib.hid hb2
    have HG3 := Lib.hid hG3
    clear hb2 hG2 hG3
    go_wp2_with fail
    go_ret
    exact ⟨rfl, HB2.out.os, HB2.out.tape, HB2.out.output, by simpa [World.setCell] using HB2.out.size, fun k hk hne => (Below.heap_setCell w2 ⟨g, 0, none⟩ _ k hne).trans (HB2.out.block k hk), 2, HG3.out⟩
/-- an inhibit's text -/
def inhT (x : InA) : ByteArray := bindS [bindS (x.s.map textV), bindS (x.t.map textV), bindS x.e]
structure InhSt (w : World) (g0 g1 : Nat) (x : InA) (u : World) : Prop where
  below : Below w.heap.size w u
  blk : Blk u g0 48 #[.slice x.sa x.s.length x.sc, .slice x.ta x.t.length x.tc, .slice x.ea x.e.length x.ec]
  bnd : ∃ f : Int, Blk u g1 58 #[.int .i64 f]
  young : w.heap.size ≤ g1
  ne : g0 ≠ g1
theorem InhSt.call {w u u1 : World} {g0 g1 : Nat} {x : InA} (h : InhSt w g0 g1 x u) (hb : Below u.heap.size u u1) : InhSt w g0 g1 x u1 :=
  ⟨bthen h.below hb, h.blk.call hb, by obtain ⟨f, hf⟩ := h.bnd; exact ⟨f, hf.call hb⟩, h.young, h.ne⟩
theorem InhSt.bind {w u u1 : World} {g0 g1 B : Nat} {x : InA} (h : InhSt w g0 g1 x u) (hb : BindW B g1 u u1) : InhSt w g0 g1 x u1 :=
  ⟨h.below.trans ⟨hb.os, hb.tape, hb.output, hb.size, fun k hk => hb.other k (Nat.lt_of_lt_of_le hk h.below.size) (by have := h.young; omega)⟩, hb.blk h.blk h.ne, hb.cell, h.young, h.ne⟩
theorem InhSt.cells {w u : World} {g0 g1 : Nat} {x : InA} (h : InhSt w g0 g1 x u) : (fun w' : World => w'.cell? ⟨g0, 0, none⟩ = some (.slice x.sa x.s.length x.sc) ∧ w'.cell? ⟨g0, 1, none⟩ = some (.slice x.ta x.t.length x.tc) ∧ w'.cell? ⟨g0, 2, none⟩ = some (.slice x.ea x.e.length x.ec)) u := h.blk.cells3
theorem strs3 (W : World) (a b c : ByteArray) (ha : a.size ≤ maxLen) (hb : b.size ≤ maxLen) (hc : c.size ≤ maxLen) : HasStrs (W.alloc (.cells #[.string a, .string b, .string c] 9)) (some ⟨W.heap.size, 0, none⟩) 3 [a, b, c] := by
  have hB := Blk.new W 9 #[.string a, .string b, .string c]
  refine ⟨Nat.le_refl _, by unfold maxLen; omega, fun s hs => ?_, .inr ⟨_, 0, rfl, hB.lt, fun i hi => ?_⟩⟩
  · simp only [List.mem_cons, List.not_mem_nil, or_false] at hs
    rcases hs with rfl | rfl | rfl
    · exact ha
    · exact hb
    · exact hc
  · have hi' : i < 3 := hi
    rcases (by omega : i = 0 ∨ i = 1 ∨ i = 2) with rfl | rfl | rfl
    · exact hB.cell 0
    · exact hB.cell 1
    · exact hB.cell 2
theorem bindS_max (ss : List ByteArray) : (bindS ss).size ≤ maxLen := by
  unfold bindS
  split
  · rename_i h
    obtain ⟨h1, h2⟩ := mayB_true h
    have := bindL_len ss (fun s hs => by have := h2 s hs; omega)
    show (bindL ss).toArray.size ≤ maxLen
    rw [List.size_toArray]
    unfold maxLen
    omega
  · show 0 ≤ maxLen
    omega
theorem textV_max (m : Mat) : (textV m).size ≤ maxLen := by
  unfold textV
  split
  · rename_i h
    obtain ⟨h1, h2, h3, h4⟩ := right_words h
    have := joinW_len m.words h1 h3
    show (textM m).toArray.size ≤ maxLen
    rw [List.size_toArray]
    have hn : m.name.data.toList.length = m.name.size := by simp
    have hs : (signT m.how).length ≤ 2 := by
      obtain ⟨_, k1, k4, _⟩ := (rightM_iff m).1 h
      rcases (by omega : m.how = 1 ∨ m.how = 2 ∨ m.how = 3 ∨ m.how = 4) with e | e | e | e <;> rw [e] <;> decide
    simp only [textM, List.length_append, List.length_cons, List.length_nil]
    unfold maxLen
    omega
  · show 0 ≤ maxLen
    omega
set_option maxHeartbeats 12800000 in
set_option maxRecDepth 100000 in
theorem inhText_any (x : InA) (w : World) (h : InA.ok w x) (h1 : x.s.length ≤ 1000000) (h2 : x.t.length ≤ 1000000) : Calls Tryz.prog 31 #[.agg #[.slice x.sa x.s.length x.sc, .slice x.ta x.t.length x.tc, .slice x.ea x.e.length x.ec]] w (fun e w' => e = .returned (.string (inhT x)) ∧ Below w.heap.size w w') := by
  have hb0 := balR (o := .cells #[.slice x.sa x.s.length x.sc, .slice x.ta x.t.length x.tc, .slice x.ea x.e.length x.ec] 48) (Below.refl w.heap.size w)
  have hb1 := balR (o := .cells #[.int .i64 0] 58) hb0
  have hA := (Blk.new w 48 #[.slice x.sa x.s.length x.sc, .slice x.ta x.t.length x.tc, .slice x.ea x.e.length x.ec]).alloc (.cells #[.int .i64 0] 58)
  have hB := nbR w (.cells #[.slice x.sa x.s.length x.sc, .slice x.ta x.t.length x.tc, .slice x.ea x.e.length x.ec] 48) #[.int .i64 0] 58
  obtain ⟨MS, hMS⟩ : ∃ M, x.s.map textV = M := ⟨_, rfl⟩
  obtain ⟨MT, hMT⟩ : ∃ M, x.t.map textV = M := ⟨_, rfl⟩
  have hI : inhT x = bindS [bindS MS, bindS MT, bindS x.e] := by rw [← hMS, ← hMT]; rfl
  rw [hI]
  have HE1 := Lib.hid (fun u (hu : Below w.heap.size w u) => eachM_any x.sa x.sc x.s u (h.1.call hu) h1)
  have HE2 := Lib.hid (fun u (hu : Below w.heap.size w u) => eachM_any x.ta x.tc x.t u (h.2.1.call hu) h2)
  simp only [hMS] at HE1
  simp only [hMT] at HE2
  have HX := Lib.hid h
  have HZ1 := Lib.hid (show ∀ s ∈ MS, s.size ≤ maxLen from fun s hs => by rw [← hMS] at hs; obtain ⟨m, _, rfl⟩ := List.mem_map.1 hs; exact textV_max m)
  have HZ2 := Lib.hid (show ∀ s ∈ MT, s.size ≤ maxLen from fun s hs => by rw [← hMT] at hs; obtain ⟨m, _, rfl⟩ := List.mem_map.1 hs; exact textV_max m)
  have HZ3 := Lib.hid (And.intro (bindS_max MS) (And.intro (bindS_max MT) (bindS_max x.e)))
  clear hMS hMT hI
  have hst : InhSt w w.heap.size (w.heap.size + 1) x ((w.alloc (.cells #[.slice x.sa x.s.length x.sc, .slice x.ta x.t.length x.tc, .slice x.ea x.e.length x.ec] 48)).alloc (.cells #[.int .i64 0] 58)) := ⟨hb1, hA, ⟨0, hB⟩, by omega, by omega⟩
  clear hb0 hb1 hA hB h h1 h2
  go_enter Tryz.func31, Tryz.ntmps31
  go_upto_region 2 with fail
  obtain ⟨g0, hg⟩ : ∃ g, w.heap.size = g := ⟨_, rfl⟩
  generalize (w.alloc (.cells #[.slice x.sa x.s.length x.sc, .slice x.ta x.t.length x.tc, .slice x.ea x.e.length x.ec] 48)).alloc (.cells #[.int .i64 0] 58) = wx at *
  rw [hg] at hst ⊢
  clear hg
  have s0 : InhSt w g0 (g0 + 1) x wx.drew := hst.call (Below.refl _ _).drew
  have hS := s0.cells
  refine wp_region_marked (fun w' : World => w'.cell? ⟨g0, 0, none⟩ = some (.slice x.sa x.s.length x.sc) ∧ w'.cell? ⟨g0, 1, none⟩ = some (.slice x.ta x.t.length x.tc) ∧ w'.cell? ⟨g0, 2, none⟩ = some (.slice x.ea x.e.length x.ec)) 13 (by kernel_rfl) ?_
  refine wpAnyM_pure (v := ?v0) 0 rfl (by kernel_rfl) (by kernel_rfl) (by kernel_rfl) (by kernel_rfl) (by decide) (fun _ _ _ h => h) (Or.inl ⟨by rfl, ?hy0⟩) hS ?rest0
  case hy0 => intro wq hSw; go_simp; (try with_reducible rfl)
  case rest0 =>
  try simp only [Act.put, List.setIfInBounds_toArray]
  refine wpAnyM_loadP [] (v := ?v1) 1 rfl (by kernel_rfl) (by kernel_rfl) (by kernel_rfl) (by kernel_rfl) (by decide) (by kernel_rfl) (fun _ _ _ h => h) (Or.inl ⟨by rfl, ?hy1⟩) hS ?rest1
  case hy1 => intro wq hSw; (try dsimp only at hSw); obtain ⟨c0, c1, c2⟩ := hSw; go_simp; (try with_reducible rfl)
  case rest1 =>
  try simp only [Act.put]
  refine wpAnyM_pure (v := ?v4) 4 rfl (by kernel_rfl) (by kernel_rfl) (by kernel_rfl) (by kernel_rfl) (by decide) (fun _ _ _ h => h) (Or.inl ⟨by rfl, ?hy4⟩) hS ?rest4
  case hy4 => intro wq hSw; go_simp; (try with_reducible rfl)
  case rest4 =>
  try simp only [Act.put]
  refine wpAnyM_loadP [] (v := ?v5) 5 rfl (by kernel_rfl) (by kernel_rfl) (by kernel_rfl) (by kernel_rfl) (by decide) (by kernel_rfl) (fun _ _ _ h => h) (Or.inl ⟨by rfl, ?hy5⟩) hS ?rest5
  case hy5 => intro wq hSw; (try dsimp only at hSw); obtain ⟨c0, c1, c2⟩ := hSw; go_simp; (try with_reducible rfl)
  case rest5 =>
  try simp only [Act.put]
  refine wpAnyM_pure (v := ?v8) 8 rfl (by kernel_rfl) (by kernel_rfl) (by kernel_rfl) (by kernel_rfl) (by decide) (fun _ _ _ h => h) (Or.inl ⟨by rfl, ?hy8⟩) hS ?rest8
  case hy8 => intro wq hSw; go_simp; (try with_reducible rfl)
  case rest8 =>
  try simp only [Act.put]
  refine wpAnyM_loadP [] (v := ?v9) 9 rfl (by kernel_rfl) (by kernel_rfl) (by kernel_rfl) (by kernel_rfl) (by decide) (by kernel_rfl) (fun _ _ _ h => h) (Or.inl ⟨by rfl, ?hy9⟩) hS ?rest9
  case hy9 => intro wq hSw; (try dsimp only at hSw); obtain ⟨c0, c1, c2⟩ := hSw; go_simp; (try with_reducible rfl)
  case rest9 =>
  try simp only [Act.put]
  refine wpAnyM_one 2 rfl (by kernel_rfl) (fun K hK => ?_)
  go_simp
  go_at_call 83
  refine (HE1.out _ s0.below).mono ?_
  rintro e u1 ⟨v1, rfl, ho1, hd1⟩
  obtain ⟨a1, c1, rfl, hs1⟩ := ho1.strs HZ1.out
  have s1 := s0.call hd1
  refine hK.out _ _ s1.cells ?_
  clear hS
  have hS := s1.cells
  clear hK
  try simp only [Act.put, List.setIfInBounds_toArray, List.set_cons_zero, List.set_cons_succ]
  refine wpAnyM_one 3 rfl (by kernel_rfl) (fun K hK => ?_)
  go_simp
  obtain ⟨f2, hf2⟩ := s1.bnd
  go_at_call 27
  refine (cfgBind_any (g0 + 1) f2 a1 c1 MS _ hf2 hs1 w.heap.size).mono ?_
  rintro e u2 ⟨rfl, hd2⟩
  have s2 := s1.bind hd2
  refine hK.out _ _ s2.cells ?_
  clear hS
  have hS := s2.cells
  clear hK
  try simp only [Act.put, List.setIfInBounds_toArray, List.set_cons_zero, List.set_cons_succ]
  refine wpAnyM_one 6 rfl (by kernel_rfl) (fun K hK => ?_)
  go_simp
  go_at_call 83
  refine (HE2.out _ s2.below).mono ?_
  rintro e u3 ⟨v3, rfl, ho3, hd3⟩
  obtain ⟨a3, c3, rfl, hs3⟩ := ho3.strs HZ2.out
  have s3 := s2.call hd3
  refine hK.out _ _ s3.cells ?_
  clear hS
  have hS := s3.cells
  clear hK
  try simp only [Act.put, List.setIfInBounds_toArray, List.set_cons_zero, List.set_cons_succ]
  refine wpAnyM_one 7 rfl (by kernel_rfl) (fun K hK => ?_)
  go_simp
  obtain ⟨f4, hf4⟩ := s3.bnd
  go_at_call 27
  refine (cfgBind_any (g0 + 1) f4 a3 c3 MT _ hf4 hs3 w.heap.size).mono ?_
  rintro e u4 ⟨rfl, hd4⟩
  have s4 := s3.bind hd4
  refine hK.out _ _ s4.cells ?_
  clear hS
  have hS := s4.cells
  clear hK
  try simp only [Act.put, List.setIfInBounds_toArray, List.set_cons_zero, List.set_cons_succ]
  refine wpAnyM_one 10 rfl (by kernel_rfl) (fun K hK => ?_)
  go_simp
  obtain ⟨f5, hf5⟩ := s4.bnd
  go_at_call 27
  refine (cfgBind_any (g0 + 1) f5 x.ea x.ec x.e _ hf5 (HX.out.2.2.1.call s4.below) w.heap.size).mono ?_
  rintro e u5 ⟨rfl, hd5⟩
  have s5 := s4.bind hd5
  refine hK.out _ _ s5.cells ?_
  clear hS
  have hS := s5.cells
  clear hK
  try simp only [Act.put, List.setIfInBounds_toArray, List.set_cons_zero, List.set_cons_succ]
  refine wpAnyM_one 11 rfl (by kernel_rfl) (fun K hK => ?_)
  go_simp
  have hn6 := (Below.refl u5.heap.size u5).alloc (Nat.le_refl _) (.cells #[.string (bindS MS), .string (bindS MT), .string (bindS x.e)] 9)
  have s6 := s5.call hn6
  have hr6 := strs3 u5 (bindS MS) (bindS MT) (bindS x.e) HZ3.out.1 HZ3.out.2.1 HZ3.out.2.2
  refine hK.out _ _ s6.cells ?_
  clear hS
  have hS := s6.cells
  clear hK
  try simp only [Act.put, List.setIfInBounds_toArray, List.set_cons_zero, List.set_cons_succ]
  refine wpAnyM_one 12 rfl (by kernel_rfl) (fun K hK => ?_)
  go_simp
  obtain ⟨f7, hf7⟩ := s6.bnd
  go_at_call 27
  refine (cfgBind_any (g0 + 1) f7 (some ⟨u5.heap.size, 0, none⟩) 3 [bindS MS, bindS MT, bindS x.e] _ hf7 hr6 w.heap.size).mono ?_
  rintro e u7 ⟨rfl, hd7⟩
  have s7 := s6.bind hd7
  refine hK.out _ _ s7.cells ?_
  clear hS
  have hS := s7.cells
  clear hK
  try simp only [Act.put, List.setIfInBounds_toArray, List.set_cons_zero, List.set_cons_succ]
  refine wpAnyM_tail rfl (by decide) (by decide) (by kernel_rfl) ?_
  simp only [List.drop_succ_cons, List.drop_zero]
  go_wp2_with fail
  go_ret
  exact ⟨rfl, s7.below⟩
end Go.Proofs.YtkgnapojkijbgaaGreatDoor
/- The contract of config.likeInhibit. -/
namespace Go.Proofs.YtkgnapojkijbgaaGreatDoor
open Go.RowKit

/-- two inhibits are the same -/
def likeI (x y : InA) : Prop := x.s = y.s ∧ x.t = y.t ∧ x.e = y.e
set_option maxHeartbeats 3200000 in
set_option maxRecDepth 100000 in
theorem likeInh_any (x y : InA) (w : World) (hx : InA.ok w x) (hy : InA.ok w y) : Calls Tryz.prog 68 #[.agg #[.slice x.sa x.s.length x.sc, .slice x.ta x.t.length x.tc, .slice x.ea x.e.length x.ec], .agg #[.slice y.sa y.s.length y.sc, .slice y.ta y.t.length y.tc, .slice y.ea y.e.length y.ec]] w (BoolB (eqB (likeI x y)) w) := by
  have hb := balR (o := .cells #[.slice x.sa x.s.length x.sc, .slice x.ta x.t.length x.tc, .slice x.ea x.e.length x.ec] 48) (Below.refl w.heap.size w)
  have hb2 := balR (o := .cells #[.slice y.sa y.s.length y.sc, .slice y.ta y.t.length y.tc, .slice y.ea y.e.length y.ec] 48) hb
  have hA := (Blk.new w 48 #[.slice x.sa x.s.length x.sc, .slice x.ta x.t.length x.tc, .slice x.ea x.e.length x.ec]).alloc (.cells #[.slice y.sa y.s.length y.sc, .slice y.ta y.t.length y.tc, .slice y.ea y.e.length y.ec] 48)
  have hB := nbR w (.cells #[.slice x.sa x.s.length x.sc, .slice x.ta x.t.length x.tc, .slice x.ea x.e.length x.ec] 48) #[.slice y.sa y.s.length y.sc, .slice y.ta y.t.length y.tc, .slice y.ea y.e.length y.ec] 48
  have H1 := Lib.hid (fun W (hW : Below w.heap.size w W) => eqMats_any x.sa y.sa x.sc y.sc x.s y.s W (hx.1.call hW) (hy.1.call hW))
  have H2 := Lib.hid (fun W (hW : Below w.heap.size w W) => eqMats_any x.ta y.ta x.tc y.tc x.t y.t W (hx.2.1.call hW) (hy.2.1.call hW))
  have H3 := Lib.hid (fun W (hW : Below w.heap.size w W) => equalD_any x.ea y.ea x.ec y.ec x.e y.e W (hx.2.2.1.call hW) (hy.2.2.1.call hW))
  have hR : eqB (likeI x y) = (eqB (x.s = y.s) && (eqB (x.t = y.t) && decide (x.e = y.e))) := by
    unfold likeI
    rw [eqB_and, eqB_and, eqB_dec (x.e = y.e)]
  rw [hR]
  generalize eqB (x.s = y.s) = B1 at *
  generalize eqB (x.t = y.t) = B2 at *
  generalize decide (x.e = y.e) = B3 at *
  have HB := Lib.hid hb2
  clear hb hb2 hx hy hR
  obtain ⟨s, t, e, sa, sc, ta, tc, ea, ec⟩ := x
  obtain ⟨s', t', e', sa', sc', ta', tc', ea', ec'⟩ := y
  simp only at *
  go_enter Tryz.func68, Tryz.ntmps68
  go_upto_region 1 with fail
  obtain ⟨g, hg⟩ : ∃ g, w.heap.size = g := ⟨_, rfl⟩
  generalize (w.alloc (.cells #[.slice sa s.length sc, .slice ta t.length tc, .slice ea e.length ec] 48)).alloc (.cells #[.slice sa' s'.length sc', .slice ta' t'.length tc', .slice ea' e'.length ec'] 48) = wx at *
  rw [hg] at hA hB ⊢
  clear hg
  obtain ⟨c0, c1, c2⟩ := hA.cells3
  obtain ⟨d0, d1, d2⟩ := hB.cells3
  cases B1
  case false =>
    go_wp2_with (go_at_call 131; (with_reducible refine (H1.out _ HB.out).mono ?_); rintro e w2 ⟨rfl, hb2⟩)
    go_ret
    exact ⟨rfl, bthen HB.out hb2⟩
  cases B2
  case false =>
    go_wp2_with (first
      | (go_at_call 131; (with_reducible refine (H1.out _ HB.out).mono ?_); rintro e w2 ⟨rfl, hb2⟩; obtain ⟨p0, p1, p2⟩ := (hA.call hb2).cells3; obtain ⟨q0, q1, q2⟩ := (hB.call hb2).cells3)
      | (go_at_call 131; (with_reducible refine (H2.out _ (bthen HB.out hb2)).mono ?_); rintro e w3 ⟨rfl, hb3⟩))
    go_ret
    exact ⟨rfl, bthen HB.out (bthen hb2 hb3)⟩
  go_wp2_with (first
    | (go_at_call 131; (with_reducible refine (H1.out _ HB.out).mono ?_); rintro e w2 ⟨rfl, hb2⟩; obtain ⟨p0, p1, p2⟩ := (hA.call hb2).cells3; obtain ⟨q0, q1, q2⟩ := (hB.call hb2).cells3)
    | (go_at_call 131; (with_reducible refine (H2.out _ (bthen HB.out hb2)).mono ?_); rintro e w3 ⟨rfl, hb3⟩; obtain ⟨r0, r1, r2⟩ := ((hA.call hb2).call hb3).cells3; obtain ⟨u0, u1, u2⟩ := ((hB.call hb2).call hb3).cells3)
    | (go_at_call 76; (with_reducible refine (H3.out _ (bthen HB.out (bthen hb2 hb3))).mono ?_); rintro e w4 ⟨rfl, hb4⟩))
  go_ret
  exact ⟨by simp, bthen HB.out (bthen hb2 (bthen hb3 hb4))⟩
end Go.Proofs.YtkgnapojkijbgaaGreatDoor
/- The contract of the comparison that config.sorted of inhibits sorts by. -/
namespace Go.Proofs.YtkgnapojkijbgaaGreatDoor
open Go.RowKit Go.Sort Go.Lib Go.Shelf

instance : Inhabited InA := ⟨⟨[], [], [], none, 0, none, 0, none, 0⟩⟩
theorem InA.enc_len (x : InA) : x.enc.length = 3 := rfl
theorem InA.enc_one (x : InA) : ∀ v ∈ x.enc, v.oneCell' = true := by
  intro v hv
  simp only [InA.enc, List.mem_cons, List.not_mem_nil, or_false] at hv
  rcases hv with rfl | rfl | rfl <;> rfl
/-- an inhibit in memory whose lists are not too long -/
def InA.fit (w : World) (x : InA) : Prop := InA.ok w x ∧ x.s.length ≤ 1000000 ∧ x.t.length ≤ 1000000
theorem InA.fit.call {w w1 : World} {x : InA} (h : InA.fit w x) (hb : Below w.heap.size w w1) : InA.fit w1 x := ⟨InA.ok.call h.1 hb, h.2⟩
set_option maxHeartbeats 3200000 in
set_option maxRecDepth 100000 in
theorem cmpI_any (x y : InA) (g : Nat) (w : World) (hx : InA.fit w x) (hy : InA.fit w y) (hg : Blk w g 63 #[.func (.func 31) #[] #[]]) :
    Calls Tryz.prog 130 #[.agg #[.slice x.sa x.s.length x.sc, .slice x.ta x.t.length x.tc, .slice x.ea x.e.length x.ec], .agg #[.slice y.sa y.s.length y.sc, .slice y.ta y.t.length y.tc, .slice y.ea y.e.length y.ec], .pointer (some ⟨g, 0, none⟩)] w fun e w' => e = .returned (.int .i64 (cmpN inhT x y)) ∧ Below w.heap.size w w' := by
  have hb := balR (o := .cells #[.slice x.sa x.s.length x.sc, .slice x.ta x.t.length x.tc, .slice x.ea x.e.length x.ec] 48) (Below.refl w.heap.size w)
  have hb2 := balR (o := .cells #[.slice y.sa y.s.length y.sc, .slice y.ta y.t.length y.tc, .slice y.ea y.e.length y.ec] 48) hb
  have hX := (Blk.new w 48 #[.slice x.sa x.s.length x.sc, .slice x.ta x.t.length x.tc, .slice x.ea x.e.length x.ec]).alloc (.cells #[.slice y.sa y.s.length y.sc, .slice y.ta y.t.length y.tc, .slice y.ea y.e.length y.ec] 48)
  have hY := nbR w (.cells #[.slice x.sa x.s.length x.sc, .slice x.ta x.t.length x.tc, .slice x.ea x.e.length x.ec] 48) #[.slice y.sa y.s.length y.sc, .slice y.ta y.t.length y.tc, .slice y.ea y.e.length y.ec] 48
  have hG := (hg.alloc (.cells #[.slice x.sa x.s.length x.sc, .slice x.ta x.t.length x.tc, .slice x.ea x.e.length x.ec] 48)).alloc (.cells #[.slice y.sa y.s.length y.sc, .slice y.ta y.t.length y.tc, .slice y.ea y.e.length y.ec] 48)
  have H1 := Lib.hid (fun W (hW : Below w.heap.size w W) => inhText_any x W (InA.ok.call hx.1 hW) hx.2.1 hx.2.2)
  have H2 := Lib.hid (fun W (hW : Below w.heap.size w W) => inhText_any y W (InA.ok.call hy.1 hW) hy.2.1 hy.2.2)
  obtain ⟨K, hK⟩ : ∃ K, cmpN inhT x y = K := ⟨_, rfl⟩
  have HC := Lib.hid (fun W => show Calls Tryz.prog 124 #[.string (inhT x), .string (inhT y)] W (fun e w' => e = .returned (.int .i64 K) ∧ W = w') from (Tryz.strings_Compare (inhT x) (inhT y) W).mono fun e w' ⟨he, hw⟩ => ⟨by rw [he, ← hK]; rfl, hw.symm⟩)
  rw [hK]
  clear hK
  generalize inhT x = TX at *
  generalize inhT y = TY at *
  have HB := Lib.hid hb2
  clear hb hb2 hx hy hg
  obtain ⟨s, t, e, sa, sc, ta, tc, ea, ec⟩ := x
  obtain ⟨s', t', e', sa', sc', ta', tc', ea', ec'⟩ := y
  simp only at *
  go_enter Tryz.func130, Tryz.ntmps130
  go_upto_region 1 with fail
  obtain ⟨u, hu⟩ : ∃ u, w.heap.size = u := ⟨_, rfl⟩
  generalize (w.alloc (.cells #[.slice sa s.length sc, .slice ta t.length tc, .slice ea e.length ec] 48)).alloc (.cells #[.slice sa' s'.length sc', .slice ta' t'.length tc', .slice ea' e'.length ec'] 48) = wx at *
  rw [hu] at hX hY ⊢
  have HB2 : Hid (Below wx.heap.size wx wx) := Below.refl _ _
  have hu1 := HB.out.size
  rw [hu] at hu1
  have HU := Lib.hid hu
  clear hu
  obtain ⟨c0, c1, c2⟩ := hX.cells3
  obtain ⟨d0, d1, d2⟩ := hY.cells3
  have g0 := hG.cell 0
  simp only [List.getElem?_toArray, List.getElem?_cons_zero] at g0
  have c0 := fun x => later_cell c0 x
  have c1 := fun x => later_cell c1 x
  have c2 := fun x => later_cell c2 x
  have d0 := fun x => later_cell d0 x
  have d1 := fun x => later_cell d1 x
  have d2 := fun x => later_cell d2 x
  have g0 := fun x => later_cell g0 x
  have HL : Hid (∀ z, Below w.heap.size w (later wx z)) := fun z => HB.out.trans ((later_below wx z).mono (by rw [HU.out]; exact hu1))
  clear hX hY hG hu1
  refine wp_region_later (by kernel_rfl) (by kernel_rfl) ?_
  repeat (go_big_quiet_step (first
    | (go_at_call 31; first | (with_reducible exact calls_later (H1.out _ (HL.out _))) | (with_reducible exact calls_later (H2.out _ (HL.out _))))
    | (go_at_call 124; exact calls_later_same (HC.out _))))
  refine wpQuiet_nil ?_
  rintro _ ⟨z, rfl⟩
  have hb3 := HL.out z
  generalize later wx z = w2 at *
  go_wp2_with fail
  go_ret
  exact ⟨rfl, hb3⟩
end Go.Proofs.YtkgnapojkijbgaaGreatDoor
/- The sort of inhibits: slices.SortFunc at twelve of them or fewer. -/
namespace Go.Proofs.YtkgnapojkijbgaaGreatDoor
open Go.RowKit Go.Sort Go.Lib Go.Shelf

section
variable {A : Type} [Inhabited A] {enc : A → List Value} {k : Nat}
theorem OwnX.swap {T : TypeId} {w : World} {base g cap : Nat} {d : Array A} {n : Nat} (hk : ∀ x, (enc x).length = k) (hn : d.size = n) (h : OwnX T k enc w base (.slice (some ⟨g, 0, none⟩) n cap) d.toList) (i j : Nat) (hi : i < n) (hj : j < n) :
    OwnX T k enc ((w.drew.setCells g (0 + i * k) (enc d[j]!)).setCells g (0 + j * k) (enc d[i]!)) base (.slice (some ⟨g, 0, none⟩) n cap) (swp d i j).toList ∧ Below base w ((w.drew.setCells g (0 + i * k) (enc d[j]!)).setCells g (0 + j * k) (enc d[i]!)) := by
  subst hn
  have h' : OwnX T k enc w base (.slice (some ⟨g, 0, none⟩) d.toList.length cap) d.toList := by simpa using h
  have hH := h'.holds hk
  rw [show d.toList.toArray = d by simp] at hH
  have hlt := (World.ownsRow.lt h' g rfl)
  have e0 : sortWorldK enc k w g 0 0 d #[] = w := by
    unfold sortWorldK
    rw [grow_empty]
    exact putRowK_self enc k w g 0 d hH
  have e1 := sortWorldK_swp_c enc k w g 0 hk 0 d #[] hlt.2 i j hi hj
  rw [e0] at e1
  rw [e1]
  have ho := h'.sorted (ys := (swp d i j).toList) (m := 1) (os := #[]) hk (by simp [size_swp])
  rw [show (swp d i j).toList.toArray = swp d i j by simp] at ho
  refine ⟨by simpa using ho, rfl, rfl, rfl, size_sortK _ _ _ _ _, fun q hq => heap_sortK w g 1 q _ #[] (by omega) (by omega)⟩
end
theorem all_swp {xs : List InA} {d : Array InA} {n : Nat} (hn : d.size = n) (h : ∀ i, i < n → d[i]! ∈ xs) (i j : Nat) (hi : i < n) (hj : j < n) : ∀ q, q < n → (swp d i j)[q]! ∈ xs := by
  intro q hq
  subst hn
  rw [swp_get d hi hj q]
  split
  · exact h _ hi
  · split
    · exact h _ hj
    · exact h _ hq
theorem drew_set1 (w : World) (p : Addr) (v : Value) : w.drew.setCell p v = (w.setCell p v).drew := rfl
theorem two_set (w : World) (g p q : Nat) (a b c a' b' c' : Value) : (w.drew.setCells g p [a, b, c]).setCells g q [a', b', c'] = ((((((w.setCell ⟨g, p, none⟩ a).setCell ⟨g, p + 1, none⟩ b).setCell ⟨g, p + 2, none⟩ c).setCell ⟨g, q, none⟩ a').setCell ⟨g, q + 1, none⟩ b').setCell ⟨g, q + 2, none⟩ c').drew := by
  simp only [World.setCells, drew_set1]
/-- what a sort asks of the comparison -/
def CmpOf (xs : List InA) (base f : Nat) (w : World) : Prop := ∀ W, Below base w W → ∀ x ∈ xs, ∀ y ∈ xs,
  Calls Tryz.prog 130 #[.agg #[.slice x.sa x.s.length x.sc, .slice x.ta x.t.length x.tc, .slice x.ea x.e.length x.ec], .agg #[.slice y.sa y.s.length y.sc, .slice y.ta y.t.length y.tc, .slice y.ea y.e.length y.ec], .pointer (some ⟨f, 0, none⟩)] W fun e w' => e = .returned (.int .i64 (cmpN inhT x y)) ∧ Below W.heap.size W w'
theorem cells_row {T : TypeId} {w : World} {base g cap n : Nat} {d : Array InA} (hn : d.size = n) (h : OwnX T 3 InA.enc w base (.slice (some ⟨g, 0, none⟩) n cap) d.toList) (i : Nat) (hi : i < n) :
    w.cell? ⟨g, i * 3, none⟩ = some (.slice d[i]!.sa d[i]!.s.length d[i]!.sc) ∧ w.cell? ⟨g, i * 3 + 1, none⟩ = some (.slice d[i]!.ta d[i]!.t.length d[i]!.tc) ∧ w.cell? ⟨g, i * 3 + 2, none⟩ = some (.slice d[i]!.ea d[i]!.e.length d[i]!.ec) := by
  subst hn
  have h' : OwnX T 3 InA.enc w base (.slice (some ⟨g, 0, none⟩) d.toList.length cap) d.toList := by simpa using h
  have hc : ∀ j, j < 3 → w.cell? ⟨g, i * 3 + j, none⟩ = (InA.enc d[i]!)[j]? := fun j hj => by
    rw [World.ownsRow.cellAt h' (i * 3 + j) (by simp; omega), rowV_get InA.enc_len d.toList i (by simpa using hi) j hj]
    simp [hi]
  exact ⟨hc 0 (by omega), hc 1 (by omega), hc 2 (by omega)⟩
theorem OwnX.unfrozen {A : Type} {enc : A → List Value} {k : Nat} {T : TypeId} {w : World} {base g cap n : Nat} {xs : List A} (h : OwnX T k enc w base (.slice (some ⟨g, 0, none⟩) n cap) xs) (i : Nat) : w.frozen? ⟨g, i, none⟩ = false := by
  rcases h.2 with ⟨hv, _⟩ | ⟨g1, c1, cur, hv, hb, hg, hn, hm, hcs, ht⟩
  · cases hv
  · simp only [Value.slice.injEq, Option.some.injEq, Addr.mk.injEq] at hv
    obtain ⟨⟨rfl, _, _⟩, _, rfl⟩ := hv
    simp [World.frozen?, hg]
set_option maxHeartbeats 6400000 in
set_option maxRecDepth 1000000 in
theorem insI_any (base g cap f n : Nat) (xs : List InA) (d : Array InA) (w : World) (hn : d.size = n) (h : OwnX 48 3 InA.enc w base (.slice (some ⟨g, 0, none⟩) n cap) d.toList) (hin : ∀ i, i < n → d[i]! ∈ xs) (hc : CmpOf xs base f w) (h8 : n ≤ 1000000) :
    Calls Tryz.prog 241 #[.slice (some ⟨g, 0, none⟩) n cap, .int .i64 0, .int .i64 n, .func (.func 130) #[] #[.pointer (some ⟨f, 0, none⟩)]] w
      (fun e w' => e = .returned (.tuple #[]) ∧ OwnX 48 3 InA.enc w' base (.slice (some ⟨g, 0, none⟩) n cap) (Sort.insertionSort (ltOf (cmpN inhT)) d 0 n).toList ∧ Below base w w') := by
  have HC := Lib.hid hc
  have HS := Lib.hid h
  have HIN := Lib.hid hin
  have hbg := (World.ownsRow.lt h g rfl)
  have HBG := Lib.hid hbg
  clear hc h hin hbg
  go_enter Tryz.func241, Tryz.ntmps241
  go_wp2_with fail
  go_loopg [8] n (fun g1 vi wr => ∃ (i : Nat) (dk : Array InA), vi = .int .i64 (i : Int) ∧ 0 < i ∧ i ≤ n + 1 ∧ n + 1 - i ≤ g1 + 1 ∧ dk.size = n ∧ Hid (OwnX 48 3 InA.enc wr base (.slice (some ⟨g, 0, none⟩) n cap) dk.toList) ∧ Hid (∀ i, i < n → dk[i]! ∈ xs) ∧ Hid (Below base w wr) ∧ Hid (insOuter (ltOf (cmpN inhT)) 0 n i dk = insOuter (ltOf (cmpN inhT)) 0 n 1 d))
  case atStart => exact ⟨1, d, by go_num, by omega, by omega, by omega, hn, HS, HIN, Below.refl _ _, rfl⟩
  case round =>
    obtain ⟨i, dk, rfl, hai, hib, hg1, hsk, HO1, HI1, HB1, HO⟩ := hrel
    by_cases hlt : i < n
    · have hltz : (i : Int) < (n : Int) := by omega
      go_wp2_with fail
      go_loopg [9] i (fun g2 vj wr2 => ∃ (j : Nat) (dj : Array InA), vj = .int .i64 (j : Int) ∧ j ≤ i ∧ j ≤ g2 ∧ dj.size = n ∧ Hid (OwnX 48 3 InA.enc wr2 base (.slice (some ⟨g, 0, none⟩) n cap) dj.toList) ∧ Hid (∀ i, i < n → dj[i]! ∈ xs) ∧ Hid (Below base w wr2) ∧ Hid (insInner (ltOf (cmpN inhT)) 0 j dj = insInner (ltOf (cmpN inhT)) 0 i dk))
      case atStart => exact ⟨i, dk, rfl, Nat.le_refl _, Nat.le_refl _, hsk, HO1, HI1, HB1, rfl⟩
      case round =>
        obtain ⟨j, dj, rfl, hji, hg2, hsj, HO2, HI2, HB2, HI⟩ := hrel
        have out : (j ≤ 0 ∨ ltOf (cmpN inhT) dj[j]! dj[j - 1]! = false) → Hid (insOuter (ltOf (cmpN inhT)) 0 n (i + 1) dj = insOuter (ltOf (cmpN inhT)) 0 n 1 d) := fun hs => by
          show _ = _
          rw [← HO.out, insOuter_go _ _ _ _ _ hlt, ← HI.out, insInner_stop _ _ _ _ hs]
        have OUT := Lib.hid out
        clear out
        by_cases hja : 0 < j
        · obtain ⟨jp, rfl⟩ : ∃ jp, j = jp + 1 := ⟨j - 1, by omega⟩
          have hjaz : (0 : Int) < (jp : Int) + 1 := by omega
          have hjn : jp + 1 < n := by omega
          obtain ⟨xj, hxj⟩ : ∃ x, dj[jp + 1]! = x := ⟨_, rfl⟩
          obtain ⟨xp, hxp⟩ : ∃ x, dj[jp]! = x := ⟨_, rfl⟩
          have hwp : IntKind.i64.wrap (jp : Int) = (jp : Int) := by rw [IntKind.wrap_i64]; omega
          have hw1 : IntKind.i64.wrap ((jp : Int) + 1 - 1) = (jp : Int) := by rw [IntKind.wrap_i64]; omega
          have jz : (jp : Int) + 1 < (n : Int) := by omega
          have jz1 : (jp : Int) < (n : Int) := by omega
          have p0 : (0 : Int) ≤ (jp : Int) + 1 := by omega
          have e0 : ((jp : Int) + 1).toNat = jp + 1 := by omega
          have HCM := Lib.hid (fun z => HC.out _ (HB2.out.trans ((later_below wr z).mono (by have := HB2.out.size; have := HBG.out; omega))) xj (by rw [← hxj]; exact HI2.out _ (by omega)) xp (by rw [← hxp]; exact HI2.out _ (by omega)))
          obtain ⟨a0, a1, a2⟩ := cells_row hsj HO2.out (jp + 1) hjn
          obtain ⟨b0, b1, b2⟩ := cells_row hsj HO2.out jp (by omega)
          rw [hxj] at a0 a1 a2
          rw [hxp] at b0 b1 b2
          obtain ⟨K, hK⟩ : ∃ K, cmpN inhT xj xp = K := ⟨_, rfl⟩
          rw [hK] at HCM
          have HKK := Lib.hid hK
          have HXX := Lib.hid (And.intro hxj hxp)
          clear hK hxj hxp
          obtain ⟨s1, t1, e1, sa1, sc1, ta1, tc1, ea1, ec1⟩ := xj
          obtain ⟨s2, t2, e2, sa2, sc2, ta2, tc2, ea2, ec2⟩ := xp
          simp only at a0 a1 a2 b0 b1 b2 HCM
          have a0 := fun x => later_cell a0 x
          have a1 := fun x => later_cell a1 x
          have a2 := fun x => later_cell a2 x
          have b0 := fun x => later_cell b0 x
          have b1 := fun x => later_cell b1 x
          have b2 := fun x => later_cell b2 x
          go_upto_region 4 with fail
          by_cases hlv : K < 0
          · refine wp_region_later (by kernel_rfl) (by kernel_rfl) ?_
            repeat (go_big_quiet_step (first | (go_at_call 130; exact calls_later (HCM.out _))))
            refine wpQuiet_nil ?_
            rintro _ ⟨z, rfl⟩
            have HB3 : Hid (Below wr.heap.size wr (later wr z)) := later_below _ _
            have a0 := a0 z
            have a1 := a1 z
            have a2 := a2 z
            have b0 := b0 z
            have b1 := b1 z
            have b2 := b2 z
            have ho5 := HO2.out.call HB3.out
            generalize later wr z = w5 at *
            go_upto_region 6 with fail
            have hs5 : OwnX 48 3 InA.enc w5.drew base (.slice (some ⟨g, 0, none⟩) dj.toList.length cap) dj.toList := by
              have : OwnX 48 3 InA.enc w5.drew base (.slice (some ⟨g, 0, none⟩) n cap) dj.toList := ho5
              simpa [hsj] using this
            have hH5 : HoldsK InA.enc 3 w5.drew g 0 dj := by
              have := hs5.holds InA.enc_len
              simpa using this
            have bnd : ∀ x, x < dj.size → x * 3 + 3 ≤ dj.size * 3 := fun x hx => by omega
            have HSW := OwnX.swap InA.enc_len hsj ho5 (jp + 1) jp (by omega) (by omega)
            rw [HXX.out.1, HXX.out.2, Nat.zero_add, Nat.zero_add] at HSW
            simp only [InA.enc, two_set] at HSW
            have HSW := Lib.hid HSW
            have fz := fun i => (show w5.frozen? ⟨g, i, none⟩ = false from ho5.unfrozen i)
            have fa0 := fz ((jp + 1) * 3)
            have fa1 := fz ((jp + 1) * 3 + 1)
            have fa2 := fz ((jp + 1) * 3 + 2)
            have fb0 := fz (jp * 3)
            have fb1 := fz (jp * 3 + 1)
            have fb2 := fz (jp * 3 + 2)
            have HO5 := Lib.hid ho5
            clear hs5 hH5 bnd ho5 fz
            have mixed : Tryz.prog.follows .mixedOrders = true := by kernel_rfl
            go_big_region_o
            all_goals go_wp2
            go_roundg jp
            case measure => omega
            case rel =>
              refine ⟨jp, swp dj (jp + 1) jp, rfl, by omega, Nat.le_refl _, by rw [size_swp]; exact hsj, HSW.out.1, all_swp hsj HI2.out (jp + 1) jp (by omega) (by omega), HB2.out.trans ((HB3.out.mono (by have := HB2.out.size; have := HBG.out; omega)).trans HSW.out.2), ?_⟩
              show _ = _
              have := insInner_go (ltOf (cmpN inhT)) 0 (jp + 1) dj (by omega) (by simp only [Nat.add_sub_cancel]; rw [HXX.out.1, HXX.out.2]; exact decide_eq_true (by rw [HKK.out]; exact hlv))
              simp only [Nat.add_sub_cancel] at this
              rw [← HI.out, this]
          · refine wp_region_later (by kernel_rfl) (by kernel_rfl) ?_
            repeat (go_big_quiet_step (first | (go_at_call 130; exact calls_later (HCM.out _))))
            refine wpQuiet_nil ?_
            rintro _ ⟨z, rfl⟩
            have HB3 : Hid (Below wr.heap.size wr (later wr z)) := later_below _ _
            clear a0 a1 a2 b0 b1 b2 HCM
            generalize later wr z = w5 at *
            go_wp2_with fail
            go_roundg (n - (i + 1))
            case measure => omega
            case rel => exact ⟨i + 1, dj, by go_num, by omega, by omega, by omega, hsj, HO2.out.call HB3.out, HI2, HB2.out.trans (HB3.out.mono (by have := HB2.out.size; have := HBG.out; omega)), OUT.out (Or.inr (by simp only [Nat.add_sub_cancel]; rw [HXX.out.1, HXX.out.2]; exact decide_eq_false (by rw [HKK.out]; omega)))⟩
        · obtain rfl : j = 0 := by omega
          go_upto_region 4 with fail
          refine wp_region_later (by kernel_rfl) (by kernel_rfl) ?_
          repeat (go_big_quiet_step (fail))
          refine wpQuiet_nil ?_
          rintro _ ⟨z, rfl⟩
          have HB3 : Hid (Below wr.heap.size wr (later wr z)) := later_below _ _
          generalize later wr z = w5 at *
          go_wp2_with fail
          go_roundg (n - (i + 1))
          case measure => omega
          case rel => exact ⟨i + 1, dj, by go_num, by omega, by omega, by omega, hsj, HO2.out.call HB3.out, HI2, HB2.out.trans (HB3.out.mono (by have := HB2.out.size; have := HBG.out; omega)), OUT.out (Or.inl (Nat.le_refl _))⟩
    · have hltz : ¬ (i : Int) < (n : Int) := by omega
      go_wp2_with fail
      go_end0
      refine ⟨rfl, ?_, HB1.out⟩
      have e := HO.out
      rw [insOuter_stop _ _ _ _ _ hlt] at e
      have o := HO1.out
      rw [e] at o
      exact o
end Go.Proofs.YtkgnapojkijbgaaGreatDoor
/- slices.SortFunc of twelve inhibits or fewer. -/
namespace Go.Proofs.YtkgnapojkijbgaaGreatDoor
open Go.RowKit Go.Sort Go.Lib Go.Shelf
set_option maxHeartbeats 3200000 in
set_option maxRecDepth 100000 in
theorem pdqI_any (base g cap f n : Nat) (l : Int) (xs : List InA) (d : Array InA) (w : World) (hn : d.size = n) (h : OwnX 48 3 InA.enc w base (.slice (some ⟨g, 0, none⟩) n cap) d.toList) (hin : ∀ i, i < n → d[i]! ∈ xs) (hc : CmpOf xs base f w) (h8 : n ≤ 12) :
    Calls Tryz.prog 186 #[.slice (some ⟨g, 0, none⟩) n cap, .int .i64 0, .int .i64 n, .int .i64 l, .func (.func 130) #[] #[.pointer (some ⟨f, 0, none⟩)]] w
      (fun e w' => e = .returned (.tuple #[]) ∧ OwnX 48 3 InA.enc w' base (.slice (some ⟨g, 0, none⟩) n cap) (Sort.insertionSort (ltOf (cmpN inhT)) d 0 n).toList ∧ Below base w w') := by
  have HI := Lib.hid (insI_any base g cap f n xs d w hn h hin hc (by omega))
  have hz : (n : Int) ≤ 12 := by omega
  clear h hin hc
  go_enter Tryz.func186, Tryz.ntmps186
  go_wp2
  refine wp_loop_rounds 1 ?_
  rw [rounds_succ]
  go_wp2_with (go_at_call 241; refine HI.out.mono ?_; rintro e w2 ⟨rfl, ho, hb⟩)
  (try simp only [Exit.inBlock, Exit.then]); refine bodyPost_ret (results_none rfl _ _ _) rfl ?_
  exact ⟨rfl, ho, hb⟩
end Go.Proofs.YtkgnapojkijbgaaGreatDoor
/- slices.SortFunc of twelve inhibits or fewer. -/
namespace Go.Proofs.YtkgnapojkijbgaaGreatDoor
open Go.RowKit Go.Sort Go.Lib Go.Shelf
set_option maxHeartbeats 3200000 in
set_option maxRecDepth 100000 in
theorem sort1I_any (base g cap f : Nat) (xs : List InA) (w : World) (h : OwnX 48 3 InA.enc w base (.slice (some ⟨g, 0, none⟩) xs.length cap) xs) (hc : CmpOf xs base f w) (h8 : xs.length ≤ 12) :
    Calls Tryz.prog 129 #[.slice (some ⟨g, 0, none⟩) xs.length cap, .func (.func 130) #[] #[.pointer (some ⟨f, 0, none⟩)]] w
      (fun e w' => e = .returned (.tuple #[]) ∧ ∃ ys, ys.length = xs.length ∧ SortedN inhT xs ys ∧ OwnX 48 3 InA.enc w' base (.slice (some ⟨g, 0, none⟩) xs.length cap) ys ∧ Below base w w') := by
  have hp := fun l => pdqI_any base g cap f xs.length l xs xs.toArray w (by simp) h (fun i hi => by simp [hi]) hc h8
  have hs := insertionSort_holds (lt := ltOf (cmpN inhT)) (swo_cmpN inhT) xs.toArray 0 xs.toArray.size (Nat.zero_le _) (Nat.le_refl _)
  have hr := sortedN_of inhT xs (Sort.insertionSort (ltOf (cmpN inhT)) xs.toArray 0 xs.toArray.size) hs.1 hs.2
  rw [show xs.toArray.size = xs.length by simp] at hr
  have HR := Lib.hid hr
  generalize Sort.insertionSort (ltOf (cmpN inhT)) xs.toArray 0 xs.length = D at *
  have HL := Lib.hid (fun W => show Calls Tryz.prog 183 #[.int .u64 (xs.length : Int)] W (fun e w' => (∃ l : Int, e = .returned (.int .i64 l)) ∧ W = w') from (Tryz.bits_Len (xs.length : Int) W (by omega) (by omega)).mono fun e w' ⟨he, hw⟩ => ⟨⟨_, he⟩, hw.symm⟩)
  have HP := Lib.hid hp
  have hz : (0 : Int) ≤ (xs.length : Int) := by omega
  have hz2 : (xs.length : Int) ≤ 12 := by omega
  have hzw : IntKind.u64.wrap (xs.length : Int) = (xs.length : Int) := by rw [IntKind.wrap_u64]; omega
  clear h hc hp hs hr
  go_enter Tryz.func129, Tryz.ntmps129
  go_wp2_with (first
    | (go_at_call 183; refine (HL.out _).mono ?_; rintro e w2 ⟨⟨l, rfl⟩, rfl⟩)
    | (go_at_call 186; refine (HP.out _).mono ?_; rintro e w3 ⟨rfl, ho, hb⟩))
  go_end0
  exact ⟨rfl, D.toList, HR.out.1, HR.out.2, ho, hb⟩
end Go.Proofs.YtkgnapojkijbgaaGreatDoor
/- The contract of config.sorted of inhibits. -/
namespace Go.Proofs.YtkgnapojkijbgaaGreatDoor
open Go.RowKit Go.Sort Go.Lib Go.Shelf

theorem Tryz.infoIn : (Tryz.prog.info? 48).map (fun i => (i.zero, i.size, i.bytes)) = some (some (.agg #[.slice none 0 0, .slice none 0 0, .slice none 0 0]), 3, 72) := by kernel_rfl
theorem info_partsIn {x : Option TypeInfo} (h : x.map (fun i => (i.zero, i.size, i.bytes)) = some (some (.agg #[.slice none 0 0, .slice none 0 0, .slice none 0 0]), 3, 72)) : ∃ i, x = some i ∧ i.zero = some (.agg #[.slice none 0 0, .slice none 0 0, .slice none 0 0]) ∧ i.size = 3 ∧ i.bytes = 72 := by
  cases x with
  | none => cases h
  | some i => simp at h; exact ⟨i, rfl, h.1, h.2.1, h.2.2⟩
set_option maxHeartbeats 1600000 in
set_option maxRecDepth 100000 in
theorem clone0I_any (a : Addr) (c : Nat) (w : World) : Calls Tryz.prog 128 #[.slice (some a) 0 c] w (fun e w' => ∃ v, e = .returned v ∧ OwnX 48 3 InA.enc w' w.heap.size v ([] : List InA) ∧ Below w.heap.size w w') := by
  obtain ⟨i0, hi, hz0, hz1, hz2⟩ := info_partsIn Tryz.infoIn
  have q22 : ∀ (w : World) (a : Option Addr) (n c n' c' : Nat), (binOp .eql 28 (.slice a n c) (.slice none n' c')).run Tryz.prog w = .ok (.bool a.isNone) w := fun w a n c n' c' => Lib.run_eql_slice_nil w _ _ a n c n' c' Tryz.underlying28
  go_enter Tryz.func128, Tryz.ntmps128
  go_wp2_with (refine wpList_append_own _ (by rfl) (.tmp 5) (.tmp 6) 28 (by rfl) w.heap.size 48 i0 (.agg #[.slice none 0 0, .slice none 0 0, .slice none 0 0]) 3 72 Tryz.underlying28 hi hz0 hz1 hz2 rfl (by omega) (.slice (some ⟨w.heap.size, 0, none⟩) 0 0) 0 [] (by rfl) (World.ownsRow_made w #[] 0 (Nat.le_refl _) (by unfold maxLen; omega) (by simp)) a 0 c [] (by rfl) (by rfl) (by intro j u hj; simp at hj) (by intro u hu; cases hu) (by unfold maxLen; omega) (by omega) (by simp) ?_; intro v' w1 hown hgrow hnil)
  go_ret
  refine ⟨v', rfl, by simpa [OwnX, rowV] using hown, ?_⟩
  exact ((Below.refl _ w).alloc (Nat.le_refl _) _).grown hgrow (by simp) (by intro k hk; simp [Value.ownBlock] at hk; omega)
theorem cloneI_any (a : Option Addr) (c : Nat) (xs : List InA) (w : World) (h : HasInhs w a c xs) (h8 : xs.length ≤ 1000000) :
    Calls Tryz.prog 128 #[.slice a xs.length c] w (fun e w' => ∃ v, e = .returned v ∧ OwnX 48 3 InA.enc w' w.heap.size v xs ∧ Below w.heap.size w w') := by
  obtain ⟨i0, hi, hz0, hz1, hz2⟩ := info_partsIn Tryz.infoIn
  obtain ⟨h1, h2, h3, h4⟩ := h
  rcases h4 with rfl | ⟨b, off, rfl, hb, hc⟩
  · cases a with
    | none => exact (show Calls Tryz.prog 128 _ _ _ from AnyE.slices_Clone_nil Tryz.cloneI 0 c w).mono fun e w' ⟨he, hw⟩ => ⟨_, he, by rw [hw]; exact OwnX.nil _ _ _, by rw [hw]; exact Below.refl _ _⟩
    | some a => exact clone0I_any a c w
  · refine (show Calls Tryz.prog 128 _ _ _ from AnyE.slices_Clone Tryz.cloneI i0 _ 3 72 hi hz0 hz1 hz2 rfl (by omega) Tryz.sizeOf48 b off xs.length c (rowV InA.enc xs) w (rowV_len InA.enc_len xs) (by unfold maxLen; omega) (by omega) (HasRow.flat (_ok := InA.ok) (_c := c) InA.enc_len (by omega) hc) (fun u hu => ?_)).mono fun e w' ⟨v, he, ho, _, hb⟩ => ⟨v, he, ho, hb⟩
    obtain ⟨x, _, h⟩ := List.mem_flatMap.1 hu
    exact InA.enc_one x u h
set_option maxHeartbeats 1600000 in
set_option maxRecDepth 100000 in
theorem ins0I_any (a : Option Addr) (cap : Nat) (fv : Value) (w : World) : Calls Tryz.prog 241 #[.slice a 0 cap, .int .i64 0, .int .i64 0, fv] w (fun e w' => e = .returned (.tuple #[]) ∧ w' = w) := by
  go_enter Tryz.func241, Tryz.ntmps241
  go_wp2
  refine wp_loop_rounds 1 ?_
  rw [rounds_succ]
  go_wp2
  go_end0
  exact ⟨rfl, rfl⟩
set_option maxHeartbeats 1600000 in
set_option maxRecDepth 100000 in
theorem pdq0I_any (a : Option Addr) (cap : Nat) (l : Int) (fv : Value) (w : World) : Calls Tryz.prog 186 #[.slice a 0 cap, .int .i64 0, .int .i64 0, .int .i64 l, fv] w (fun e w' => e = .returned (.tuple #[]) ∧ w' = w) := by
  have HI := Lib.hid (ins0I_any a cap fv)
  go_enter Tryz.func186, Tryz.ntmps186
  go_wp2
  refine wp_loop_rounds 1 ?_
  rw [rounds_succ]
  go_wp2_with (go_at_call 241; refine (HI.out _).mono ?_; rintro e w2 ⟨rfl, rfl⟩)
  (try simp only [Exit.inBlock, Exit.then]); refine bodyPost_ret (results_none rfl _ _ _) rfl ?_
  exact ⟨rfl, rfl⟩
set_option maxHeartbeats 1600000 in
set_option maxRecDepth 100000 in
theorem sort0I_any (a : Option Addr) (cap : Nat) (fv : Value) (w : World) : Calls Tryz.prog 129 #[.slice a 0 cap, fv] w (fun e w' => e = .returned (.tuple #[]) ∧ w' = w) := by
  have HP := Lib.hid (fun l => pdq0I_any a cap l fv)
  have HL := Lib.hid (fun W => show Calls Tryz.prog 183 #[.int .u64 0] W (fun e w' => (∃ l : Int, e = .returned (.int .i64 l)) ∧ W = w') from (Tryz.bits_Len 0 W (by omega) (by omega)).mono fun e w' ⟨he, hw⟩ => ⟨⟨_, he⟩, hw.symm⟩)
  go_enter Tryz.func129, Tryz.ntmps129
  go_wp2_with (first
    | (go_at_call 183; refine (HL.out _).mono ?_; rintro e w2 ⟨⟨l, rfl⟩, rfl⟩)
    | (go_at_call 186; refine (HP.out _ _).mono ?_; rintro e w3 ⟨rfl, rfl⟩))
  go_end0
  exact ⟨rfl, rfl⟩
/-- what config.sorted of these answers -/
def SrtI (xs : List InA) (w : World) (e : Ending) (w' : World) : Prop := ∃ v ys, e = .returned v ∧ ys.length = xs.length ∧ SortedN inhT xs ys ∧ OwnX 48 3 InA.enc w' w.heap.size v ys ∧ Below w.heap.size w w'
set_option maxHeartbeats 3200000 in
set_option maxRecDepth 100000 in
theorem srtI_any (a : Option Addr) (c : Nat) (xs : List InA) (w : World) (h : HasInhs w a c xs) (h8 : xs.length ≤ 12) (hl : ∀ x ∈ xs, x.s.length ≤ 1000000 ∧ x.t.length ≤ 1000000) :
    Calls Tryz.prog 67 #[.slice a xs.length c, .func (.func 31) #[] #[]] w (SrtI xs w) := by
  have hb := (Below.refl w.heap.size w).alloc (Nat.le_refl _) (.cells #[.func (.func 31) #[] #[]] 63)
  have hB := Blk.new w 63 #[.func (.func 31) #[] #[]]
  have hz : (w.alloc (.cells #[.func (.func 31) #[] #[]] 63)).heap.size = w.heap.size + 1 := by simp
  have hcl := cloneI_any a c xs _ (h.keep hb) (by omega)
  have hfit : ∀ x ∈ xs, InA.fit w x := fun x hx => ⟨h.2.2.1 x hx, hl x hx⟩
  have hs1 := fun (g cap : Nat) W (ho : OwnX 48 3 InA.enc W (w.heap.size + 1) (.slice (some ⟨g, 0, none⟩) xs.length cap) xs) (hf : Blk W w.heap.size 63 #[.func (.func 31) #[] #[]]) (hW : Below w.heap.size w W) => sort1I_any (w.heap.size + 1) g cap w.heap.size xs W ho (fun W2 hb2 x hx y hy => cmpI_any x y w.heap.size W2 ((hfit x hx).call (hW.trans (hb2.mono (Nat.le_succ _)))) ((hfit y hy).call (hW.trans (hb2.mono (Nat.le_succ _)))) ((hb2.block _ (Nat.lt_succ_self _)).trans hf)) h8
  have hs0 := fun a cap W => sort0I_any a cap (.func (.func 130) #[] #[.pointer (some ⟨w.heap.size, 0, none⟩)]) W
  have HB := Lib.hid hb
  have HCL := Lib.hid hcl
  have HS1 := Lib.hid hs1
  have HS0 := Lib.hid hs0
  have HBB := Lib.hid hB
  clear hb hcl hs1 hs0 hB h hfit hl
  go_enter Tryz.func67, Tryz.ntmps67
  go_upto_region 1 with fail
  obtain ⟨f, hf⟩ : ∃ f, w.heap.size = f := ⟨_, rfl⟩
  generalize w.alloc (.cells #[.func (.func 31) #[] #[]] 63) = wx at *
  have HF := Lib.hid hf
  rw [hf] at HBB HS1 HS0 hz ⊢
  clear hf
  go_upto_region 2 with (go_at_call 128; refine HCL.out.mono ?_; rintro e w2 ⟨v, rfl, ho2, hb2⟩)
  have hB2 := HBB.out.call hb2
  rw [hz] at ho2
  have hbb := HB.out.trans (hb2.mono HB.out.size)
  rcases ho2.2 with ⟨rfl, h0⟩ | ⟨g1, cap, cur, rfl, _, _, _, _, _, _⟩
  · obtain rfl : xs = [] := List.eq_nil_of_length_eq_zero h0
    have HBB2 := Lib.hid hbb
    clear hB2 hbb ho2
    go_wp2_with (go_at_call 129; refine (HS0.out _ _ _).mono ?_; rintro e w3 ⟨rfl, rfl⟩)
    go_ret
    exact ⟨_, [], rfl, rfl, ⟨.refl _, .nil⟩, OwnX.nil _ _ _, HBB2.out⟩
  · have hcall := HS1.out g1 cap w2 ho2 hB2 (HF.out ▸ hbb)
    have HCA := Lib.hid hcall
    have HBB2 := Lib.hid hbb
    clear hB2 hbb ho2 hcall
    go_wp2_with (go_at_call 129; refine HCA.out.mono ?_; rintro e w3 ⟨rfl, ys, hl3, hs3, ho3, hb3⟩)
    go_ret
    have hff := HF.out
    exact ⟨_, ys, rfl, hl3, hs3, ho3.base (by omega), HBB2.out.trans (hb3.mono (by omega))⟩
end Go.Proofs.YtkgnapojkijbgaaGreatDoor
/- Rows of structs of the call's own: a store of a whole struct, a clearing of what lies behind; lists without neighbours that are the same. -/
namespace Go.Proofs.YtkgnapojkijbgaaGreatDoor
open Go.RowKit Go.Sort Go.Lib Go.Shelf

section
variable {A : Type} [Inhabited A] {enc : A → List Value} {k : Nat}
theorem OwnX.lay {T : TypeId} {w : World} {base g cap n : Nat} {d : Array A} (hk : ∀ x, (enc x).length = k) (hn : d.size = n) (h : OwnX T k enc w base (.slice (some ⟨g, 0, none⟩) n cap) d.toList) (s : Nat) (vs : List Value) (hs : s + vs.length ≤ n * k) (ys : List A) (hm : ys.length ≤ n)
    (hy : ∀ t, t < ys.length * k → (setMany (flatK enc k d) s vs)[t]! = (flatK enc k ys.toArray)[t]!) :
    OwnX T k enc (w.setCells g s vs) base (.slice (some ⟨g, 0, none⟩) ys.length cap) ys ∧ Below base w (w.setCells g s vs) := by
  subst hn
  have h' : OwnX T k enc w base (.slice (some ⟨g, 0, none⟩) d.toList.length cap) d.toList := by simpa using h
  have hH := h'.holds hk
  rw [show d.toList.toArray = d by simp] at hH
  have hlt := (World.ownsRow.lt h' g rfl)
  have e : w.setCells g (0 + s) vs = putRow id w g 0 (setMany (flatK enc k d) s vs) := by
    have e1 := putRow_self id w g 0 (flatK enc k d) hH
    have e2 := setCells_putRow w g 0 vs s (flatK enc k d) (by simpa using hs)
    rw [e1] at e2
    exact e2
  rw [Nat.zero_add] at e
  rw [e]
  rcases h'.2 with ⟨hv, _⟩ | ⟨g1, c1, cur, hv, hb, hg, hn, hm', hcs, ht⟩
  · cases hv
  · simp only [Value.slice.injEq, Option.some.injEq, Addr.mk.injEq] at hv
    obtain ⟨⟨rfl, _, _⟩, _, rfl⟩ := hv
    have hne : ∀ q, q < base → (putRow id w g 0 (setMany (flatK enc k d) s vs)).heap[q]? = w.heap[q]? := fun q hq => by
      simp [putRow, mapBlock, Array.getElem?_modify, show g ≠ q by omega]
    refine ⟨?_, ⟨rfl, rfl, rfl, by simp, hne⟩⟩
    unfold OwnX
    have hfl := rowV_len hk ys
    have hn2 : d.size ≤ cap := by simpa using hn
    refine ⟨hfl, .inr ⟨g, cap, putCells id 0 (setMany (flatK enc k d) s vs) cur, rfl, hb, ?_, by omega, hm', by simp [putCells, hcs], ?_⟩⟩
    · simp [putRow, mapBlock, Array.getElem?_modify, hg, onCells]
    · have hcap : ys.length * k ≤ cap * k := Nat.mul_le_mul_right k (by omega)
      have hyd : ys.length * k ≤ d.size * k := Nat.mul_le_mul_right k hm
      apply List.ext_getElem?
      intro j
      rcases Nat.lt_or_ge j (ys.length * k) with hj | hj
      · have h2 : j < cur.size := by rw [hcs]; omega
        have h3 : j < (rowV enc ys).length := by rw [hfl]; exact hj
        rw [List.getElem?_take_of_lt hj]
        simp only [putCells, Array.getElem?_toList, Array.getElem?_mapIdx, Array.getElem?_eq_getElem h2, Option.map_some]
        rw [if_pos ⟨Nat.zero_le _, by simp; omega⟩, Nat.sub_zero, hy j hj, flat_row hk]
        simp [h3]
      · rw [List.getElem?_eq_none (by simp; omega), List.getElem?_eq_none (by rw [hfl]; omega)]
theorem OwnX.put {T : TypeId} {w : World} {base g cap n : Nat} {d : Array A} (hk : ∀ x, (enc x).length = k) (k0 : 0 < k) (hn : d.size = n) (h : OwnX T k enc w base (.slice (some ⟨g, 0, none⟩) n cap) d.toList) (i : Nat) (hi : i < n) (x : A) :
    OwnX T k enc (w.setCells g (i * k) (enc x)) base (.slice (some ⟨g, 0, none⟩) n cap) (d.setIfInBounds i x).toList ∧ Below base w (w.setCells g (i * k) (enc x)) := by
  subst hn
  have hb : i * k + k ≤ d.size * k := by have := Nat.mul_le_mul_right k (show i + 1 ≤ d.size from hi); rwa [Nat.add_mul, Nat.one_mul] at this
  have := OwnX.lay hk rfl h (i * k) (enc x) (by rw [hk]; exact hb) (d.setIfInBounds i x).toList (by simp) (fun t ht => ?_)
  · simpa using this
  · have ht' : t < d.size * k := by simpa using ht
    rw [get_setMany _ _ _ _ (by simpa using ht'), hk]
    rw [Array.toArray_toList, get_flatK _ _ (d.setIfInBounds i x) t (by simpa using ht'), get_flatK _ _ d t ht']
    have hq := Nat.div_add_mod t k
    have hm := Nat.mod_lt t k0
    by_cases hc : t / k = i
    · have e : k * (t / k) = i * k := by rw [hc, Nat.mul_comm]
      rw [if_pos ⟨by omega, by omega⟩, hc, getElem!_set_same d i x hi]
      congr 1
      omega
    · rw [getElem!_set_other d i (t / k) x hc]
      rw [if_neg]
      rintro ⟨h1, h2⟩
      exact hc (Nat.div_eq_of_lt_le (by omega) (by rw [Nat.add_mul, Nat.one_mul]; omega))
theorem OwnX.cut {T : TypeId} {w : World} {base g cap n m : Nat} {d : Array A} (hk : ∀ x, (enc x).length = k) (hn : d.size = n) (h : OwnX T k enc w base (.slice (some ⟨g, 0, none⟩) n cap) d.toList) (hm : m ≤ n) (z : Value) :
    OwnX T k enc (w.setCells g (m * k) (List.replicate ((n - m) * k) z)) base (.slice (some ⟨g, 0, none⟩) m cap) (d.toList.take m) ∧ Below base w (w.setCells g (m * k) (List.replicate ((n - m) * k) z)) := by
  subst hn
  have hmk : m * k ≤ d.size * k := Nat.mul_le_mul_right k hm
  have hsz : m * k + (d.size - m) * k = d.size * k := by rw [← Nat.add_mul]; congr 1; omega
  have hl : (d.toList.take m).length = m := by simp; omega
  have := OwnX.lay hk rfl h (m * k) (List.replicate ((d.size - m) * k) z) (by simp; omega) (d.toList.take m) (by rw [hl]; exact hm) (fun t ht => ?_)
  · rwa [hl] at this
  · rw [hl] at ht
    rw [get_setMany _ _ _ _ (by simp; omega), if_neg (by omega)]
    have k0 : 0 < k := by rcases Nat.eq_zero_or_pos k with h | h; · subst h; simp at ht
                          · exact h
    have hi : t / k < m := (Nat.div_lt_iff_lt_mul k0).2 ht
    rw [get_flatK _ _ d t (by omega), get_flatK _ _ (d.toList.take m).toArray t (by rw [show (d.toList.take m).toArray.size = (d.toList.take m).length from rfl, hl]; exact ht)]
    congr 2
    have hi2 : t / k < d.size := by omega
    simp [hi, hi2]
end
theorem zeroCells_rep (z v : Value) (k n : Nat) (hz : z.cells = Array.replicate k v) (k0 : 0 < k) : (Builtin.zeroCells z.cells n).toList = List.replicate (n * k) v := by
  rw [hz]
  apply List.ext_getElem
  · simp [Builtin.zeroCells]
  · intro i h1 h2
    have hm := Nat.mod_lt i k0
    simp [Builtin.zeroCells, hm]

/-- 'clear' of elements of k cells, each of which is the zero value's -/
theorem run_clear_k {P : Program} (w : World) (t e ty : TypeId) (z v : Value) (k : Nat) (k0 : 0 < k) (ht : P.underlying t = some (.slice e)) (hv : ∀ w, (zeroValue e).run P w = .ok z w) (hz : z.cells = Array.replicate k v) (h1 : v.oneCell' = true) (b o n c : Nat) (hn : 0 < n)
    (hc : ∀ j, j < n * k → (w.cell? ⟨b, o + j, none⟩).isSome = true) (hf : ∀ j, j < n * k → w.frozen? ⟨b, o + j, none⟩ = false) :
    (Builtin.clear_ #[t] ty #[.slice (some ⟨b, o, none⟩) n c]).run P w = .ok (.tuple #[]) (w.setCells b o (List.replicate (n * k) v)) := by
  have hzc := zeroCells_rep z v k n hz k0
  have hst := run_storeCells_cells (P := P) b o (List.replicate (n * k) v) 0 w (by simpa using hc) (by simpa using hf) (by intro u hu; rw [List.eq_of_mem_replicate hu]; exact h1)
  simp only [Nat.add_zero] at hst
  obtain ⟨m, rfl⟩ : ∃ m, n = m + 1 := ⟨n - 1, by omega⟩
  simp [Builtin.clear_, run_underlying ht, hv, hzc, hst]
/-- what stays of inhibits behind one of them: those that are not the same as the one ahead of them -/
noncomputable def compG (p : InA) : List InA → List InA
  | [] => []
  | y :: r => if eqB (likeI y p) = true then compG y r else y :: compG y r
noncomputable def compI : List InA → List InA
  | [] => []
  | x :: r => x :: compG x r
theorem compG_snoc (l : List InA) (p y : InA) : compG p (l ++ [y]) = compG p l ++ (if eqB (likeI y ((p :: l).getLast (by simp))) = true then [] else [y]) := by
  induction l generalizing p with
  | nil =>
    by_cases h : eqB (likeI y p) = true <;> simp [compG, h]
  | cons x l ih =>
    simp only [List.cons_append, compG, ih x, List.getLast_cons (show x :: l ≠ [] by simp)]
    split
    · rfl
    · rfl
theorem compI_snoc (l : List InA) (y : InA) (h : l ≠ []) : compI (l ++ [y]) = compI l ++ (if eqB (likeI y (l.getLast h)) = true then [] else [y]) := by
  cases l with
  | nil => exact absurd rfl h
  | cons x l => simp only [List.cons_append, compI, compG_snoc]
theorem compI_take (xs : List InA) (i : Nat) (h : i + 1 < xs.length) (B : Bool) (hB : eqB (likeI xs[i + 1] xs[i]) = B) : compI (xs.take (i + 2)) = compI (xs.take (i + 1)) ++ (if B = true then [] else [xs[i + 1]]) := by
  have hne : xs.take (i + 1) ≠ [] := by
    intro e
    have h1 : (xs.take (i + 1)).length = i + 1 := by rw [List.length_take]; omega
    rw [e] at h1
    cases h1
  rw [List.take_succ_eq_append_getElem h, compI_snoc _ _ hne]
  have hl : (xs.take (i + 1)).getLast hne = xs[i] := by
    rw [List.getLast_eq_getElem]
    simp only [List.length_take, List.getElem_take]
    have : min (i + 1) xs.length - 1 = i := by omega
    simp only [this]
  rw [hl, hB]
theorem compG_len (l : List InA) (p : InA) : (compG p l).length ≤ l.length := by
  induction l generalizing p with
  | nil => simp [compG]
  | cons x l ih =>
    simp only [compG]
    split
    · have := ih x; simp; omega
    · have := ih x; simp; omega
theorem compI_len (l : List InA) : (compI l).length ≤ l.length := by
  cases l with
  | nil => simp [compI]
  | cons x l => have := compG_len l x; simp [compI]; omega
end Go.Proofs.YtkgnapojkijbgaaGreatDoor
/- slices.CompactFunc of inhibits by likeInhibit, in place. -/
namespace Go.Proofs.YtkgnapojkijbgaaGreatDoor
open Go.RowKit Go.Sort Go.Lib Go.Shelf

/-- what a compaction asks of the comparison -/
def LikeOf (xs : List InA) (base : Nat) (w : World) : Prop := ∀ W, Below base w W → ∀ x ∈ xs, ∀ y ∈ xs,
  Calls Tryz.prog 68 #[.agg #[.slice x.sa x.s.length x.sc, .slice x.ta x.t.length x.tc, .slice x.ea x.e.length x.ec], .agg #[.slice y.sa y.s.length y.sc, .slice y.ta y.t.length y.tc, .slice y.ea y.e.length y.ec]] W (BoolB (eqB (likeI x y)) W)
theorem set3_cells (w : World) (g p : Nat) (a b c : Value) : w.setCells g p [a, b, c] = ((w.setCell ⟨g, p, none⟩ a).setCell ⟨g, p + 1, none⟩ b).setCell ⟨g, p + 2, none⟩ c := by
  simp only [World.setCells]
/-- what the second loop keeps -/
def CmpInv (xs : List InA) (m kk : Nat) (dj : Array InA) : Prop := dj.size = xs.length ∧ kk < m ∧ dj.toList.take kk = compI (xs.take m) ∧ ∀ i (h : i < xs.length), m - 1 ≤ i → dj[i]! = xs[i]
theorem CmpInv.skip {xs : List InA} {m kk : Nat} {dj : Array InA} (h : CmpInv xs (m + 1) kk dj) (hm : m + 1 < xs.length) (hB : eqB (likeI xs[m + 1] xs[m]) = true) : CmpInv xs (m + 2) kk dj := by
  obtain ⟨h1, h2, h3, h4⟩ := h
  refine ⟨h1, by omega, ?_, fun i hi hm => h4 i hi (by omega)⟩
  rw [compI_take xs m hm true hB, h3]
  simp
theorem CmpInv.keep {xs : List InA} {m kk : Nat} {dj : Array InA} (h : CmpInv xs (m + 1) kk dj) (hm : m + 1 < xs.length) (hB : eqB (likeI xs[m + 1] xs[m]) = false) : CmpInv xs (m + 2) (kk + 1) (dj.setIfInBounds kk xs[m + 1]) := by
  obtain ⟨h1, h2, h3, h4⟩ := h
  refine ⟨by simpa using h1, by omega, ?_, fun i hi hm => ?_⟩
  · rw [compI_take xs m hm false hB, ← h3]
    have hk : kk < dj.toList.length := by simp; omega
    simp only [Array.toList_setIfInBounds]
    rw [List.take_succ_eq_append_getElem (by simpa using hk)]
    simp [List.take_set_of_le]
  · rw [getElem!_set_other dj kk i _ (by omega)]
    exact h4 i hi (by omega)
set_option maxHeartbeats 12800000 in
set_option maxRecDepth 1000000 in
theorem cmpctI_any (base g cap n : Nat) (xs : List InA) (w : World) (hn : xs.length = n) (h : OwnX 48 3 InA.enc w base (.slice (some ⟨g, 0, none⟩) n cap) xs) (hc : LikeOf xs base w) (h8 : n ≤ 1000000) :
    Calls Tryz.prog 66 #[.slice (some ⟨g, 0, none⟩) n cap, .func (.func 68) #[] #[]] w
      (fun e w' => ∃ v, e = .returned v ∧ OwnX 48 3 InA.enc w' base v (compI xs) ∧ Below base w w') := by
  have HC := Lib.hid hc
  have HS := Lib.hid h
  have hbg := (World.ownsRow.lt h g rfl)
  have HBG := Lib.hid hbg
  have hcap : n ≤ cap ∧ cap ≤ maxLen := by
    rcases h.2 with ⟨hv, _⟩ | ⟨g1, c1, cur, hv, hb, hg, hn, hm, hcs, ht⟩
    · cases hv
    · simp only [Value.slice.injEq, Option.some.injEq, Addr.mk.injEq] at hv
      obtain ⟨_, _, rfl⟩ := hv
      exact ⟨by omega, hm⟩
  obtain ⟨hcap, h9⟩ := hcap
  unfold maxLen at h9
  clear hc h hbg
  go_enter Tryz.func66, Tryz.ntmps66
  by_cases hn2 : (n : Int) < 2
  · go_wp2_with fail
    go_ret
    refine ⟨_, rfl, ?_, Below.refl _ _⟩
    have e : compI xs = xs := by
      match xs, hn with
      | [], _ => rfl
      | [x], _ => rfl
      | x :: y :: r, h => simp at h; omega
    rw [e]
    exact HS.out
  go_wp2_with fail
  go_loopg [5] n (fun g1 v5 wr => ∃ k : Nat, v5 = .int .i64 (k : Int) ∧ 1 ≤ k ∧ k ≤ n ∧ k + g1 = n + 1 ∧ Hid (compI (xs.take k) = xs.take k) ∧ Hid (OwnX 48 3 InA.enc wr base (.slice (some ⟨g, 0, none⟩) n cap) xs) ∧ Hid (Below base w wr))
  case atStart => exact ⟨1, rfl, by omega, by omega, by omega, (by cases xs with | nil => rfl | cons x l => simp [compI, compG, Hid]), HS, Below.refl _ _⟩
  case round =>
    obtain ⟨k, rfl, h1k, hkn, hkg, HK, HO, HB⟩ := hrel
    by_cases hlt : k < n
    · obtain ⟨kp, rfl⟩ : ∃ kp, k = kp + 1 := ⟨k - 1, by omega⟩
      have hkz : (kp : Int) + 1 < (n : Int) := by omega
      have hkz1 : (kp : Int) < (n : Int) := by omega
      have hw1 : IntKind.i64.wrap ((kp : Int) + 1 - 1) = (kp : Int) := by rw [IntKind.wrap_i64]; omega
      have hw0 : IntKind.i64.wrap (kp : Int) = (kp : Int) := by rw [IntKind.wrap_i64]; omega
      have p0 : (0 : Int) ≤ (kp : Int) + 1 := by omega
      have e0 : ((kp : Int) + 1).toNat = kp + 1 := by omega
      have ho' : OwnX 48 3 InA.enc wr base (.slice (some ⟨g, 0, none⟩) n cap) xs.toArray.toList := HO.out
      obtain ⟨a0, a1, a2⟩ := cells_row (d := xs.toArray) (by simpa using hn) ho' (kp + 1) hlt
      obtain ⟨b0, b1, b2⟩ := cells_row (d := xs.toArray) (by simpa using hn) ho' kp (by omega)
      have ex : xs.toArray[kp + 1]! = xs[kp + 1] := by simp [show kp + 1 < xs.length by omega]
      have ep : xs.toArray[kp]! = xs[kp] := by simp [show kp < xs.length by omega]
      rw [ex] at a0 a1 a2
      rw [ep] at b0 b1 b2
      have HCM := Lib.hid (fun z => HC.out _ (HB.out.trans ((later_below wr z).mono (by have := HB.out.size; have := HBG.out; omega))) xs[kp + 1] (List.getElem_mem _) xs[kp] (List.getElem_mem _))
      obtain ⟨B, hB⟩ : ∃ B, eqB (likeI xs[kp + 1] xs[kp]) = B := ⟨_, rfl⟩
      rw [hB] at HCM
      unfold BoolB at HCM
      have HBB := Lib.hid hB
      have a0 := fun x => later_cell a0 x
      have a1 := fun x => later_cell a1 x
      have a2 := fun x => later_cell a2 x
      have b0 := fun x => later_cell b0 x
      have b1 := fun x => later_cell b1 x
      have b2 := fun x => later_cell b2 x
      clear hB ex ep ho'
      generalize xs[kp + 1] = X at a0 a1 a2 HCM
      generalize xs[kp] = Y at b0 b1 b2 HCM
      obtain ⟨s1, t1, e1, sa1, sc1, ta1, tc1, ea1, ec1⟩ := X
      obtain ⟨s2, t2, e2, sa2, sc2, ta2, tc2, ea2, ec2⟩ := Y
      simp only at a0 a1 a2 b0 b1 b2 HCM
      go_upto_region 6 with fail
      refine wp_region_later (by kernel_rfl) (by kernel_rfl) ?_
      repeat (go_big_quiet_step (first | (go_at_call 68; exact calls_later (HCM.out _))))
      refine wpQuiet_nil ?_
      rintro _ ⟨z, rfl⟩
      have HB3 : Hid (Below wr.heap.size wr (later wr z)) := later_below _ _
      clear a0 a1 a2 b0 b1 b2 HCM
      generalize later wr z = w5 at *
      cases B
      case false =>
        go_wp2_with fail
        go_roundg (gk - 1)
        case measure => omega
        case rel => exact ⟨kp + 2, by go_num, by omega, by omega, by omega, (by show _ = _; rw [compI_take xs kp (by omega) false HBB.out, HK.out]; exact (List.take_succ_eq_append_getElem (show kp + 1 < xs.length by omega)).symm), HO.out.call HB3.out, HB.out.trans (HB3.out.mono (by have := HB.out.size; have := HBG.out; omega))⟩
      case true =>
        go_wp2_with fail
        have HO5 : Hid (OwnX 48 3 InA.enc w5 base (.slice (some ⟨g, 0, none⟩) n cap) xs) := HO.out.call HB3.out
        have HB5 : Hid (Below base w w5) := HB.out.trans (HB3.out.mono (by have := HB.out.size; have := HBG.out; omega))
        have HI5 : Hid (CmpInv xs (kp + 1 + 1) (kp + 1) xs.toArray) := ⟨by simp, by omega, (by rw [show kp + 1 + 1 = kp + 2 from rfl, compI_take xs kp (by omega) true HBB.out, HK.out]; simp), fun i hi _ => by simp [hi]⟩
        clear HB3 HB HO HK HBB
        go_loopg [5, 7] n (fun gg s5 s7 wr2 => ∃ (kk m : Nat) (dj : Array InA), s5 = .int .i64 (kk : Int) ∧ s7 = .int .i64 ((m : Int) + 1) ∧ kp + 2 + m ≤ n ∧ n ≤ kp + 2 + m + gg ∧ kk < kp + 2 + m ∧ Hid (CmpInv xs (kp + 1 + m + 1) kk dj) ∧ Hid (OwnX 48 3 InA.enc wr2 base (.slice (some ⟨g, 0, none⟩) n cap) dj.toList) ∧ Hid (Below base w wr2))
        case atStart => exact ⟨kp + 1, 0, xs.toArray, by go_num, by go_num, by omega, by omega, by omega, HI5, HO5, HB5⟩
        case round =>
          obtain ⟨kk, m, dj, rfl, rfl, hm1, hm2, hm3, HI, HO, HB⟩ := hrel
          by_cases hlt2 : kp + 2 + m < n
          · have hsj : dj.size = n := HI.out.1.trans hn
            have hkn2 : kk < n := by omega
            have hz1 : (m : Int) + 1 < ((n - (kp + 1) : Nat) : Int) := by omega
            have hz2 : (m : Int) < ((n - (kp + 1) : Nat) : Int) := by omega
            have hz3 : (0 : Int) ≤ (m : Int) + 1 := by omega
            have hz4 : (kk : Int) < (n : Int) := by omega
            have hwm : IntKind.i64.wrap ((m : Int) + 1 - 1) = (m : Int) := by rw [IntKind.wrap_i64]; omega
            have hwm0 : IntKind.i64.wrap (m : Int) = (m : Int) := by rw [IntKind.wrap_i64]; omega
            have em : ((m : Int) + 1).toNat = m + 1 := by omega
            obtain ⟨a0, a1, a2⟩ := cells_row hsj HO.out (kp + 1 + m + 1) (by omega)
            obtain ⟨b0, b1, b2⟩ := cells_row hsj HO.out (kp + 1 + m) (by omega)
            rw [HI.out.2.2.2 (kp + 1 + m + 1) (by omega) (by omega)] at a0 a1 a2
            rw [HI.out.2.2.2 (kp + 1 + m) (by omega) (by omega)] at b0 b1 b2
            rw [show (kp + 1 + m + 1) * 3 = (kp + 1) * 3 + (m + 1) * 3 by omega] at a0 a1 a2
            rw [show (kp + 1 + m) * 3 = (kp + 1) * 3 + m * 3 by omega] at b0 b1 b2
            have HCM := Lib.hid (fun z => HC.out _ (HB.out.trans ((later_below wr z).mono (by have := HB.out.size; have := HBG.out; omega))) xs[kp + 1 + m + 1] (List.getElem_mem _) xs[kp + 1 + m] (List.getElem_mem _))
            obtain ⟨B, hB⟩ : ∃ B, eqB (likeI xs[kp + 1 + m + 1] xs[kp + 1 + m]) = B := ⟨_, rfl⟩
            rw [hB] at HCM
            unfold BoolB at HCM
            have HBB := Lib.hid hB
            obtain ⟨X, hX⟩ : ∃ X, xs[kp + 1 + m + 1] = X := ⟨_, rfl⟩
            have HXX := Lib.hid hX
            rw [hX] at a0 a1 a2 HCM
            generalize xs[kp + 1 + m] = Y at b0 b1 b2 HCM
            have a0 := fun x => later_cell a0 x
            have a1 := fun x => later_cell a1 x
            have a2 := fun x => later_cell a2 x
            have b0 := fun x => later_cell b0 x
            have b1 := fun x => later_cell b1 x
            have b2 := fun x => later_cell b2 x
            clear hB hX
            obtain ⟨s1, t1, e1, sa1, sc1, ta1, tc1, ea1, ec1⟩ := X
            obtain ⟨s2, t2, e2, sa2, sc2, ta2, tc2, ea2, ec2⟩ := Y
            simp only at a0 a1 a2 b0 b1 b2 HCM
            go_upto_region 11 with fail
            refine wp_region_later (by kernel_rfl) (by kernel_rfl) ?_
            repeat (go_big_quiet_step (first | (go_at_call 68; exact calls_later (HCM.out _))))
            refine wpQuiet_nil ?_
            rintro _ ⟨z, rfl⟩
            have HB3 : Hid (Below wr.heap.size wr (later wr z)) := later_below _ _
            have a0 := a0 z
            have a1 := a1 z
            have a2 := a2 z
            clear b0 b1 b2 HCM
            generalize later wr z = w6 at *
            cases B
            case true =>
              go_wp2_with fail
              go_roundg (gk - 1)
              case measure => omega
              case rel => exact ⟨kk, m + 1, dj, rfl, by go_num, by omega, by omega, by omega, HI.out.skip (by omega) HBB.out, HO.out.call HB3.out, HB.out.trans (HB3.out.mono (by have := HB.out.size; have := HBG.out; omega))⟩
            case false =>
              have ho6 : OwnX 48 3 InA.enc w6 base (.slice (some ⟨g, 0, none⟩) n cap) dj.toList := HO.out.call HB3.out
              obtain ⟨c0, c1, c2⟩ := cells_row hsj ho6 kk hkn2
              have f0 := ho6.unfrozen (kk * 3)
              have f1 := ho6.unfrozen (kk * 3 + 1)
              have f2 := ho6.unfrozen (kk * 3 + 2)
              have HP := OwnX.put InA.enc_len (by omega) hsj ho6 kk hkn2 ⟨s1, t1, e1, sa1, sc1, ta1, tc1, ea1, ec1⟩
              simp only [InA.enc, set3_cells] at HP
              have HP := Lib.hid HP
              clear ho6
              go_wp2_with fail
              go_roundg (gk - 1)
              case measure => omega
              case rel => exact ⟨kk + 1, m + 1, dj.setIfInBounds kk ⟨s1, t1, e1, sa1, sc1, ta1, tc1, ea1, ec1⟩, by go_num, by go_num, by omega, by omega, by omega, (by have := HI.out.keep (by omega) HBB.out; rw [HXX.out] at this; exact this), HP.out.1, HB.out.trans ((HB3.out.mono (by have := HB.out.size; have := HBG.out; omega)).trans HP.out.2)⟩
          · have hnn : n = kp + 2 + m := by omega
            have hsj : dj.size = n := HI.out.1.trans hn
            have hkn2 : kk < n := by omega
            have hz1 : ¬ (m : Int) + 1 < ((n - (kp + 1) : Nat) : Int) := by omega
            have hz4 : (kk : Int) ≤ (n : Int) := by omega
            have hz5 : (kk : Int) ≤ (cap : Int) := by omega
            have hz6 : (0 : Int) ≤ (kk : Int) := by omega
            have hcl : ∀ ty, (Builtin.clear_ #[28] ty #[.slice (some ⟨g, kk * 3, none⟩) (n - kk) (cap - kk)]).run Tryz.prog wr = .ok (.tuple #[]) (wr.setCells g (kk * 3) (List.replicate ((n - kk) * 3) (.slice none 0 0))) := fun ty =>
              run_clear_k wr 28 48 ty (.agg #[.slice none 0 0, .slice none 0 0, .slice none 0 0]) (.slice none 0 0) 3 (by omega) Tryz.underlying28 Tryz.zeroValue48 rfl rfl g (kk * 3) (n - kk) (cap - kk) (by omega)
                (fun j hj => by
                  have hq := Nat.div_add_mod j 3
                  have hm := Nat.mod_lt j (show 0 < 3 by omega)
                  obtain ⟨x0, x1, x2⟩ := cells_row hsj HO.out (kk + j / 3) (by omega)
                  have h3 : j % 3 = 0 ∨ j % 3 = 1 ∨ j % 3 = 2 := by omega
                  rcases h3 with h3 | h3 | h3
                  · rw [show kk * 3 + j = (kk + j / 3) * 3 by omega, x0]; rfl
                  · rw [show kk * 3 + j = (kk + j / 3) * 3 + 1 by omega, x1]; rfl
                  · rw [show kk * 3 + j = (kk + j / 3) * 3 + 2 by omega, x2]; rfl)
                (fun j hj => HO.out.unfrozen _)
            have HNN := Lib.hid hnn
            clear hnn
            have HCUT := Lib.hid (OwnX.cut InA.enc_len hsj HO.out (show kk ≤ n by omega) (.slice none 0 0))
            go_wp2_with fail
            go_ret
            refine ⟨_, rfl, ?_, HB.out.trans HCUT.out.2⟩
            have e := HI.out.2.2.1
            rw [show kp + 1 + m + 1 = xs.length by have := HNN.out; omega, List.take_length] at e
            rw [← e]
            exact HCUT.out.1
    · obtain rfl : k = n := by omega
      go_wp2_with fail
      go_ret
      refine ⟨_, rfl, ?_, HB.out⟩
      have e := HK.out
      rw [← hn, List.take_length] at e
      rw [e]
      exact HO.out
end Go.Proofs.YtkgnapojkijbgaaGreatDoor
/- The contract of config.Normal. -/
namespace Go.Proofs.YtkgnapojkijbgaaGreatDoor
open Go.RowKit Go.Lib Go.Sort

theorem results_cell_tmpC {P : Program} {fn : Func} {p u : Tmp} {ty : TypeId} (h : fn.results = #[.cell p ty, .tmp u]) (tmps : Array Value) (w : World) (g : Nat) (t : TypeId) (cs : Array Value) (fr : Nat × Nat) (d : TypeDesc)
    (hp : tmps.getD p undef = .pointer (some ⟨g, 0, none⟩)) (hg : w.heap[g]? = some (.cells cs t fr))
    (hu : P.underlying ty = some d) (hd : (match d with | .struct _ | .array _ _ => true | _ => false) = true) (hi : (P.info? ty).map (·.size) = some cs.size) :
    (results fn tmps).run P w = .ok (.tuple #[.agg cs, tmps.getD u undef]) w := by
  have hp' : tmps[p]?.getD undef = .pointer (some ⟨g, 0, none⟩) := by simpa using hp
  simp [results, h, hp', asAddr, run_loadVar_row w g t ty cs fr d hg hu hd hi]
theorem OwnX.same {A : Type} {enc : A → List Value} {k : Nat} {T : TypeId} {w w1 : World} {base : Nat} {v : Value} {xs : List A} (h : OwnX T k enc w base v xs) (hq : ∀ q, base ≤ q → w1.heap[q]? = w.heap[q]?) : OwnX T k enc w1 base v xs := by
  obtain ⟨ha, hr⟩ := h
  refine ⟨ha, hr.imp id ?_⟩
  rintro ⟨g, cap, cur, e1, e2, e3, e4⟩
  exact ⟨g, cap, cur, e1, e2, (hq g e2).trans e3, e4⟩
theorem OwnS.same {T : TypeId} {w w1 : World} {base : Nat} {v : Value} {ss : List ByteArray} (h : OwnS T w base v ss) (hq : ∀ q, base ≤ q → w1.heap[q]? = w.heap[q]?) : OwnS T w1 base v ss := by
  obtain ⟨ha, hr⟩ := h
  refine ⟨ha, hr.imp id ?_⟩
  rintro ⟨g, cap, cur, e1, e2, e3, e4⟩
  exact ⟨g, cap, cur, e1, e2, (hq g e2).trans e3, e4⟩
theorem OwnX.sameL {A : Type} {enc : A → List Value} {k : Nat} {T : TypeId} {w w1 : World} {base : Nat} {v : Value} {xs : List A} (h : OwnX T k enc w base v xs) (hq : ∀ q, base ≤ q → q < w.heap.size → w1.heap[q]? = w.heap[q]?) : OwnX T k enc w1 base v xs := by
  obtain ⟨ha, hr⟩ := h
  refine ⟨ha, hr.imp id ?_⟩
  rintro ⟨g, cap, cur, e1, e2, e3, e4⟩
  exact ⟨g, cap, cur, e1, e2, (hq g e2 (lt_of_block e3)).trans e3, e4⟩
theorem OwnS.sameL {T : TypeId} {w w1 : World} {base : Nat} {v : Value} {ss : List ByteArray} (h : OwnS T w base v ss) (hq : ∀ q, base ≤ q → q < w.heap.size → w1.heap[q]? = w.heap[q]?) : OwnS T w1 base v ss := by
  obtain ⟨ha, hr⟩ := h
  refine ⟨ha, hr.imp id ?_⟩
  rintro ⟨g, cap, cur, e1, e2, e3, e4⟩
  exact ⟨g, cap, cur, e1, e2, (hq g e2 (lt_of_block e3)).trans e3, e4⟩
/-- W keeps what lay ahead of B0, and what a call from w to w1 has made -/
def Keep (B0 : Nat) (w w1 W : World) : Prop := Below B0 w W ∧ w1.heap.size ≤ W.heap.size ∧ ∀ q, w.heap.size ≤ q → q < w1.heap.size → W.heap[q]? = w1.heap[q]?
theorem Keep.refl {B0 : Nat} {w w1 : World} (hB : B0 ≤ w.heap.size) (h : Below w.heap.size w w1) : Keep B0 w w1 w1 := ⟨h.mono hB, Nat.le_refl _, fun _ _ _ => rfl⟩
theorem OwnX.shape {A : Type} {enc : A → List Value} {k : Nat} {T : TypeId} {w : World} {base : Nat} {v : Value} {xs : List A} (h : OwnX T k enc w base v xs) : ∃ a c, v = .slice a xs.length c := by
  rcases h.2 with ⟨rfl, h0⟩ | ⟨g, cap, cur, rfl, _⟩
  · exact ⟨none, 0, by rw [h0]⟩
  · exact ⟨_, _, rfl⟩
theorem OwnS.shape {T : TypeId} {w : World} {base : Nat} {v : Value} {ss : List ByteArray} (h : OwnS T w base v ss) : ∃ a c, v = .slice a ss.length c := by
  rcases h.2 with ⟨rfl, h0⟩ | ⟨g, cap, cur, rfl, _⟩
  · exact ⟨none, 0, by rw [h0]⟩
  · exact ⟨_, _, rfl⟩
theorem heap_set1 (w : World) (g i : Nat) (u : Value) (b : Nat) (hg : g < b) : ∀ q, b ≤ q → (w.setCell ⟨g, i, none⟩ u).heap[q]? = w.heap[q]? := fun q hq => Below.heap_setCell w ⟨g, i, none⟩ u q (by show q ≠ g; omega)
/-- a configuration stored whole -/
theorem st13 {w : World} {g : Nat} {t : TypeId} {x0 x1 x2 x3 x4 x5 x6 x7 x8 x9 x10 x11 x12 : Value} (h : Blk w g t #[x0, x1, x2, x3, x4, x5, x6, x7, x8, x9, x10, x11, x12]) (v0 v1 v2 v3 v4 v5 v6 v7 v8 v9 v10 v11 v12 : Value) (W : World) (hW : W = ((((((((((((w.setCell ⟨g, 0, none⟩ v0).setCell ⟨g, 1, none⟩ v1).setCell ⟨g, 2, none⟩ v2).setCell ⟨g, 3, none⟩ v3).setCell ⟨g, 4, none⟩ v4).setCell ⟨g, 5, none⟩ v5).setCell ⟨g, 6, none⟩ v6).setCell ⟨g, 7, none⟩ v7).setCell ⟨g, 8, none⟩ v8).setCell ⟨g, 9, none⟩ v9).setCell ⟨g, 10, none⟩ v10).setCell ⟨g, 11, none⟩ v11).setCell ⟨g, 12, none⟩ v12) :
    Blk W g t #[v0, v1, v2, v3, v4, v5, v6, v7, v8, v9, v10, v11, v12] ∧ (∀ q, q ≠ g → W.heap[q]? = w.heap[q]?) ∧ (∀ B, B ≤ g → ∀ w0, Below B w0 w → Below B w0 W) := by
  subst hW
  have h : Blk _ g t #[v0, x1, x2, x3, x4, x5, x6, x7, x8, x9, x10, x11, x12] := h.set 0 v0
  have h : Blk _ g t #[v0, v1, x2, x3, x4, x5, x6, x7, x8, x9, x10, x11, x12] := h.set 1 v1
  have h : Blk _ g t #[v0, v1, v2, x3, x4, x5, x6, x7, x8, x9, x10, x11, x12] := h.set 2 v2
  have h : Blk _ g t #[v0, v1, v2, v3, x4, x5, x6, x7, x8, x9, x10, x11, x12] := h.set 3 v3
  have h : Blk _ g t #[v0, v1, v2, v3, v4, x5, x6, x7, x8, x9, x10, x11, x12] := h.set 4 v4
  have h : Blk _ g t #[v0, v1, v2, v3, v4, v5, x6, x7, x8, x9, x10, x11, x12] := h.set 5 v5
  have h : Blk _ g t #[v0, v1, v2, v3, v4, v5, v6, x7, x8, x9, x10, x11, x12] := h.set 6 v6
  have h : Blk _ g t #[v0, v1, v2, v3, v4, v5, v6, v7, x8, x9, x10, x11, x12] := h.set 7 v7
  have h : Blk _ g t #[v0, v1, v2, v3, v4, v5, v6, v7, v8, x9, x10, x11, x12] := h.set 8 v8
  have h : Blk _ g t #[v0, v1, v2, v3, v4, v5, v6, v7, v8, v9, x10, x11, x12] := h.set 9 v9
  have h : Blk _ g t #[v0, v1, v2, v3, v4, v5, v6, v7, v8, v9, v10, x11, x12] := h.set 10 v10
  have h : Blk _ g t #[v0, v1, v2, v3, v4, v5, v6, v7, v8, v9, v10, v11, x12] := h.set 11 v11
  have h : Blk _ g t #[v0, v1, v2, v3, v4, v5, v6, v7, v8, v9, v10, v11, v12] := h.set 12 v12
  refine ⟨h, fun q hq => ?_, fun B hB w0 hb => ?_⟩
  · iterate 13 (rw [Below.heap_setCell _ _ _ _ (by show q ≠ g; exact hq)])
  · iterate 13 (refine Below.setCell ?_ (by show B ≤ g; exact hB) _)
    exact hb
set_option maxHeartbeats 1600000 in
set_option maxRecDepth 100000 in
theorem cmpct0I_any (a : Option Addr) (cap : Nat) (fv : Value) (w : World) : Calls Tryz.prog 66 #[.slice a 0 cap, fv] w (fun e w' => e = .returned (.slice a 0 cap) ∧ w' = w) := by
  go_enter Tryz.func66, Tryz.ntmps66
  go_wp2_with fail
  go_ret
  exact ⟨rfl, rfl⟩
/-- slices.CompactFunc of a row of the call's own -/
theorem cmpctX_any (base : Nat) (v : Value) (ys : List InA) (w : World) (ho : OwnX 48 3 InA.enc w base v ys) (hc : LikeOf ys base w) (h8 : ys.length ≤ 1000000) :
    Calls Tryz.prog 66 #[v, .func (.func 68) #[] #[]] w (fun e w' => ∃ v2, e = .returned v2 ∧ OwnX 48 3 InA.enc w' base v2 (compI ys) ∧ Below base w w') := by
  rcases ho.2 with ⟨rfl, h0⟩ | ⟨g, cap, cur, rfl, _, _, _, _, _, _⟩
  · obtain rfl : ys = [] := List.eq_nil_of_length_eq_zero h0
    exact (cmpct0I_any none 0 _ w).mono fun e w' ⟨he, hw⟩ => ⟨_, he, by rw [hw]; exact ho, by rw [hw]; exact Below.refl _ _⟩
  · exact cmpctI_any base g cap ys.length ys w rfl ho hc h8
theorem compG_mem (l : List InA) (p x : InA) (h : x ∈ compG p l) : x ∈ l := by
  induction l generalizing p with
  | nil => simp [compG] at h
  | cons y l ih =>
    simp only [compG] at h
    split at h
    · exact List.mem_cons_of_mem _ (ih y h)
    · rcases List.mem_cons.1 h with rfl | h
      · exact List.mem_cons_self
      · exact List.mem_cons_of_mem _ (ih y h)
theorem compI_mem {l : List InA} {x : InA} (h : x ∈ compI l) : x ∈ l := by
  cases l with
  | nil => simp [compI] at h
  | cons y l =>
    rcases List.mem_cons.1 h with rfl | h
    · exact List.mem_cons_self
    · exact List.mem_cons_of_mem _ (compG_mem l y x h)
/-- k2 is the normal form of k -/
def NormOf (k k2 : CfA) : Prop := k2.rt = k.rt ∧ SortedN RuA.name k.ru k2.ru ∧ k2.re = sortS k.re ∧ (∃ ys, SortedN inhT k.ih ys ∧ k2.ih = compI ys) ∧ SortedN HrA.n k.hr k2.hr
abbrev zCfg : Array Value := #[.slice none 0 0, .string ⟨#[]⟩, .slice none 0 0, .slice none 0 0, .int .i64 0, .int .i64 0, .int .i64 0, .slice none 0 0, .bool false, .slice none 0 0, .slice none 0 0, .slice none 0 0, .slice none 0 0]
def NormP (B0 : Nat) (k : CfA) (w : World) (e : Ending) (w' : World) : Prop :=
  Below w.heap.size w w' ∧ ((cfgC k = true ∧ ∃ k2 : CfA, e = .returned (.tuple #[.agg (kCells k2), .int .i64 0]) ∧ (∀ W, Keep B0 w w' W → k2.ok W) ∧ NormOf k k2) ∨ (cfgC k = false ∧ e = .returned (.tuple #[.agg zCfg, .int .i64 1])))
theorem cfgC_len {k : CfA} (h : cfgC k = true) : k.ru.length ≤ 16 ∧ k.re.length ≤ 16 ∧ k.ih.length ≤ 8 ∧ k.hr.length ≤ 8 ∧ ∀ x ∈ k.ih, x.s.length ≤ 1000000 ∧ x.t.length ≤ 1000000 := by
  simp only [cfgC, Bool.and_eq_true, decide_eq_true_eq] at h
  refine ⟨h.1.1, h.2.2.1.1, h.2.2.2.2.1.1, h.2.2.2.2.2.1.1, fun x hx => ?_⟩
  have hg := List.all_eq_true.1 h.2.2.2.2.1.2 x hx
  simp only [InA.good, sideC, matchC, Bool.and_eq_true, decide_eq_true_eq] at hg
  omega
set_option maxHeartbeats 12800000 in
set_option maxRecDepth 100000 in
theorem cfgNormal_any (k : CfA) (w : World) (B0 : Nat) (hB0 : B0 ≤ w.heap.size) (h0 : ∀ W, Below B0 w W → k.ok W) : Calls Tryz.prog 22 #[.agg (kCells k)] w (NormP B0 k w) := by
  have h := h0 w (Below.refl _ _)
  obtain ⟨Q, hQ⟩ : ∃ Q, Q = NormP B0 k w := ⟨_, rfl⟩
  have HQ := Lib.hid hQ
  rw [← hQ]
  have hb1 := (Below.refl w.heap.size w).alloc (Nat.le_refl _) (.cells (kCells k) 31)
  have hb2 := balR (o := .cells zCfg 31) hb1
  have hA := (Blk.new w 31 (kCells k)).alloc (.cells zCfg 31)
  have hZ := nbR w (.cells (kCells k) 31) zCfg 31
  have HR := Lib.hid (fun W (hW : Below w.heap.size w W) => cfgRight_any k W (h.call hW))
  have H1 := Lib.hid (fun (hl : k.ru.length ≤ 16) W (hW : Below w.heap.size w W) => srtR_any k.ua k.uc k.ru W (h.1.keep hW) (by omega))
  have H2 := Lib.hid (fun (hl : k.re.length ≤ 16) W (hW : Below w.heap.size w W) => srtS_any k.ra k.rc k.re W (h.2.2.1.call hW) (by omega))
  have H3 := Lib.hid (fun (hl : k.ih.length ≤ 8) (hs : ∀ x ∈ k.ih, x.s.length ≤ 1000000 ∧ x.t.length ≤ 1000000) W (hW : Below w.heap.size w W) => srtI_any k.ia k.ic k.ih W (h.2.2.2.1.keep hW) (by omega) hs)
  have H4 := Lib.hid (fun (hl : k.hr.length ≤ 8) W (hW : Below w.heap.size w W) => srtH_any k.ha k.hc k.hr W (h.2.2.2.2.keep hW) (by omega))
  have HLK := Lib.hid (fun (ys : List InA) (hy : ∀ x ∈ ys, x ∈ k.ih) base W (hbs : w.heap.size ≤ base) (hW : Below w.heap.size w W) => show LikeOf ys base W from fun V hV x hx y hyy => likeInh_any x y V ((h.2.2.2.1.2.2.1 x (hy x hx)).call (hW.trans (hV.mono hbs))) ((h.2.2.2.1.2.2.1 y (hy y hyy)).call (hW.trans (hV.mono hbs))))
  have HK := Lib.hid h0
  have HL := Lib.hid (fun e => cfgC_len (k := k) e)
  have HB := Lib.hid hb2
  obtain ⟨B, hB⟩ : ∃ B, cfgC k = B := ⟨_, rfl⟩
  have HBB := Lib.hid hB
  rw [hB] at HR HL
  have HB0 := Lib.hid hB0
  clear hb1 hb2 h hQ hB h0 hB0
  obtain ⟨ru, ua, uc, ⟨n, ma, mc, ba, bc, ma2, mc2, ka, kc⟩, re, ra, rc, ih, ia, ic, hr, ha, hc⟩ := k
  simp only [kCells] at *
  go_enter Tryz.func22, Tryz.ntmps22
  go_upto_region 1 with fail
  generalize (w.alloc (.cells #[.slice ua ru.length uc, .string n.recv, .slice ma n.ms.length mc, .slice ba n.bys.length bc, .int .i64 n.wait, .int .i64 n.every, .int .i64 n.rep, .slice ma2 n.mute.length mc2, .bool n.on, .slice ka n.kids.length kc, .slice ra re.length rc, .slice ia ih.length ic, .slice ha hr.length hc] 31)).alloc (.cells zCfg 31) = wx at *
  obtain ⟨g, hg⟩ : ∃ g, w.heap.size = g := ⟨_, rfl⟩
  have HG : Hid (w.heap.size ≤ g) := by show _ ≤ _; omega
  rw [hg] at hA hZ ⊢
  clear hg
  have HA := Lib.hid hA
  have HZ := Lib.hid hZ
  obtain ⟨c0, c1, c2, c3, c4, c5, c6, c7, c8, c9, c10, c11, c12⟩ := hA.cells13
  clear hA hZ
  cases B
  case false =>
    go_wp2_with (go_at_call 17; refine (HR.out _ HB.out).mono ?_; rintro e w2 ⟨rfl, hb2⟩; obtain ⟨d0, d1, d2, d3, d4, d5, d6, d7, d8, d9, d10, d11, d12⟩ := (HZ.out.call hb2).cells13; have f0 := (HZ.out.call hb2).frozen 0; have f1 := (HZ.out.call hb2).frozen 1; have f2 := (HZ.out.call hb2).frozen 2; have f3 := (HZ.out.call hb2).frozen 3; have f4 := (HZ.out.call hb2).frozen 4; have f5 := (HZ.out.call hb2).frozen 5; have f6 := (HZ.out.call hb2).frozen 6; have f7 := (HZ.out.call hb2).frozen 7; have f8 := (HZ.out.call hb2).frozen 8; have f9 := (HZ.out.call hb2).frozen 9; have f10 := (HZ.out.call hb2).frozen 10; have f11 := (HZ.out.call hb2).frozen 11; have f12 := (HZ.out.call hb2).frozen 12)
    obtain ⟨s1, s2, s3⟩ := st13 (HZ.out.call hb2) (.slice none 0 0) (.string ⟨#[]⟩) (.slice none 0 0) (.slice none 0 0) (.int .i64 0) (.int .i64 0) (.int .i64 0) (.slice none 0 0) (.bool false) (.slice none 0 0) (.slice none 0 0) (.slice none 0 0) (.slice none 0 0) _ rfl
    have hbe := s3 w.heap.size (by have := HG.out; omega) w (bthen HB.out hb2)
    refine bodyPost_ret (v := .tuple #[.agg zCfg, .int .i64 1]) ?_ rfl ?_
    · refine (results_cell_tmpC rfl _ _ (g + 1) _ zCfg _ _ ?_ s1 Tryz.underlying31 rfl (by kernel_rfl)).trans ?_
      · rfl
      · rfl
    · rw [HQ.out]
      exact ⟨hbe, .inr ⟨HBB.out, rfl⟩⟩
  obtain ⟨l1, l2, l3, l4, l5⟩ := HL.out rfl
  go_upto_region 3 with (go_at_call 17; refine (HR.out _ HB.out).mono ?_; rintro e w2 ⟨rfl, hb2⟩)
  have HB2 := Lib.hid (bthen HB.out hb2)
  have hA := HA.out.call hb2
  have hZ := HZ.out.call hb2
  clear c0 c1 c2 c3 c4 c5 c6 c7 c8 c9 c10 c11 c12 hb2 HA HZ HB HR
  have HWZ : Hid (w.heap.size ≤ w2.heap.size) := HB2.out.size
  have HA1 := Lib.hid hA
  have HZ1 := Lib.hid hZ
  obtain ⟨b1, hbase1⟩ : ∃ b, w2.heap.size = b := ⟨_, rfl⟩
  have hgb1 : g < b1 := by have := hA.lt; omega
  have hgc1 : g + 1 < b1 := by have := hZ.lt; omega
  have HGB1 := Lib.hid (And.intro hgb1 hgc1)
  have HBS1 := Lib.hid hbase1
  obtain ⟨c0, c1, c2, c3, c4, c5, c6, c7, c8, c9, c10, c11, c12⟩ := hA.cells13
  clear hA hZ hbase1 hgb1 hgc1
  go_upto_region 4 with (go_at_call 63; refine (H1.out l1 _ HB2.out).mono ?_; rintro e wn ⟨v, y1, rfl, hl1, hs1, hon, hbn⟩; have HS1 := Lib.hid (And.intro hl1 hs1); clear hl1 hs1; obtain ⟨va1, vc1, rfl⟩ := hon.shape; have f0 := (HA1.out.call hbn).frozen 0; obtain ⟨d0, d1, d2, d3, d4, d5, d6, d7, d8, d9, d10, d11, d12⟩ := (HA1.out.call hbn).cells13)
  have hA : Blk _ g 31 #[(.slice va1 y1.length vc1), .string n.recv, .slice ma n.ms.length mc, .slice ba n.bys.length bc, .int .i64 n.wait, .int .i64 n.every, .int .i64 n.rep, .slice ma2 n.mute.length mc2, .bool n.on, .slice ka n.kids.length kc, .slice ra re.length rc, .slice ia ih.length ic, .slice ha hr.length hc] := (HA1.out.call hbn).set 0 (.slice va1 y1.length vc1)
  have hZ := (HZ1.out.call hbn).setO ⟨g, 0, none⟩ (.slice va1 y1.length vc1) (show g + 1 ≠ g by omega)
  have HB3 := Lib.hid ((bthen HB2.out hbn).setCell (p := ⟨g, 0, none⟩) HG.out (.slice va1 y1.length vc1))
  have HO1 := Lib.hid (hon.same (heap_set1 _ g 0 (.slice va1 y1.length vc1) _ (show g < w2.heap.size by rw [HBS1.out]; exact HGB1.out.1)))
  rw [HBS1.out] at HO1
  clear hon hbn c0 d0 c1 d1 c2 d2 c3 d3 c4 d4 c5 d5 c6 d6 c7 d7 c8 d8 c9 d9 c10 d10 c11 d11 c12 d12 f0
  generalize wn.setCell ⟨g, 0, none⟩ (.slice va1 y1.length vc1) = wx1 at *
  have HA2 := Lib.hid hA
  have HZ2 := Lib.hid hZ
  obtain ⟨b2, hbase2⟩ : ∃ b, wx1.heap.size = b := ⟨_, rfl⟩
  have hgb2 : g < b2 := by have := hA.lt; omega
  have hgc2 : g + 1 < b2 := by have := hZ.lt; omega
  have HGB2 := Lib.hid (And.intro hgb2 hgc2)
  have HBS2 := Lib.hid hbase2
  obtain ⟨c0, c1, c2, c3, c4, c5, c6, c7, c8, c9, c10, c11, c12⟩ := hA.cells13
  clear hA hZ hbase2 hgb2 hgc2
  go_upto_region 5 with (go_at_call 64; refine (H2.out l2 _ HB3.out).mono ?_; rintro e wn ⟨v, rfl, hon, hbn⟩; obtain ⟨y2, hy2⟩ : ∃ y, sortS re = y := ⟨_, rfl⟩; rw [hy2] at hon; have HS2 := Lib.hid hy2; clear hy2; obtain ⟨va2, vc2, rfl⟩ := hon.shape; have f0 := (HA2.out.call hbn).frozen 10; obtain ⟨d0, d1, d2, d3, d4, d5, d6, d7, d8, d9, d10, d11, d12⟩ := (HA2.out.call hbn).cells13)
  have hA : Blk _ g 31 #[(.slice va1 y1.length vc1), .string n.recv, .slice ma n.ms.length mc, .slice ba n.bys.length bc, .int .i64 n.wait, .int .i64 n.every, .int .i64 n.rep, .slice ma2 n.mute.length mc2, .bool n.on, .slice ka n.kids.length kc, (.slice va2 y2.length vc2), .slice ia ih.length ic, .slice ha hr.length hc] := (HA2.out.call hbn).set 10 (.slice va2 y2.length vc2)
  have hZ := (HZ2.out.call hbn).setO ⟨g, 10, none⟩ (.slice va2 y2.length vc2) (show g + 1 ≠ g by omega)
  have HB4 := Lib.hid ((bthen HB3.out hbn).setCell (p := ⟨g, 10, none⟩) HG.out (.slice va2 y2.length vc2))
  have HO1 := Lib.hid ((HO1.out.call hbn).same (heap_set1 _ g 10 (.slice va2 y2.length vc2) _ HGB1.out.1))
  have HO2 := Lib.hid (hon.same (heap_set1 _ g 10 (.slice va2 y2.length vc2) _ (show g < wx1.heap.size by rw [HBS2.out]; exact HGB2.out.1)))
  rw [HBS2.out] at HO2
  clear hon hbn c0 d0 c1 d1 c2 d2 c3 d3 c4 d4 c5 d5 c6 d6 c7 d7 c8 d8 c9 d9 c10 d10 c11 d11 c12 d12 f0
  generalize wn.setCell ⟨g, 10, none⟩ (.slice va2 y2.length vc2) = wx2 at *
  have HA3 := Lib.hid hA
  have HZ3 := Lib.hid hZ
  obtain ⟨b3, hbase3⟩ : ∃ b, wx2.heap.size = b := ⟨_, rfl⟩
  have hgb3 : g < b3 := by have := hA.lt; omega
  have hgc3 : g + 1 < b3 := by have := hZ.lt; omega
  have HGB3 := Lib.hid (And.intro hgb3 hgc3)
  have HBS3 := Lib.hid hbase3
  obtain ⟨c0, c1, c2, c3, c4, c5, c6, c7, c8, c9, c10, c11, c12⟩ := hA.cells13
  clear hA hZ hbase3 hgb3 hgc3
  go_upto_region 6 with (first | (go_at_call 67; refine (H3.out l3 l5 _ HB4.out).mono ?_; rintro e wn0 ⟨v, ys, rfl, hl3, hs3, hon0, hbn0⟩; have hl8 : ys.length ≤ 1000000 := (by omega); clear hl3) | (go_at_call 66; refine (cmpctX_any _ _ ys wn0 hon0 (HLK.out ys (fun x hx => hs3.1.mem_iff.1 hx) _ _ HB4.out.size (bthen HB4.out hbn0)) hl8).mono ?_; rintro e wn ⟨v2, rfl, hon, hbn1⟩; have hbn := hbn0.trans hbn1; obtain ⟨y3, hy3⟩ : ∃ y, compI ys = y := ⟨_, rfl⟩; rw [hy3] at hon; have HS3 := Lib.hid (And.intro hs3 hy3); clear hs3 hy3; obtain ⟨va3, vc3, rfl⟩ := hon.shape; have f0 := (HA3.out.call hbn).frozen 11; obtain ⟨d0, d1, d2, d3, d4, d5, d6, d7, d8, d9, d10, d11, d12⟩ := (HA3.out.call hbn).cells13))
  have hA : Blk _ g 31 #[(.slice va1 y1.length vc1), .string n.recv, .slice ma n.ms.length mc, .slice ba n.bys.length bc, .int .i64 n.wait, .int .i64 n.every, .int .i64 n.rep, .slice ma2 n.mute.length mc2, .bool n.on, .slice ka n.kids.length kc, (.slice va2 y2.length vc2), (.slice va3 y3.length vc3), .slice ha hr.length hc] := (HA3.out.call hbn).set 11 (.slice va3 y3.length vc3)
  have hZ := (HZ3.out.call hbn).setO ⟨g, 11, none⟩ (.slice va3 y3.length vc3) (show g + 1 ≠ g by omega)
  have HB5 := Lib.hid ((bthen HB4.out hbn).setCell (p := ⟨g, 11, none⟩) HG.out (.slice va3 y3.length vc3))
  have HO1 := Lib.hid ((HO1.out.call hbn).same (heap_set1 _ g 11 (.slice va3 y3.length vc3) _ HGB1.out.1))
  have HO2 := Lib.hid ((HO2.out.call hbn).same (heap_set1 _ g 11 (.slice va3 y3.length vc3) _ HGB2.out.1))
  have HO3 := Lib.hid (hon.same (heap_set1 _ g 11 (.slice va3 y3.length vc3) _ (show g < wx2.heap.size by rw [HBS3.out]; exact HGB3.out.1)))
  rw [HBS3.out] at HO3
  clear hon hbn c0 d0 c1 d1 c2 d2 c3 d3 c4 d4 c5 d5 c6 d6 c7 d7 c8 d8 c9 d9 c10 d10 c11 d11 c12 d12 f0
  generalize wn.setCell ⟨g, 11, none⟩ (.slice va3 y3.length vc3) = wx3 at *
  clear hl8 hon0 hbn0 hbn1
  have HA4 := Lib.hid hA
  have HZ4 := Lib.hid hZ
  obtain ⟨b4, hbase4⟩ : ∃ b, wx3.heap.size = b := ⟨_, rfl⟩
  have hgb4 : g < b4 := by have := hA.lt; omega
  have hgc4 : g + 1 < b4 := by have := hZ.lt; omega
  have HGB4 := Lib.hid (And.intro hgb4 hgc4)
  have HBS4 := Lib.hid hbase4
  obtain ⟨c0, c1, c2, c3, c4, c5, c6, c7, c8, c9, c10, c11, c12⟩ := hA.cells13
  clear hA hZ hbase4 hgb4 hgc4
  go_upto_region 7 with (go_at_call 69; refine (H4.out l4 _ HB5.out).mono ?_; rintro e wn ⟨v, y4, rfl, hl4, hs4, hon, hbn⟩; have HS4 := Lib.hid (And.intro hl4 hs4); clear hl4 hs4; obtain ⟨va4, vc4, rfl⟩ := hon.shape; have f0 := (HA4.out.call hbn).frozen 12; obtain ⟨d0, d1, d2, d3, d4, d5, d6, d7, d8, d9, d10, d11, d12⟩ := (HA4.out.call hbn).cells13)
  have hA : Blk _ g 31 #[(.slice va1 y1.length vc1), .string n.recv, .slice ma n.ms.length mc, .slice ba n.bys.length bc, .int .i64 n.wait, .int .i64 n.every, .int .i64 n.rep, .slice ma2 n.mute.length mc2, .bool n.on, .slice ka n.kids.length kc, (.slice va2 y2.length vc2), (.slice va3 y3.length vc3), (.slice va4 y4.length vc4)] := (HA4.out.call hbn).set 12 (.slice va4 y4.length vc4)
  have hZ := (HZ4.out.call hbn).setO ⟨g, 12, none⟩ (.slice va4 y4.length vc4) (show g + 1 ≠ g by omega)
  have HB6 := Lib.hid ((bthen HB5.out hbn).setCell (p := ⟨g, 12, none⟩) HG.out (.slice va4 y4.length vc4))
  have HO1 := Lib.hid ((HO1.out.call hbn).same (heap_set1 _ g 12 (.slice va4 y4.length vc4) _ HGB1.out.1))
  have HO2 := Lib.hid ((HO2.out.call hbn).same (heap_set1 _ g 12 (.slice va4 y4.length vc4) _ HGB2.out.1))
  have HO3 := Lib.hid ((HO3.out.call hbn).same (heap_set1 _ g 12 (.slice va4 y4.length vc4) _ HGB3.out.1))
  have HO4 := Lib.hid (hon.same (heap_set1 _ g 12 (.slice va4 y4.length vc4) _ (show g < wx3.heap.size by rw [HBS4.out]; exact HGB4.out.1)))
  rw [HBS4.out] at HO4
  clear hon hbn c0 d0 c1 d1 c2 d2 c3 d3 c4 d4 c5 d5 c6 d6 c7 d7 c8 d8 c9 d9 c10 d10 c11 d11 c12 d12 f0
  generalize wn.setCell ⟨g, 12, none⟩ (.slice va4 y4.length vc4) = wx4 at *
  have HA5 := Lib.hid hA
  have HZ5 := Lib.hid hZ
  obtain ⟨c0, c1, c2, c3, c4, c5, c6, c7, c8, c9, c10, c11, c12⟩ := hA.cells13
  obtain ⟨d0, d1, d2, d3, d4, d5, d6, d7, d8, d9, d10, d11, d12⟩ := hZ.cells13
  have f0 := hZ.frozen 0
  have f1 := hZ.frozen 1
  have f2 := hZ.frozen 2
  have f3 := hZ.frozen 3
  have f4 := hZ.frozen 4
  have f5 := hZ.frozen 5
  have f6 := hZ.frozen 6
  have f7 := hZ.frozen 7
  have f8 := hZ.frozen 8
  have f9 := hZ.frozen 9
  have f10 := hZ.frozen 10
  have f11 := hZ.frozen 11
  have f12 := hZ.frozen 12
  clear hA hZ
  go_wp2_with fail
  generalize hWF : (((((((((((((wx4.setCell ⟨g + 1, 0, none⟩ (.slice va1 y1.length vc1)).setCell ⟨g + 1, 1, none⟩ (.string n.recv)).setCell ⟨g + 1, 2, none⟩ (.slice ma n.ms.length mc)).setCell ⟨g + 1, 3, none⟩ (.slice ba n.bys.length bc)).setCell ⟨g + 1, 4, none⟩ (.int .i64 n.wait)).setCell ⟨g + 1, 5, none⟩ (.int .i64 n.every)).setCell ⟨g + 1, 6, none⟩ (.int .i64 n.rep)).setCell ⟨g + 1, 7, none⟩ (.slice ma2 n.mute.length mc2)).setCell ⟨g + 1, 8, none⟩ (.bool n.on)).setCell ⟨g + 1, 9, none⟩ (.slice ka n.kids.length kc)).setCell ⟨g + 1, 10, none⟩ (.slice va2 y2.length vc2)).setCell ⟨g + 1, 11, none⟩ (.slice va3 y3.length vc3)).setCell ⟨g + 1, 12, none⟩ (.slice va4 y4.length vc4)) = WF
  obtain ⟨s1, s2, s3⟩ := st13 HZ5.out (.slice va1 y1.length vc1) (.string n.recv) (.slice ma n.ms.length mc) (.slice ba n.bys.length bc) (.int .i64 n.wait) (.int .i64 n.every) (.int .i64 n.rep) (.slice ma2 n.mute.length mc2) (.bool n.on) (.slice ka n.kids.length kc) (.slice va2 y2.length vc2) (.slice va3 y3.length vc3) (.slice va4 y4.length vc4) WF hWF.symm
  clear hWF c0 d0 f0 c1 d1 f1 c2 d2 f2 c3 d3 f3 c4 d4 f4 c5 d5 f5 c6 d6 f6 c7 d7 f7 c8 d8 f8 c9 d9 f9 c10 d10 f10 c11 d11 f11 c12 d12 f12
  have hbe := s3 w.heap.size (by have := HG.out; omega) w HB6.out
  have hgs := s3 w.heap.size (by have := HG.out; omega) w HB6.out
  have hok : ∀ W, Keep B0 w WF W → (⟨y1, va1, vc1, ⟨n, ma, mc, ba, bc, ma2, mc2, ka, kc⟩, y2, va2, vc2, y3, va3, vc3, y4, va4, vc4⟩ : CfA).ok W := by
    intro W ⟨hw1, hw2, hw3⟩
    have hwb : w.heap.size ≤ b1 ∧ w.heap.size ≤ b2 ∧ w.heap.size ≤ b3 ∧ w.heap.size ≤ b4 := by
      have h1 := HGB1.out.1
      have h2 := HGB2.out.1
      have h3 := HGB3.out.1
      have h4 := HGB4.out.1
      have h5 := HG.out
      omega
    have o1 := (HO1.out.same (fun q hq => s2 q (by have := HGB1.out.2; omega))).sameL (fun q hq hz => hw3 q (by omega) hz)
    have o2 := (HO2.out.same (fun q hq => s2 q (by have := HGB2.out.2; omega))).sameL (fun q hq hz => hw3 q (by omega) hz)
    have o3 := (HO3.out.same (fun q hq => s2 q (by have := HGB3.out.2; omega))).sameL (fun q hq hz => hw3 q (by omega) hz)
    have o4 := (HO4.out.same (fun q hq => s2 q (by have := HGB4.out.2; omega))).sameL (fun q hq hz => hw3 q (by omega) hz)
    obtain ⟨k1, k2, k3, k4, k5⟩ := HK.out W hw1
    obtain ⟨_, _, e1, r1⟩ := o1.row (ok := RuA.ok) RuA.enc_len (fun x hx => k1.2.2.1 x (HS1.out.2.1.mem_iff.1 hx))
    obtain ⟨_, _, e2, r2⟩ := o2.strs (fun s hs => k3.2.2.1 s ((sortS_mem (by rw [HS2.out]; exact hs))))
    obtain ⟨_, _, e3, r3⟩ := o3.row (ok := InA.ok) InA.enc_len (fun x hx => k4.2.2.1 x (HS3.out.1.1.mem_iff.1 (compI_mem (by rw [HS3.out.2]; exact hx))))
    obtain ⟨_, _, e4, r4⟩ := o4.row (ok := HrA.ok) HrA.enc_len (fun x hx => k5.2.2.1 x (HS4.out.2.1.mem_iff.1 hx))
    simp only [Value.slice.injEq] at e1 e2 e3 e4
    obtain ⟨rfl, _, rfl⟩ := e1
    obtain ⟨rfl, _, rfl⟩ := e2
    obtain ⟨rfl, _, rfl⟩ := e3
    obtain ⟨rfl, _, rfl⟩ := e4
    exact ⟨r1, k2, r2, r3, r4⟩
  refine bodyPost_ret (v := .tuple #[.agg #[(.slice va1 y1.length vc1), .string n.recv, .slice ma n.ms.length mc, .slice ba n.bys.length bc, .int .i64 n.wait, .int .i64 n.every, .int .i64 n.rep, .slice ma2 n.mute.length mc2, .bool n.on, .slice ka n.kids.length kc, (.slice va2 y2.length vc2), (.slice va3 y3.length vc3), (.slice va4 y4.length vc4)], .int .i64 0]) ?_ rfl ?_
  · refine (results_cell_tmpC rfl _ _ (g + 1) _ #[(.slice va1 y1.length vc1), .string n.recv, .slice ma n.ms.length mc, .slice ba n.bys.length bc, .int .i64 n.wait, .int .i64 n.every, .int .i64 n.rep, .slice ma2 n.mute.length mc2, .bool n.on, .slice ka n.kids.length kc, (.slice va2 y2.length vc2), (.slice va3 y3.length vc3), (.slice va4 y4.length vc4)] _ _ ?_ s1 Tryz.underlying31 rfl (by kernel_rfl)).trans ?_
    · rfl
    · rfl
  · rw [HQ.out]
    exact ⟨hbe, .inl ⟨HBB.out, ⟨y1, va1, vc1, ⟨n, ma, mc, ba, bc, ma2, mc2, ka, kc⟩, y2, va2, vc2, y3, va3, vc3, y4, va4, vc4⟩, rfl, hok, rfl, HS1.out.2, HS2.out.symm, ⟨_, HS3.out.1, HS3.out.2.symm⟩, HS4.out.2⟩⟩
end Go.Proofs.YtkgnapojkijbgaaGreatDoor
/- An element of an array by value. It speaks of no one program. -/
namespace Go.Proofs.YtkgnapojkijbgaaGreatDoor
open Go.RowKit
theorem run_indexV {P : Program} (w : World) (t e n : Nat) (cs : Array Value) (i : Int) (k : Nat) (v : Value) (ht : P.underlying t = some (.array n e)) (hi : i = (k : Int)) (hk : k < n) (hv : cs[k]? = some v) (hs : ∀ w, (sizeOf e).run P w = .ok 1 w) (ha : ∀ w, (isAgg e).run P w = .ok false w) :
    (Instr.index t (.agg cs) (.int .i64 i)).run P w = .ok v w := by
  subst hi
  have h1 : (0 : Int) ≤ (k : Int) ∧ (k : Int) < (n : Int) := by omega
  simp [Instr.index, run_underlying ht, asIntOf, hk, hv, hs, ha, go_sem]
theorem sizeInt (w : World) : (sizeOf 3).run Tryz.prog w = .ok 1 w := by kernel_rfl
theorem sizeStr (w : World) : (sizeOf 9).run Tryz.prog w = .ok 1 w := by kernel_rfl
theorem aggInt (w : World) : (isAgg 3).run Tryz.prog w = .ok false w := by kernel_rfl
theorem aggStr (w : World) : (isAgg 9).run Tryz.prog w = .ok false w := by kernel_rfl
end Go.Proofs.YtkgnapojkijbgaaGreatDoor
/- The contracts of rules.hows and of the comparisons it holds. -/
namespace Go.Proofs.YtkgnapojkijbgaaGreatDoor
open Go.RowKit

theorem hows1_any (v l : Int) (w : World) : Calls Tryz.prog 190 #[.int .i64 v, .int .i64 l] w (BoolS (decide (l < v)) w) := by
  go_enter Tryz.func190, Tryz.ntmps190
  go_wp2
  go_ret
  exact ⟨rfl, rfl⟩
theorem hows2_any (v l : Int) (w : World) : Calls Tryz.prog 191 #[.int .i64 v, .int .i64 l] w (BoolS (decide (v < l)) w) := by
  go_enter Tryz.func191, Tryz.ntmps191
  go_wp2
  go_ret
  exact ⟨rfl, rfl⟩
theorem hows3_any (v l : Int) (w : World) : Calls Tryz.prog 192 #[.int .i64 v, .int .i64 l] w (BoolS (decide (v = l)) w) := by
  go_enter Tryz.func192, Tryz.ntmps192
  go_wp2
  go_ret
  exact ⟨by rw [show decide (v = l) = (v == l) by rw [Bool.eq_iff_iff]; simp]; rfl, rfl⟩
theorem not2_any (v l : Int) (q : Nat) (w : World) (hx : w.cell? ⟨q, 0, none⟩ = some (.func (.func 191) #[] #[])) :
    Calls Tryz.prog 260 #[.int .i64 v, .int .i64 l, .pointer (some ⟨q, 0, none⟩)] w (BoolS (!decide (v < l)) w) := by
  go_enter Tryz.func260, Tryz.ntmps260
  go_wp2_with (go_at_call 191; refine (hows2_any v l _).mono ?_; rintro e w2 ⟨rfl, rfl⟩)
  go_ret
  exact ⟨rfl, rfl⟩
theorem not1_any (v l : Int) (q : Nat) (w : World) (hx : w.cell? ⟨q, 0, none⟩ = some (.func (.func 190) #[] #[])) :
    Calls Tryz.prog 260 #[.int .i64 v, .int .i64 l, .pointer (some ⟨q, 0, none⟩)] w (BoolS (!decide (l < v)) w) := by
  go_enter Tryz.func260, Tryz.ntmps260
  go_wp2_with (go_at_call 190; refine (hows1_any v l _).mono ?_; rintro e w2 ⟨rfl, rfl⟩)
  go_ret
  exact ⟨rfl, rfl⟩


def NotP (f : Value) (w : World) (e : Ending) (w' : World) : Prop := ∃ b, e = .returned (.func (.func 260) #[] #[.pointer (some ⟨b, 0, none⟩)]) ∧ w.heap.size ≤ b ∧ b < w'.heap.size ∧ w'.cell? ⟨b, 0, none⟩ = some f ∧ Below w.heap.size w w'
theorem not_any (f : FuncId) (w : World) : Calls Tryz.prog 193 #[.func (.func f) #[] #[]] w (NotP (.func (.func f) #[] #[]) w) := by
  go_enter Tryz.func193, Tryz.ntmps193
  go_wp2
  go_ret
  have hB := Blk.new w 160 #[.func (.func f) #[] #[]]
  exact ⟨_, rfl, Nat.le_refl _, hB.lt, hB.cell 0, (Below.refl _ _).alloc (Nat.le_refl _) _⟩

abbrev howsV (x y : Nat) : Array Value :=
  #[.string ⟨#[]⟩, .nilFunc, .string ⟨#[62]⟩, .func (.func 190) #[] #[], .string ⟨#[62, 61]⟩, .func (.func 260) #[] #[.pointer (some ⟨x, 0, none⟩)],
    .string ⟨#[60]⟩, .func (.func 191) #[] #[], .string ⟨#[60, 61]⟩, .func (.func 260) #[] #[.pointer (some ⟨y, 0, none⟩)], .string ⟨#[61, 61]⟩, .func (.func 192) #[] #[]]
def HowsP (w : World) (e : Ending) (w' : World) : Prop :=
  ∃ x y, e = .returned (.agg (howsV x y)) ∧ w'.cell? ⟨x, 0, none⟩ = some (.func (.func 191) #[] #[]) ∧ w'.cell? ⟨y, 0, none⟩ = some (.func (.func 190) #[] #[]) ∧ Below w.heap.size w w'
theorem Blk.cells12 {w : World} {g : Nat} {t : TypeId} {x0 x1 x2 x3 x4 x5 x6 x7 x8 x9 x10 x11 : Value} (h : Blk w g t #[x0, x1, x2, x3, x4, x5, x6, x7, x8, x9, x10, x11]) :
    w.cell? ⟨g, 0, none⟩ = some x0 ∧ w.cell? ⟨g, 1, none⟩ = some x1 ∧ w.cell? ⟨g, 2, none⟩ = some x2 ∧ w.cell? ⟨g, 3, none⟩ = some x3 ∧ w.cell? ⟨g, 4, none⟩ = some x4 ∧ w.cell? ⟨g, 5, none⟩ = some x5 ∧ w.cell? ⟨g, 6, none⟩ = some x6 ∧ w.cell? ⟨g, 7, none⟩ = some x7 ∧ w.cell? ⟨g, 8, none⟩ = some x8 ∧ w.cell? ⟨g, 9, none⟩ = some x9 ∧ w.cell? ⟨g, 10, none⟩ = some x10 ∧ w.cell? ⟨g, 11, none⟩ = some x11 :=
  ⟨h.cell 0, h.cell 1, h.cell 2, h.cell 3, h.cell 4, h.cell 5, h.cell 6, h.cell 7, h.cell 8, h.cell 9, h.cell 10, h.cell 11⟩
theorem results_cell_R {P : Program} {fn : Func} {p : Tmp} {ty : TypeId} (h : fn.results = #[.cell p ty]) (tmps : Array Value) (w : World) (g : Nat) (t : TypeId) (cs : Array Value) (fr : Nat × Nat) (d : TypeDesc)
    (hp : tmps.getD p undef = .pointer (some ⟨g, 0, none⟩)) (hg : w.heap[g]? = some (.cells cs t fr))
    (hu : P.underlying ty = some d) (hd : (match d with | .struct _ | .array _ _ => true | _ => false) = true) (hi : (P.info? ty).map (·.size) = some cs.size) :
    (results fn tmps).run P w = .ok (.agg cs) w := by
  have hp' : tmps[p]?.getD undef = .pointer (some ⟨g, 0, none⟩) := by simpa using hp
  simp [results, h, hp', asAddr, run_loadVar_row w g t ty cs fr d hg hu hd hi]
def set12 (w : World) (g : Nat) (va vb vc vd ve vf vg vh vi vj vk vl : Value) : World := (((((((((((w.setCell ⟨g, 0, none⟩ va).setCell ⟨g, 1, none⟩ vb).setCell ⟨g, 2, none⟩ vc).setCell ⟨g, 3, none⟩ vd).setCell ⟨g, 4, none⟩ ve).setCell ⟨g, 5, none⟩ vf).setCell ⟨g, 6, none⟩ vg).setCell ⟨g, 7, none⟩ vh).setCell ⟨g, 8, none⟩ vi).setCell ⟨g, 9, none⟩ vj).setCell ⟨g, 10, none⟩ vk).setCell ⟨g, 11, none⟩ vl
theorem Blk.set12 {w : World} {g : Nat} {t : TypeId} {x0 x1 x2 x3 x4 x5 x6 x7 x8 x9 x10 x11 : Value} (h : Blk w g t #[x0, x1, x2, x3, x4, x5, x6, x7, x8, x9, x10, x11]) (va vb vc vd ve vf vg vh vi vj vk vl : Value) : Blk (set12 w g va vb vc vd ve vf vg vh vi vj vk vl) g t #[va, vb, vc, vd, ve, vf, vg, vh, vi, vj, vk, vl] := by
  have q := (((((((((((h.set 0 va).set 1 vb).set 2 vc).set 3 vd).set 4 ve).set 5 vf).set 6 vg).set 7 vh).set 8 vi).set 9 vj).set 10 vk).set 11 vl
  simp only [List.setIfInBounds_toArray, List.set_cons_zero, List.set_cons_succ] at q
  exact q
theorem below_set12 {B g : Nat} {w w1 : World} (h : Below B w w1) (hg : B ≤ g) (va vb vc vd ve vf vg vh vi vj vk vl : Value) : Below B w (set12 w1 g va vb vc vd ve vf vg vh vi vj vk vl) :=
  (((((((((((h.setCell hg va).setCell hg vb).setCell hg vc).setCell hg vd).setCell hg ve).setCell hg vf).setCell hg vg).setCell hg vh).setCell hg vi).setCell hg vj).setCell hg vk).setCell hg vl
theorem cell_setO (w : World) (p : Addr) (v : Value) (x o : Nat) (hne : x ≠ p.block) : (w.setCell p v).cell? ⟨x, o, none⟩ = w.cell? ⟨x, o, none⟩ := by
  unfold World.cell?; rw [Below.heap_setCell _ _ _ _ hne]
theorem cell_set12 (w : World) (g x : Nat) (hne : x ≠ g) (va vb vc vd ve vf vg vh vi vj vk vl : Value) : (set12 w g va vb vc vd ve vf vg vh vi vj vk vl).cell? ⟨x, 0, none⟩ = w.cell? ⟨x, 0, none⟩ := by
  unfold Go.Proofs.YtkgnapojkijbgaaGreatDoor.set12
  simp only [cell_setO _ ⟨g, _, none⟩ _ x 0 hne]
set_option maxHeartbeats 1600000 in
set_option maxRecDepth 100000 in
theorem hows_any (w : World) : Calls Tryz.prog 147 #[] w (HowsP w) := by
  have hK := Blk.new w 163 #[.string ⟨#[]⟩, .nilFunc, .string ⟨#[]⟩, .nilFunc, .string ⟨#[]⟩, .nilFunc, .string ⟨#[]⟩, .nilFunc, .string ⟨#[]⟩, .nilFunc, .string ⟨#[]⟩, .nilFunc]
  have hb := (Below.refl w.heap.size w).alloc (Nat.le_refl _) (.cells #[.string ⟨#[]⟩, .nilFunc, .string ⟨#[]⟩, .nilFunc, .string ⟨#[]⟩, .nilFunc, .string ⟨#[]⟩, .nilFunc, .string ⟨#[]⟩, .nilFunc, .string ⟨#[]⟩, .nilFunc] 163)
  go_enter Tryz.func147, Tryz.ntmps147
  go_upto_region 1 with fail
  generalize w.alloc (.cells #[.string ⟨#[]⟩, .nilFunc, .string ⟨#[]⟩, .nilFunc, .string ⟨#[]⟩, .nilFunc, .string ⟨#[]⟩, .nilFunc, .string ⟨#[]⟩, .nilFunc, .string ⟨#[]⟩, .nilFunc] 163) = wx at *
  have hlt := hK.lt
  obtain ⟨g, hge⟩ : ∃ g, w.heap.size = g := ⟨_, rfl⟩
  have HGE : Hid (w.heap.size = g) := Lib.hid hge
  rw [hge] at hK hlt ⊢
  clear hge
  go_wp2_with (first
    | (go_at_call 193; refine (not_any 191 _).mono ?_; rintro e w2 ⟨x, rfl, hx0, hx1, hx2, hb2⟩)
    | (go_at_call 193; refine (not_any 190 _).mono ?_; rintro e w3 ⟨y, rfl, hy0, hy1, hy2, hb3⟩
       have hK3 := (hK.call hb2).call hb3; have f0 := hK3.frozen 0; have f1 := hK3.frozen 1; have f2 := hK3.frozen 2; have f3 := hK3.frozen 3; have f4 := hK3.frozen 4; have f5 := hK3.frozen 5; have f6 := hK3.frozen 6; have f7 := hK3.frozen 7; have f8 := hK3.frozen 8; have f9 := hK3.frozen 9; have fa := hK3.frozen 10; have fb := hK3.frozen 11
       obtain ⟨q0, q1, q2, q3, q4, q5, q6, q7, q8, q9, q10, q11⟩ := hK3.cells12))
  have h1 : wx.heap.size ≤ w2.heap.size := hb2.size
  have HK4 := hK3.set12 (.string ⟨#[]⟩) .nilFunc (.string ⟨#[62]⟩) (.func (.func 190) #[] #[]) (.string ⟨#[62, 61]⟩) (.func (.func 260) #[] #[.pointer (some ⟨x, 0, none⟩)])
    (.string ⟨#[60]⟩) (.func (.func 191) #[] #[]) (.string ⟨#[60, 61]⟩) (.func (.func 260) #[] #[.pointer (some ⟨y, 0, none⟩)]) (.string ⟨#[61, 61]⟩) (.func (.func 192) #[] #[])
  refine bodyPost_ret (v := .agg (howsV x y)) ?_ rfl ⟨x, y, rfl, (cell_set12 w3 g x (by omega) _ _ _ _ _ _ _ _ _ _ _ _).trans ((hb3.cell (p := ⟨x, 0, none⟩) hx1).trans hx2), (cell_set12 w3 g y (by omega) _ _ _ _ _ _ _ _ _ _ _ _).trans hy2, below_set12 ((hb.trans (hb2.mono (by have := HGE.out; omega))).trans (hb3.mono (by have := HGE.out; omega))) (Nat.le_of_eq HGE.out) _ _ _ _ _ _ _ _ _ _ _ _⟩
  exact results_cell_R rfl _ _ g _ _ _ _ rfl HK4 Tryz.underlying163 rfl (by kernel_rfl)
end Go.Proofs.YtkgnapojkijbgaaGreatDoor
/- Sets that are read: the program's reader and the document's own, as functions on lists; just the texts of sets are read, and as those. Mathematics alone. -/
namespace Go.Proofs.YtkgnapojkijbgaaGreatDoor

/-! ### what begins with a text -/
theorem hasPrefix_iff (s p : Bs) : Lib.hasPrefix s p = true ↔ ∃ r, s = p ++ r := by
  rw [Lib.hasPrefix, List.isPrefixOf_iff_prefix]
  exact ⟨fun ⟨r, h⟩ => ⟨r, h.symm⟩, fun ⟨r, h⟩ => ⟨r, h.symm⟩⟩
theorem hasSuffix_iff (s p : Bs) : Lib.hasSuffix s p = true ↔ ∃ r, s = r ++ p := by
  rw [Lib.hasSuffix, List.isSuffixOf_iff_suffix]
  exact ⟨fun ⟨r, h⟩ => ⟨r, h.symm⟩, fun ⟨r, h⟩ => ⟨r, h.symm⟩⟩
theorem trimPrefix_app (p r : Bs) : Lib.trimPrefix (p ++ r) p = r := by
  rw [Lib.trimPrefix, if_pos ((hasPrefix_iff _ _).2 ⟨r, rfl⟩), List.drop_left]
theorem trimSuffix_app (p r : Bs) : Lib.trimSuffix (r ++ p) p = r := by
  rw [Lib.trimSuffix, if_pos ((hasSuffix_iff _ _).2 ⟨r, rfl⟩)]
  simp
theorem cut_found {s sep : Bs} (h : (Lib.cut s sep).2.2 = true) : s = (Lib.cut s sep).1 ++ (sep ++ (Lib.cut s sep).2.1) := by
  unfold Lib.cut at h ⊢
  split at h
  · rename_i h0
    rw [if_pos h0]
    rcases Lib.index_spec s sep with ⟨h1, _⟩ | ⟨i, h1, h2, h3, _⟩
    · omega
    · rw [h1, Int.toNat_natCast]
      rw [Lib.occAt, List.isPrefixOf_iff_prefix] at h3
      obtain ⟨t, ht⟩ := h3
      have : s.drop (i + sep.length) = t := by rw [← List.drop_drop, ← ht, List.drop_left]
      rw [this, ht, List.take_append_drop]
  · cases h
theorem cut_at (n q : Bs) (h : 61 ∉ n) : Lib.cut (n ++ 61 :: 34 :: q) [61, 34] = (n, q, true) := by
  have hi : Lib.index (n ++ 61 :: 34 :: q) [61, 34] = n.length := by
    induction n with
    | nil => simp [Lib.index]
    | cons c n ih =>
      have hc : ¬ 61 = c := fun e => h (by simp [e])
      have := ih (fun e => h (by simp [e]))
      rw [List.cons_append, Lib.index, this]
      have hp : List.isPrefixOf [61, 34] (c :: (n ++ 61 :: 34 :: q)) = false := by simp [List.isPrefixOf, hc]
      have hne : ((n.length : Int) == -1) = false := by rw [beq_eq_false_iff_ne]; omega
      simp only [hp, hne, List.length_cons]
      simp
  unfold Lib.cut
  rw [hi, if_pos (by omega), Int.toNat_natCast, List.take_left]
  rw [← List.drop_drop, List.drop_left]
  rfl

/-! ### the program's reader -/
def readQ : Bs → Bs → Option (Bs × Bs)
  | [], _ => none
  | 34 :: r, acc => some (acc, r)
  | [92], _ => none
  | 92 :: d :: r, acc => if d = 34 ∨ d = 92 then readQ r (acc ++ [d]) else none
  | c :: r, acc => readQ r (acc ++ [c])
def rdLab (s ahead : Bs) : Option (Lab × Bs) :=
  if Lib.hasPrefix s ahead = true then
    if (Lib.cut (Lib.trimPrefix s ahead) [61, 34]).2.2 = true then
      match readQ (Lib.cut (Lib.trimPrefix s ahead) [61, 34]).2.1 [] with
      | some (v, r) => some ((⟨(Lib.cut (Lib.trimPrefix s ahead) [61, 34]).1.toArray⟩, ⟨v.toArray⟩), r)
      | none => none
    else none
  else none
def aheadL (acc : List Lab) : Bs := if acc = [] then [] else [44]
def rdAll : Nat → Bs → List Lab → Option (List Lab)
  | 0, _, acc => some acc
  | n + 1, s, acc => if s = [] then some acc else
    match rdLab s (aheadL acc) with
    | some (l, r) => rdAll n r (acc ++ [l])
    | none => none
def parseL (s : Bs) : Option (List Lab) :=
  if Lib.hasPrefix s [123] = true then
    if Lib.hasSuffix (Lib.trimPrefix s [123]) [125] = true then
      match rdAll 9 (Lib.trimSuffix (Lib.trimPrefix s [123]) [125]) [] with
      | some l => if rightC l = true then some l else none
      | none => none
    else none
  else none

theorem quoteL_cons (c : UInt8) (v : Bs) : quoteL (c :: v) = (if c = 34 ∨ c = 92 then [92, c] else [c]) ++ quoteL v := rfl
theorem readQ_sound : ∀ (s acc v r : Bs), readQ s acc = some (v, r) → ∃ u, v = acc ++ u ∧ s = quoteL u ++ 34 :: r := by
  intro s acc
  induction s, acc using readQ.induct with
  | case1 acc => intro v r h; cases h
  | case2 r0 acc => intro v r h; simp only [readQ, Option.some.injEq, Prod.mk.injEq] at h; obtain ⟨rfl, rfl⟩ := h; exact ⟨[], by simp, rfl⟩
  | case3 acc => intro v r h; simp [readQ] at h
  | case4 d r0 acc hd ih =>
    intro v r h
    rw [readQ, if_pos hd] at h
    obtain ⟨u, h1, h2⟩ := ih v r h
    exact ⟨d :: u, by rw [h1]; simp, by rw [quoteL_cons, if_pos hd, h2]; rfl⟩
  | case5 d r0 acc hd =>
    intro v r h
    rw [readQ, if_neg hd] at h
    cases h
  | case6 c r0 acc h1 h2 h3 ih =>
    intro v r h
    have hc : ¬ (c = 34 ∨ c = 92) := by
      rintro (rfl | rfl)
      · exact h1 rfl
      · cases r0 with
        | nil => exact h2 rfl rfl
        | cons d r0 => exact h3 d r0 rfl rfl
    rw [readQ] at h
    · obtain ⟨u, e1, e2⟩ := ih v r h
      exact ⟨c :: u, by rw [e1]; simp, by rw [quoteL_cons, if_neg hc, e2]; rfl⟩
    all_goals first | exact h1 | exact h2 | exact h3
theorem readQ_quote (u : Bs) : ∀ (acc r : Bs), readQ (quoteL u ++ 34 :: r) acc = some (acc ++ u, r) := by
  induction u with
  | nil => intro acc r; simp [quoteL, readQ]
  | cons c u ih =>
    intro acc r
    rw [quoteL_cons]
    by_cases hc : c = 34 ∨ c = 92
    · rw [if_pos hc]
      simp only [List.cons_append, List.nil_append]
      rw [readQ, if_pos hc, ih]
      simp
    · rw [if_neg hc]
      simp only [List.cons_append, List.nil_append]
      rw [readQ, ih]
      · simp
      · rintro rfl; exact hc (.inl rfl)
      · rintro rfl; exact (hc (.inr rfl)).elim
      · rintro d r' rfl; exact (hc (.inr rfl)).elim

theorem rdLab_sound {s ahead : Bs} {l : Lab} {r : Bs} (h : rdLab s ahead = some (l, r)) : s = ahead ++ (labT l ++ r) := by
  unfold rdLab at h
  split at h
  · rename_i h1
    obtain ⟨t, rfl⟩ := (hasPrefix_iff _ _).1 h1
    rw [trimPrefix_app] at h
    split at h
    · rename_i h2
      have hc := cut_found h2
      generalize Lib.cut t [61, 34] = C at *
      cases hq : readQ C.2.1 [] with
      | none => rw [hq] at h; cases h
      | some p =>
        rw [hq] at h
        obtain ⟨v, r'⟩ := p
        simp only [Option.some.injEq, Prod.mk.injEq] at h
        obtain ⟨rfl, rfl⟩ := h
        obtain ⟨u, e1, e2⟩ := readQ_sound _ _ _ _ hq
        rw [hc, e2]
        simp only [List.nil_append] at e1
        subst e1
        simp [labT]
    · cases h
  · cases h
theorem name_no61 {s : Bs} (h : nameC s = true) : 61 ∉ s := by
  intro hm
  simp only [nameC, Bool.and_eq_true] at h
  have := List.all_eq_true.1 h.2 61 hm
  exact absurd this (by decide)
theorem rdLab_labT {l : Lab} (h : labC l = true) (ahead r : Bs) : rdLab (ahead ++ (labT l ++ r)) ahead = some (l, r) := by
  simp only [labC, Bool.and_eq_true] at h
  have hc := cut_at l.1.data.toList (quoteL l.2.data.toList ++ 34 :: r) (name_no61 h.1)
  have e : labT l ++ r = l.1.data.toList ++ 61 :: 34 :: (quoteL l.2.data.toList ++ 34 :: r) := by simp [labT]
  unfold rdLab
  rw [if_pos ((hasPrefix_iff _ _).2 ⟨_, rfl⟩), trimPrefix_app, e, hc, if_pos rfl]
  simp only [readQ_quote]
  simp

theorem rdAll_sound : ∀ (n : Nat) (s : Bs) (acc out : List Lab), rdAll n s acc = some out → n + acc.length = 9 → out.length ≤ 8 → bodyT out = bodyT acc ++ s
  | 0, s, acc, out, h, hn, ho => by
    simp only [rdAll, Option.some.injEq] at h
    subst h
    omega
  | n + 1, s, acc, out, h, hn, ho => by
    rw [rdAll] at h
    split at h
    · rename_i hs
      simp only [Option.some.injEq] at h
      subst h; subst hs; simp
    · cases hr : rdLab s (aheadL acc) with
      | none => rw [hr] at h; cases h
      | some p =>
        rw [hr] at h
        obtain ⟨l, r⟩ := p
        have ih := rdAll_sound n r (acc ++ [l]) out h (by simp; omega) ho
        rw [ih, bodyT_snoc, rdLab_sound hr]
        simp [aheadL]
theorem flat_ahead (acc : List Lab) (l : Lab) : aheadL (acc ++ [l]) = [44] := by simp [aheadL]
def restT (acc : List Lab) : List Lab → Bs
  | [] => []
  | l :: r => aheadL acc ++ (labT l ++ r.flatMap fun x => 44 :: labT x)
theorem restT_snoc (acc : List Lab) (l : Lab) (r : List Lab) : restT (acc ++ [l]) r = r.flatMap fun x => 44 :: labT x := by
  cases r with
  | nil => rfl
  | cons l' r' => rw [restT, flat_ahead]; simp
theorem restT_nil (ls : List Lab) : restT [] ls = bodyT ls := by
  cases ls with
  | nil => rfl
  | cons l r => rw [restT, bodyT]; simp [aheadL]
theorem rdAll_text : ∀ (new acc : List Lab) (n : Nat), (∀ l ∈ new, labC l = true) → new.length < n → rdAll n (restT acc new) acc = some (acc ++ new)
  | [], acc, 0, _, hn => by cases hn
  | [], acc, n + 1, _, _ => by simp [rdAll, restT]
  | l :: r, acc, 0, _, hn => by cases hn
  | l :: r, acc, n + 1, hl, hn => by
    have hne : restT acc (l :: r) ≠ [] := by simp [restT, labT]
    have hr : rdLab (restT acc (l :: r)) (aheadL acc) = some (l, restT (acc ++ [l]) r) := by
      rw [restT_snoc, restT]
      exact rdLab_labT (hl l (by simp)) (aheadL acc) _
    have ih := rdAll_text r (acc ++ [l]) n (fun x hx => hl x (by simp [hx])) (by simp at hn; omega)
    rw [rdAll, if_neg hne, hr]
    simp only [ih, List.append_assoc, List.singleton_append]

theorem parseL_sound {s : Bs} {l : List Lab} (h : parseL s = some l) : rightC l = true ∧ textL l = s := by
  unfold parseL at h
  split at h
  · rename_i h1
    obtain ⟨t, rfl⟩ := (hasPrefix_iff _ _).1 h1
    rw [trimPrefix_app] at h
    split at h
    · rename_i h2
      obtain ⟨m, rfl⟩ := (hasSuffix_iff _ _).1 h2
      rw [trimSuffix_app] at h
      cases hr : rdAll 9 m [] with
      | none => rw [hr] at h; cases h
      | some p =>
        rw [hr] at h
        simp only at h
        split at h
        · rename_i h3
          simp only [Option.some.injEq] at h
          subst h
          have := rdAll_sound 9 m [] p hr rfl ((rightC_iff p).1 h3).1
          exact ⟨h3, by rw [textL, this]; rfl⟩
        · cases h
    · cases h
  · cases h
theorem parseL_text {ls : List Lab} (h : rightC ls = true) : parseL (textL ls) = some ls := by
  obtain ⟨h1, h2, _⟩ := (rightC_iff ls).1 h
  have e : textL ls = [123] ++ (bodyT ls ++ [125]) := rfl
  have hr := rdAll_text ls [] 9 h2 (by omega)
  rw [restT_nil] at hr
  unfold parseL
  rw [e, if_pos ((hasPrefix_iff _ _).2 ⟨_, rfl⟩), trimPrefix_app, if_pos ((hasSuffix_iff _ _).2 ⟨_, rfl⟩), trimSuffix_app, hr]
  simp [h]
theorem parseL_iff (s : Bs) (l : List Lab) : parseL s = some l ↔ rightC l = true ∧ textL l = s :=
  ⟨parseL_sound, fun ⟨h, e⟩ => by rw [← e, parseL_text h]⟩
end Go.Proofs.YtkgnapojkijbgaaGreatDoor
/- Rules: their words, and what words are read as: mathematics alone. -/
namespace Go.Proofs.YtkgnapojkijbgaaGreatDoor

theorem pu_snoc : ∀ (xs : Bs) (acc v : Nat) (c : UInt8), Lib.parseUint10 acc xs = .ok v → Lib.parseUint10 acc (xs ++ [c]) = Lib.parseUint10 v [c]
  | [], acc, v, c, h => by
    simp only [Lib.parseUint10] at h
    injection h with h
    subst h
    rfl
  | x :: r, acc, v, c, h => by
    rw [List.cons_append]
    unfold Lib.parseUint10 at h
    rw [show Lib.parseUint10 acc (x :: (r ++ [c])) = if 48 ≤ x.toNat ∧ x.toNat ≤ 57 then if 1844674407370955162 ≤ acc then .range else if 18446744073709551616 ≤ acc * 10 + (x.toNat - 48) then .range else Lib.parseUint10 (acc * 10 + (x.toNat - 48)) (r ++ [c]) else _ from rfl]
    split at h
    · rename_i hd
      rw [if_pos hd]
      split at h
      · cases h
      · rename_i h1
        rw [if_neg h1]
        split at h
        · cases h
        · rename_i h2
          rw [if_neg h2]
          exact pu_snoc r _ v c h
    · cases h
theorem dig_nat {d : Nat} (h : d < 10) : (UInt8.ofNat (48 + d)).toNat = 48 + d := by
  rw [UInt8.toNat_ofNat']
  omega
theorem pu_one (v d : Nat) (hd : d < 10) (hv : v * 10 + d < 18446744073709551616) : Lib.parseUint10 v [UInt8.ofNat (48 + d)] = .ok (v * 10 + d) := by
  unfold Lib.parseUint10
  rw [dig_nat hd, if_pos (by omega), if_neg (by omega), show 48 + d - 48 = d by omega, if_neg (by omega)]
  rfl
theorem pu_dec (u : Nat) (h : u < 18446744073709551616) : Lib.parseUint10 0 (Lib.decDigits u) = .ok u := by
  induction u using Nat.strongRecOn with
  | _ u ih =>
    by_cases hu : u < 10
    · rw [Lib.decDigits, dif_pos hu, pu_one 0 u hu (by omega)]
      congr 1; omega
    · rw [Lib.decDigits, dif_neg hu, pu_snoc _ 0 (u / 10) _ (ih (u / 10) (by omega) (by omega)), pu_one (u / 10) (u % 10) (by omega) (by omega)]
      congr 1; omega
theorem dec_digits (u : Nat) : ∀ c ∈ Lib.decDigits u, 48 ≤ c.toNat ∧ c.toNat ≤ 57 := by
  induction u using Nat.strongRecOn with
  | _ u ih =>
    intro c hc
    rw [Lib.decDigits] at hc
    split at hc
    · rename_i hu
      obtain rfl := List.mem_singleton.1 hc
      rw [dig_nat hu]; omega
    · rename_i hu
      rcases List.mem_append.1 hc with hc | hc
      · exact ih (u / 10) (by omega) c hc
      · obtain rfl := List.mem_singleton.1 hc
        rw [dig_nat (by omega)]; omega
theorem dec_ne (u : Nat) : Lib.decDigits u ≠ [] := by
  rw [Lib.decDigits]
  split <;> simp
theorem atoi_itoa (n : Int) (h1 : -9223372036854775808 ≤ n) (h2 : n ≤ 9223372036854775807) : Lib.atoiAll (Lib.itoa n) = .ok n := by
  unfold Lib.itoa
  by_cases hn : n < 0
  · rw [if_pos hn]
    have hp : Lib.parseMag (Lib.decDigits n.natAbs) = .ok n.natAbs := by
      unfold Lib.parseMag
      rw [if_neg (dec_ne _)]
      exact pu_dec _ (by omega)
    unfold Lib.atoiAll
    simp only [show (45 : UInt8).toNat = 45 from rfl, or_true, if_true, hp, not_true_eq_false, false_and, if_false, true_and]
    rw [if_neg (by omega)]
    congr 1; omega
  · rw [if_neg hn]
    obtain ⟨c, r, e⟩ : ∃ c r, Lib.decDigits n.toNat = c :: r := by
      cases h : Lib.decDigits n.toNat with
      | nil => exact absurd h (dec_ne _)
      | cons c r => exact ⟨c, r, rfl⟩
    have hc := dec_digits n.toNat c (by rw [e]; simp)
    have hp : Lib.parseMag (c :: r) = .ok n.toNat := by
      unfold Lib.parseMag
      rw [if_neg (by simp), ← e]
      exact pu_dec _ (by omega)
    have h1 : ¬ (c.toNat = 43 ∨ c.toNat = 45) := by omega
    have h2 : ¬ c.toNat = 45 := by omega
    rw [e]
    unfold Lib.atoiAll
    dsimp only
    rw [if_neg h1, hp]
    dsimp only
    rw [if_neg (by omega), if_neg (fun h => h2 h.1), if_neg h2]
    congr 1; omega

def signL (h : Int) : ByteArray := if h = 1 then ⟨#[62]⟩ else if h = 2 then ⟨#[62, 61]⟩ else if h = 3 then ⟨#[60]⟩ else if h = 4 then ⟨#[60, 61]⟩ else if h = 5 then ⟨#[61, 61]⟩ else ⟨#[]⟩
def howL (s : ByteArray) : Int := if s = ⟨#[62]⟩ then 1 else if s = ⟨#[62, 61]⟩ then 2 else if s = ⟨#[60]⟩ then 3 else if s = ⟨#[60, 61]⟩ then 4 else if s = ⟨#[61, 61]⟩ then 5 else 0
def itoaS (n : Int) : ByteArray := ⟨(Lib.itoa n).toArray⟩
def textB (ls : List Lab) : ByteArray := ⟨(textL ls).toArray⟩
def wordsL (r : Rul) : List ByteArray := [r.name, r.metric, signL r.how, itoaS r.limit, itoaS r.fr, itoaS r.keep, itoaS r.tries, textB r.labels]
def wordsP (r : Rul) : List ByteArray × Int := if rulC r = true then (wordsL r, 0) else ([], 1)
def numL (s : ByteArray) : Int := match Lib.atoiAll s.data.toList with | .ok v => v | _ => 0
def zeroR : Rul := ⟨⟨#[]⟩, ⟨#[]⟩, 0, 0, 0, 0, 0, []⟩
def rOf (a b s l f k t x : ByteArray) : Rul := ⟨a, b, howL s, numL l, numL f, numL k, numL t, (parseL x.data.toList).getD []⟩
/-- r is the rule of these words -/
def IsR (ss : List ByteArray) (r : Rul) : Prop := rulC r = true ∧ wordsL r = ss
theorem howL_sign {h : Int} (h1 : 1 ≤ h) (h2 : h ≤ 5) : howL (signL h) = h := by
  have : h = 1 ∨ h = 2 ∨ h = 3 ∨ h = 4 ∨ h = 5 := by omega
  rcases this with rfl | rfl | rfl | rfl | rfl <;> decide +kernel
theorem numL_itoa (n : Int) (h1 : -9223372036854775808 ≤ n) (h2 : n ≤ 9223372036854775807) : numL (itoaS n) = n := by
  unfold numL itoaS
  simp only [atoi_itoa n h1 h2]
/-- the rule of a row of words is one -/
theorem IsR.eq {a b s l f k t x : ByteArray} {r : Rul} (h : IsR [a, b, s, l, f, k, t, x] r) : rOf a b s l f k t x = r := by
  obtain ⟨h1, h2⟩ := h
  obtain ⟨_, _, ⟨g1, g2⟩, ⟨g3, g4⟩, ⟨g5, g6⟩, ⟨g7, g8⟩, ⟨g9, g10⟩, g11⟩ := (rulC_iff r).1 h1
  have hp := parseL_text (rlabsC_iff _ |>.1 g11).2.1
  obtain ⟨n, m, h, li, fr, ke, tr, la⟩ := r
  simp only at g1 g2 g3 g4 g5 g6 g7 g8 g9 g10
  simp only [wordsL, List.cons.injEq, and_true] at h2
  obtain ⟨rfl, rfl, rfl, rfl, rfl, rfl, rfl, rfl⟩ := h2
  simp only [rOf, Rul.mk.injEq, true_and]
  exact ⟨howL_sign g1 g2, numL_itoa _ (by omega) (by omega), numL_itoa _ (by omega) (by omega), numL_itoa _ (by omega) (by omega), numL_itoa _ (by omega) (by omega), by simp only [textB, List.toList_toArray]; rw [hp]; rfl⟩
def readP (ss : List ByteArray) : Rul × Int :=
  match ss with
  | [a, b, s, l, f, k, t, x] => if rulC (rOf a b s l f k t x) = true ∧ wordsL (rOf a b s l f k t x) = ss then (rOf a b s l f k t x, 0) else (zeroR, 6)
  | _ => (zeroR, 6)
theorem readP_is {ss : List ByteArray} {r : Rul} (h : IsR ss r) : readP ss = (r, 0) := by
  obtain ⟨h1, rfl⟩ := h
  have e : rOf r.name r.metric (signL r.how) (itoaS r.limit) (itoaS r.fr) (itoaS r.keep) (itoaS r.tries) (textB r.labels) = r := IsR.eq ⟨h1, rfl⟩
  show (if rulC (rOf _ _ _ _ _ _ _ _) = true ∧ wordsL (rOf _ _ _ _ _ _ _ _) = _ then _ else _) = _
  rw [e, if_pos ⟨h1, rfl⟩]
theorem readP_cases (ss : List ByteArray) : (∃ r, IsR ss r ∧ readP ss = (r, 0)) ∨ (readP ss = (zeroR, 6) ∧ ∀ r, ¬ IsR ss r) := by
  by_cases h : ∃ r, IsR ss r
  · obtain ⟨r, h⟩ := h
    exact .inl ⟨r, h, readP_is h⟩
  · refine .inr ⟨?_, fun r hr => h ⟨r, hr⟩⟩
    unfold readP
    split
    · rename_i a b s l f k t x
      split
      · rename_i hh
        exact absurd ⟨_, hh⟩ h
      · rfl
    · rfl
theorem words_inj {r s : Rul} (h1 : rulC r = true) (h2 : rulC s = true) (h : wordsL r = wordsL s) : r = s := by
  have e1 := readP_is ⟨h1, rfl⟩
  have e2 := readP_is (ss := wordsL s) ⟨h2, rfl⟩
  rw [h, e2] at e1
  exact (Prod.mk.inj e1).1.symm
end Go.Proofs.YtkgnapojkijbgaaGreatDoor
