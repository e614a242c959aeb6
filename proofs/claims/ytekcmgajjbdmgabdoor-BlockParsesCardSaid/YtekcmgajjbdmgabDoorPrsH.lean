/- The contracts of the reader's read, and of block.Parse. -/
import Derived.Test.YtekcmgajjbdmgabDoorPrsG
import Derived.Outline
namespace Go.Proofs.YtekcmgajjbdmgabDoor
open Go.RowKit

abbrev lookV : Bool → Value | true => withV | false => outV
abbrev lookF : Bool → FuncId | true => 46 | false => 24

/-- the reader's call at its own look, at a line of a state that may be -/
def Good (st : PSt) : Prop := (∀ d ∈ st.1, d.keys.length ≤ 64 ∧ d.vals.length = d.keys.length) ∧ st.1.length ≤ 64 ∧ (st.2 = true → st.1 ≠ [])
theorem good_nil : Good ([], false) := ⟨(fun d hd => by cases hd), by decide, (fun h => by cases h)⟩
theorem good_last {ds : List Dfn} {d : Dfn} (h : ds.getLast? = some d) : d ∈ ds := by
  rw [drop_last ds d h]; simp
theorem growL_some {ds ds' : List Dfn} {k v : Bs} (h : growL ds k v = some ds') : ∃ d, ds.getLast? = some d ∧ memB (bytesA k) d.keys = false ∧ d.keys.length ≠ 64 ∧ ds' = ds.dropLast ++ [addK d k v] := by
  unfold growL at h
  cases hl : ds.getLast? with
  | none => rw [hl] at h; cases h
  | some d =>
    rw [hl] at h
    simp only at h
    split at h
    · cases h
    · rename_i hh
      simp only [Bool.or_eq_true, decide_eq_true_eq, not_or, Bool.not_eq_true] at hh
      exact ⟨d, rfl, hh.1, hh.2, (Option.some.inj h).symm⟩
theorem growL_none {ds : List Dfn} {k v : Bs} (h : growL ds k v = none) (hne : ds ≠ []) : ∃ d, ds.getLast? = some d ∧ (memB (bytesA k) d.keys = true ∨ d.keys.length = 64) := by
  unfold growL at h
  cases hl : ds.getLast? with
  | none => rw [List.getLast?_eq_none_iff] at hl; exact absurd hl hne
  | some d =>
    rw [hl] at h
    simp only at h
    split at h
    · rename_i hh
      simp only [Bool.or_eq_true, decide_eq_true_eq] at hh
      exact ⟨d, rfl, hh⟩
    · cases h
theorem good_line {st st' : PSt} {l : Bs} (h : Good st) (hs : lineS st l = some st') : Good st' := by
  obtain ⟨h1, h2, h3⟩ := h
  unfold lineS at hs
  split at hs
  · split at hs
    · obtain rfl := Option.some.inj hs
      exact ⟨h1, h2, (fun h => by cases h)⟩
    · split at hs
      · cases hs
      · split at hs
        · cases hs
        · rename_i ds hg
          obtain rfl := Option.some.inj hs
          obtain ⟨d, hl, _, hk, rfl⟩ := growL_some hg
          have hd := h1 d (good_last hl)
          have hlen := congrArg List.length (drop_last st.1 d hl)
          rw [List.length_append, List.length_singleton] at hlen
          refine ⟨fun x hx => ?_, by rw [List.length_append, List.length_singleton]; omega, (fun _ => by simp)⟩
          rw [List.mem_append, List.mem_singleton] at hx
          rcases hx with hx | rfl
          · exact h1 x ((List.dropLast_sublist st.1).subset hx)
          · simp only [addK, List.length_append, List.length_singleton]; omega
  · split at hs
    · cases hs
    · split at hs
      · obtain rfl := Option.some.inj hs
        refine ⟨fun x hx => ?_, by rw [List.length_append, List.length_singleton]; omega, (fun _ => by simp)⟩
        rw [List.mem_append, List.mem_singleton] at hx
        rcases hx with hx | rfl
        · exact h1 x hx
        · simp [openD]
      · cases hs
theorem good_step {st st' : PSt} {l : Bs} (h : Good st) (hs : stepL st l = some st') : Good st' := by
  unfold stepL at hs
  split at hs
  · obtain rfl := Option.some.inj hs; exact h
  · exact good_line h hs

/-- what is known behind a call of the reader's look -/
def SeenP (rb B : Nat) (o : Option PSt) (w : World) (e : Ending) (w' : World) : Prop :=
  (match o with | none => e = .returned .nilFunc ∧ ∃ f ds, RdS w' rb B f ds | some st => e = .returned (lookV st.2) ∧ ∃ f, RdS w' rb B f st.1) ∧ Fr rb B w w'

/-- an ended line -/
theorem look_line (rb B : Nat) (st : PSt) (s : ByteArray) (l : Bs) (w : World) (h : RdS w rb B (lookV st.2) st.1) (hm : MaxC w) (hg : Good st) (hs : s.size ≤ 100000) (hl : s.data.toList = l ++ [10]) (hn : ∀ c ∈ l, c ≠ 10) :
    Calls Tryd.prog (lookF st.2) #[.pointer (some ⟨rb, 0, none⟩), .string s] w (SeenP rb B (lineS st l) w) := by
  have hB := h.lt.2.2
  have h0 : s.size ≠ 0 := by rw [← lenB, hl]; simp
  have hs' : s.size ≤ maxLen := by unfold maxLen; omega
  obtain ⟨ds, op⟩ := st
  obtain ⟨g1, g2, g3⟩ := hg
  cases op with
  | false =>
    have ho : outD s.data.toList = beginsL l := by rw [hl]; exact outD_line l hn
    have hls : lineS (ds, false) l = match beginsL l with | none => none | some m => if ds.length < 64 then some (ds ++ [openD m], true) else none := rfl
    rw [hls]
    cases hb : beginsL l with
    | none => exact (outside_no rb B _ ds s w h hs' h0 g2 (.inl (by rw [ho, hb]))).mono fun e w' ⟨h1, h2⟩ => by subst h2; exact ⟨⟨h1, _, _, h⟩, Fr.refl _ _ _⟩
    | some m =>
      simp only
      by_cases h64 : ds.length < 64
      · rw [if_pos h64]
        exact (outside_yes rb B _ ds s m w h hs' h0 h64 (by rw [ho, hb])).mono fun e w' ⟨f, h1, h2, h3⟩ => ⟨⟨h1, f, h2⟩, h3⟩
      · rw [if_neg h64]
        exact (outside_no rb B _ ds s w h hs' h0 g2 (.inr (by simp only at g2; omega))).mono fun e w' ⟨h1, h2⟩ => by subst h2; exact ⟨⟨h1, _, _, h⟩, Fr.refl _ _ _⟩
  | true =>
    have hls : lineS (ds, true) l = if l = [125] then some (ds, false) else (match keyL l with | none => none | some kv => (match growL ds kv.1 kv.2 with | none => none | some ds => some (ds, true))) := rfl
    rw [hls]
    by_cases h125 : l = [125]
    · subst h125
      obtain rfl : s = ⟨#[125, 10]⟩ := bytes_ext hl
      rw [if_pos rfl]
      exact (within_end _ w).mono fun e w' ⟨h1, h2⟩ => by subst h2; exact ⟨⟨h1, _, h⟩, Fr.refl _ _ _⟩
    · rw [if_neg h125]
      have hne : s ≠ ⟨#[125, 10]⟩ := by
        rintro rfl
        exact h125 (List.append_cancel_right (show l ++ [10] = [125] ++ [10] from hl.symm))
      have hw : withD s.data.toList = keyL l := by rw [hl]; exact withD_line l
      cases hk : keyL l with
      | none => exact (within_not _ s w hm hs hne (by rw [hw, hk])).mono fun e w' ⟨h1, h2⟩ => ⟨⟨h1, _, _, h.call h2⟩, Fr.of h2 hB⟩
      | some kv =>
        simp only
        cases hgr : growL ds kv.1 kv.2 with
        | none =>
          obtain ⟨d, hd, hno⟩ := growL_none hgr (g3 rfl)
          exact (within_full rb B _ ds d s kv.1 kv.2 w h hm hs hne hd g2 (by rw [hw, hk]) hno).mono fun e w' ⟨h1, h2⟩ => ⟨⟨h1, _, _, h.call h2⟩, Fr.of h2 hB⟩
        | some ds' =>
          obtain ⟨d, hd, hno, hk64, rfl⟩ := growL_some hgr
          have e := drop_last ds d hd
          have hdm := g1 d (good_last hd)
          have hlen := congrArg List.length e
          rw [List.length_append, List.length_singleton] at hlen
          simp only at g2
          exact (within_yes rb B _ ds.dropLast d s kv.1 kv.2 w (by rw [← e]; exact h) hm hs hne (by omega) (by rw [hw, hk]) hno (by omega) (by omega)).mono fun e w' ⟨f, h1, h2, h3⟩ => ⟨⟨h1, f, h2⟩, h3⟩

/-- where what is behind the last ended line leads -/
def restS (st : PSt) (r : Bs) : Option PSt := if r ≠ [] ∨ st.2 = true then none else some st
/-- what is behind the last ended line -/
theorem look_rest (rb B : Nat) (st : PSt) (s : ByteArray) (w : World) (h : RdS w rb B (lookV st.2) st.1) (hm : MaxC w) (hg : Good st) (hs : s.size ≤ 100000) (hn : ∀ c ∈ s.data.toList, c ≠ 10) :
    Calls Tryd.prog (lookF st.2) #[.pointer (some ⟨rb, 0, none⟩), .string s] w (SeenP rb B (restS st s.data.toList) w) := by
  have hB := h.lt.2.2
  have hs' : s.size ≤ maxLen := by unfold maxLen; omega
  obtain ⟨ds, op⟩ := st
  obtain ⟨g1, g2, g3⟩ := hg
  unfold restS
  cases op with
  | false =>
    by_cases h0 : s.size = 0
    · obtain rfl := strNil s h0
      rw [if_neg (by simp)]
      exact (outside_end _ w).mono fun e w' ⟨h1, h2⟩ => by subst h2; exact ⟨⟨h1, _, h⟩, Fr.refl _ _ _⟩
    · rw [if_pos (.inl (fun e => h0 (by rw [← lenB, e]; rfl)))]
      exact (outside_no rb B _ ds s w h hs' h0 g2 (.inl (outD_rest _ hn))).mono fun e w' ⟨h1, h2⟩ => by subst h2; exact ⟨⟨h1, _, _, h⟩, Fr.refl _ _ _⟩
  | true =>
    rw [if_pos (.inr rfl)]
    refine (within_not _ s w hm hs ?_ (withD_rest _ hn)).mono fun e w' ⟨h1, h2⟩ => ⟨⟨h1, _, _, h.call h2⟩, Fr.of h2 hB⟩
    rintro rfl
    exact hn 10 (by simp) rfl

/-- what is known behind the reader's read -/
def ReadP (rb B : Nat) (o : Option PSt) (w : World) (e : Ending) (w' : World) : Prop :=
  (match o with | none => e = .returned (.bool false) | some st => e = .returned (.bool true) ∧ RdS w' rb B (lookV st.2) st.1) ∧ Fr rb B w w'

theorem neqF1 (W : World) : (binOp .neq 51 (.func (.func 46) #[] #[]) .nilFunc).run Tryd.prog W = .ok (.bool true) W := by
  have h := Tryd.underlying51
  have e : ∀ d, (Op.equalIn (d + 1) 51 (.func (.func 46) #[] #[]) .nilFunc).run Tryd.prog W = .ok false W := fun d => by simp [Op.equalIn, run_underlying h]
  simp only [binOp]
  simp [Op.equal, Op.maxDepth, e 9999]
theorem neqF2 (W : World) : (binOp .neq 51 (.func (.func 24) #[] #[]) .nilFunc).run Tryd.prog W = .ok (.bool true) W := by
  have h := Tryd.underlying51
  have e : ∀ d, (Op.equalIn (d + 1) 51 (.func (.func 24) #[] #[]) .nilFunc).run Tryd.prog W = .ok false W := fun d => by simp [Op.equalIn, run_underlying h]
  simp only [binOp]
  simp [Op.equal, Op.maxDepth, e 9999]
theorem neqF3 (W : World) : (binOp .neq 51 .nilFunc .nilFunc).run Tryd.prog W = .ok (.bool false) W := by
  have h := Tryd.underlying51
  have e : ∀ d, (Op.equalIn (d + 1) 51 .nilFunc .nilFunc).run Tryd.prog W = .ok true W := fun d => by simp [Op.equalIn, run_underlying h]
  simp only [binOp]
  simp [Op.equal, Op.maxDepth, e 9999]


set_option maxHeartbeats 1600000 in
set_option maxRecDepth 100000 in
theorem read_left (rb B : Nat) (st : PSt) (s : ByteArray) (w : World) (h : RdS w rb B (lookV st.2) st.1) (hs : s.size ≤ 100000) (hl : leftD s.data.toList = true) :
    Calls Tryd.prog 26 #[.pointer (some ⟨rb, 0, none⟩), .string s] w (ReadP rb B (some st) w) := by
  have hi := isLeftOut_any s w (by unfold maxLen; omega)
  rw [hl] at hi
  have HI := Lib.hid hi
  have HR := Lib.hid (fun W (hb : Below w.heap.size w W) => h.call hb)
  have hB := h.lt.2.2
  obtain ⟨ds, op⟩ := st
  clear hi hl h
  have q1 := neqF1
  have q2 := neqF2
  cases op with
  | false =>
    have HL := Lib.hid (fun W (hb : Below w.heap.size w W) => (show W.cell? ⟨rb, 1, none⟩ = some outV from (HR.out W hb).look.1))
    go_enter Tryd.func26, Tryd.ntmps26
    go_wp2_with (go_at_call 48; refine HI.out.mono ?_; rintro e w2 ⟨rfl, hb2⟩; have hc1 := HL.out _ hb2)
    go_ret
    exact ⟨⟨rfl, HR.out _ hb2⟩, Fr.of hb2 hB⟩
  | true =>
    have HL := Lib.hid (fun W (hb : Below w.heap.size w W) => (show W.cell? ⟨rb, 1, none⟩ = some withV from (HR.out W hb).look.1))
    go_enter Tryd.func26, Tryd.ntmps26
    go_wp2_with (go_at_call 48; refine HI.out.mono ?_; rintro e w2 ⟨rfl, hb2⟩; have hc1 := HL.out _ hb2)
    go_ret
    exact ⟨⟨rfl, HR.out _ hb2⟩, Fr.of hb2 hB⟩

set_option maxHeartbeats 3200000 in
set_option maxRecDepth 100000 in
/-- a line that says something: as the reader's look says -/
theorem read_said (rb B : Nat) (op : Bool) (ds : List Dfn) (o : Option PSt) (s : ByteArray) (w : World) (h : RdS w rb B (lookV op) ds) (hs : s.size ≤ 100000) (hl : leftD s.data.toList = false)
    (hlook : ∀ W, Below w.heap.size w W → Calls Tryd.prog (lookF op) #[.pointer (some ⟨rb, 0, none⟩), .string s] W (SeenP rb B o W)) :
    Calls Tryd.prog 26 #[.pointer (some ⟨rb, 0, none⟩), .string s] w (ReadP rb B o w) := by
  have hi := isLeftOut_any s w (by unfold maxLen; omega)
  rw [hl] at hi
  have HI := Lib.hid hi
  have HR := Lib.hid (fun W (hb : Below w.heap.size w W) => h.call hb)
  have HL := Lib.hid hlook
  have hB := h.lt.2.2
  clear hi hl h hlook
  have q1 := neqF1
  have q2 := neqF2
  have q3 := neqF3
  have hop : op = false ∨ op = true := by cases op <;> simp
  rcases hop with rfl | rfl
  all_goals
    simp only [lookV] at HR
    go_enter Tryd.func26, Tryd.ntmps26
    go_upto_region 2 with (go_at_call 48; refine HI.out.mono ?_; rintro e w2 ⟨rfl, hb2⟩)
    have hc1 := (HR.out _ hb2).look.1
    have HL2 := Lib.hid (HL.out _ hb2)
    have HB2 := Lib.hid (Fr.of (rb := rb) hb2 hB)
    clear HL hb2
    cases o with
    | none =>
      go_wp2_with (first | (go_at_call 24; refine HL2.out.mono ?_; rintro e w3 ⟨⟨rfl, f3, ds3, hr3⟩, hfr3⟩; have hc3 := hr3.look.1; have hf3 := hr3.look.2 1) | (go_at_call 46; refine HL2.out.mono ?_; rintro e w3 ⟨⟨rfl, f3, ds3, hr3⟩, hfr3⟩; have hc3 := hr3.look.1; have hf3 := hr3.look.2 1))
      go_ret
      exact ⟨rfl, (HB2.out.trans hfr3).set 1 _⟩
    | some st =>
      obtain ⟨ds', op'⟩ := st
      have hop' : op' = false ∨ op' = true := by cases op' <;> simp
      rcases hop' with rfl | rfl
      all_goals
        go_wp2_with (first | (go_at_call 24; refine HL2.out.mono ?_; rintro e w3 ⟨⟨rfl, f3, hr3⟩, hfr3⟩; have hc3 := hr3.look.1; have hf3 := hr3.look.2 1) | (go_at_call 46; refine HL2.out.mono ?_; rintro e w3 ⟨⟨rfl, f3, hr3⟩, hfr3⟩; have hc3 := hr3.look.1; have hf3 := hr3.look.2 1))
        go_ret
        exact ⟨⟨rfl, hr3.setLook _⟩, (HB2.out.trans hfr3).set 1 _⟩
end Go.Proofs.YtekcmgajjbdmgabDoor
