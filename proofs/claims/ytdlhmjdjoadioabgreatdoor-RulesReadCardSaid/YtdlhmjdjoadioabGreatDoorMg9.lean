/- Sets laid over one another, and what is kept of names: mathematics alone. -/
import Derived.Test.YtdlhmjdjoadioabGreatDoorZLabV
import Derived.Test.YtdlhmjdjoadioabGreatDoorZRulB
import Derived.Test.YtdlhmjdjoadioabGreatDoorZRulD
import Derived.Test.YtdlhmjdjoadioabGreatDoorZLater
import Derived.BigQuiet
namespace Go.Proofs.YtdlhmjdjoadioabGreatDoor

/-- no name is there twice -/
def Dis (ls : List Lab) : Prop := ls.Pairwise fun a b => a.1 ≠ b.1
theorem Asc.dis {ls : List Lab} (h : Asc ls) : Dis ls := h.imp fun h => ltL_ne h
theorem Dis.perm {ls ms : List Lab} (h : Dis ls) (hp : ls.Perm ms) : Dis ms := (hp.pairwise_iff (fun h => Ne.symm h)).1 h
theorem Dis.asc {ls : List Lab} (h : Dis ls) (hw : WS ls) : Asc ls := by
  refine List.Pairwise.imp₂ (fun a b (h1 : a.1 ≠ b.1) (h2 : ltL b a = false) => ?_) h hw
  cases e : ltL a b with
  | true => rfl
  | false => exact absurd (ltL_tri e h2) h1
theorem dis_right {ls : List Lab} (h : Dis ls) (hl : ∀ l ∈ ls, labC l = true) (h8 : ls.length ≤ 8) : rightC (sortL ls) = true := by
  refine (rightC_iff _).2 ⟨by rw [(sortL_perm ls).length_eq]; exact h8, fun l hm => hl l ((sortL_perm ls).subset hm), ?_⟩
  exact (h.perm (sortL_perm ls).symm).asc (sortL_ws ls)
theorem newP_dis {ls : List Lab} (h : Dis ls) (hl : ∀ l ∈ ls, labC l = true) : newP ls = if ls.length ≤ 8 then (sortL ls, 0) else ([], 2) := by
  by_cases h8 : ls.length ≤ 8
  · rw [newP, if_pos h8, if_pos (List.all_eq_true.2 hl), if_pos (dis_right h hl h8), if_pos h8]
  · rw [newP, if_neg h8, if_neg h8]
theorem newP_perm {ls ms : List Lab} (hp : ls.Perm ms) : newP ls = newP ms := by
  by_cases h8 : ls.length ≤ 8
  · have h8' : ms.length ≤ 8 := by rw [← hp.length_eq]; exact h8
    cases hall : ls.all labC with
    | false =>
      have hall' : ms.all labC = false := by
        rw [← Bool.not_eq_true, List.all_eq_true] at hall ⊢
        exact fun h => hall fun l hl => h l (hp.subset hl)
      rw [newP_bad h8 hall, newP_bad h8' hall']
    | true =>
      have hall' : ms.all labC = true := by
        rw [List.all_eq_true] at hall ⊢
        exact fun l hl => hall l (hp.symm.subset hl)
      have hpp := (sortL_perm ls).trans hp
      cases hr : rightC (sortL ls) with
      | true => rw [newP_ok h8 hall (sortL_perm ls) (sortL_ws ls) hr, newP_ok h8' hall' hpp (sortL_ws ls) hr]
      | false => rw [newP_twice h8 hall (sortL_perm ls) (sortL_ws ls) hr, newP_twice h8' hall' hpp (sortL_ws ls) hr]
  · have h8' : ¬ ms.length ≤ 8 := by rw [← hp.length_eq]; exact h8
    rw [newP, if_neg h8, newP, if_neg h8']
theorem newP_right {ls : List Lab} (h : rightC ls = true) : newP ls = (ls, 0) := by
  obtain ⟨h1, h2, h3⟩ := (rightC_iff ls).1 h
  exact newP_ok h1 (List.all_eq_true.2 h2) (List.Perm.refl _) (WS.of_asc h3) h
theorem newP_cases (ls : List Lab) : (∃ out, newP ls = (out, 0) ∧ out.Perm ls ∧ rightC out = true) ∨ ∃ n : Int, newP ls = ([], n) ∧ n ≠ 0 := by
  unfold newP
  split
  · split
    · split
      · exact .inl ⟨_, rfl, sortL_perm ls, by assumption⟩
      · exact .inr ⟨10, rfl, by decide⟩
    · exact .inr ⟨1, rfl, by decide⟩
  · exact .inr ⟨2, rfl, by decide⟩

theorem over_dis {ls ms : List Lab} (h : rightC ls = true) (h' : rightC ms = true) : Dis (restL ls ms ++ ms) ∧ ∀ l ∈ restL ls ms ++ ms, labC l = true := by
  obtain ⟨_, a2, a3⟩ := (rightC_iff ls).1 h
  obtain ⟨_, b2, b3⟩ := (rightC_iff ms).1 h'
  refine ⟨List.pairwise_append.2 ⟨(a3.dis).sublist List.filter_sublist, b3.dis, fun l hl m hm e => ?_⟩, fun l hl => ?_⟩
  · have := (List.mem_filter.1 hl).2
    rw [(hasN_iff ms l.1).2 ⟨m, hm, e.symm⟩] at this
    cases this
  · rcases List.mem_append.1 hl with hl | hl
    · exact a2 l (List.mem_filter.1 hl).1
    · exact b2 l hl
theorem withP_cases (ls ms : List Lab) : (∃ out, withP ls ms = (out, 0) ∧ rightC ls = true ∧ rightC ms = true ∧ out.Perm (restL ls ms ++ ms) ∧ rightC out = true) ∨ withP ls ms = ([], 1) ∨ withP ls ms = ([], 2) := by
  cases hr : rightC ls with
  | false => exact .inr (.inl (by rw [withP, if_neg (by rw [hr]; simp)]))
  | true =>
    cases hr' : rightC ms with
    | false => exact .inr (.inl (by rw [withP, if_pos hr, if_neg (by rw [hr']; simp)]))
    | true =>
      obtain ⟨hd, hl⟩ := over_dis hr hr'
      have e : withP ls ms = newP (restL ls ms ++ ms) := by rw [withP, if_pos hr, if_pos hr']
      rw [e, newP_dis hd hl]
      split
      · exact .inl ⟨_, rfl, rfl, rfl, sortL_perm _, dis_right hd hl (by assumption)⟩
      · exact .inr (.inr rfl)
theorem getL_mem {ls : List Lab} (h : Dis ls) {l : Lab} (hl : l ∈ ls) : getL ls l.1 = l.2 := by
  rcases get_cases ls l.1 with ⟨j, hj, h1, h2, h3⟩ | ⟨h1, _⟩
  · obtain ⟨i, hi, rfl⟩ := List.getElem_of_mem hl
    have hij : j = i := by
      rcases Nat.lt_trichotomy j i with h4 | h4 | h4
      · exact absurd h1 (List.pairwise_iff_getElem.1 h j i hj hi h4)
      · exact h4
      · exact absurd h1.symm (List.pairwise_iff_getElem.1 h i j hi hj h4)
    subst hij
    exact h3
  · obtain ⟨i, hi, rfl⟩ := List.getElem_of_mem hl
    exact absurd rfl (h1 i hi)
theorem getL_none {ls : List Lab} {s : ByteArray} (h : ∀ l ∈ ls, l.1 ≠ s) : getL ls s = ⟨#[]⟩ := by
  rcases get_cases ls s with ⟨j, hj, h1, _⟩ | ⟨_, h2⟩
  · exact absurd h1 (h _ (List.getElem_mem hj))
  · exact h2
theorem val_ne {l : Lab} (h : labC l = true) : l.2 ≠ ⟨#[]⟩ := by
  intro e
  unfold labC at h
  rw [e] at h
  simp [valC] at h
theorem getL_has {ls : List Lab} (hd : Dis ls) (hl : ∀ l ∈ ls, labC l = true) (s : ByteArray) : getL ls s = ⟨#[]⟩ ↔ hasN ls s = false := by
  constructor
  · intro h
    rw [← Bool.not_eq_true, hasN_iff]
    rintro ⟨m, hm, rfl⟩
    rw [getL_mem hd hm] at h
    exact val_ne (hl m hm) h
  · intro h
    refine getL_none fun l hm e => ?_
    rw [(hasN_iff ls s).2 ⟨l, hm, e⟩] at h
    cases h
theorem getL_perm {ls ms : List Lab} (hp : ls.Perm ms) (hd : Dis ls) (s : ByteArray) : getL ls s = getL ms s := by
  by_cases h : ∃ l ∈ ls, l.1 = s
  · obtain ⟨l, hl, rfl⟩ := h
    rw [getL_mem hd hl, getL_mem (hd.perm hp) (hp.subset hl)]
  · have h1 : ∀ l ∈ ls, l.1 ≠ s := fun l hl e => h ⟨l, hl, e⟩
    rw [getL_none h1, getL_none (fun l hl => h1 l (hp.symm.subset hl))]
theorem getL_over {ls ms out : List Lab} (h : rightC ls = true) (h' : rightC ms = true) (hp : out.Perm (restL ls ms ++ ms)) (s : ByteArray) :
    getL out s = if getL ms s = ⟨#[]⟩ then getL ls s else getL ms s := by
  obtain ⟨hd, hl⟩ := over_dis h h'
  obtain ⟨_, a2, a3⟩ := (rightC_iff ls).1 h
  obtain ⟨_, b2, b3⟩ := (rightC_iff ms).1 h'
  rw [getL_perm hp (hd.perm hp.symm)]
  cases hq : hasN ms s with
  | true =>
    obtain ⟨m, hm, rfl⟩ := (hasN_iff ms s).1 hq
    rw [getL_mem hd (List.mem_append_right _ hm), getL_mem b3.dis hm, if_neg (val_ne (b2 m hm))]
  | false =>
    rw [if_pos ((getL_has b3.dis b2 s).2 hq)]
    by_cases h1 : ∃ l ∈ ls, l.1 = s
    · obtain ⟨l, hl1, rfl⟩ := h1
      rw [getL_mem a3.dis hl1]
      exact getL_mem hd (List.mem_append_left _ (List.mem_filter.2 ⟨hl1, by rw [hq]; rfl⟩))
    · have h2 : ∀ l ∈ ls, l.1 ≠ s := fun l hl e => h1 ⟨l, hl, e⟩
      rw [getL_none h2]
      refine getL_none fun l hl e => ?_
      rcases List.mem_append.1 hl with hl | hl
      · exact h2 l (List.mem_filter.1 hl).1 e
      · rw [(hasN_iff ms s).2 ⟨l, hl, e⟩] at hq; cases hq

theorem keepL_all (ls : List Lab) (ns : List ByteArray) (h : ∀ l ∈ ls, l.1 ∈ ns) : keepL ls ns = ls := List.filter_eq_self.2 fun l hl => (inB_iff _ _).2 (h l hl)
theorem keepL_nil (ls : List Lab) : keepL ls [] = [] := by
  rw [keepL, List.filter_eq_nil_iff]
  intro l _
  simp [inB]
theorem keepL_right {ls : List Lab} (h : rightC ls = true) (ns : List ByteArray) : rightC (keepL ls ns) = true := by
  obtain ⟨h1, h2, h3⟩ := (rightC_iff ls).1 h
  exact (rightC_iff _).2 ⟨Nat.le_trans (keepL_len ls ns) h1, keepL_sub ls ns _ h2, h3.sublist List.filter_sublist⟩
theorem keepL_keepL (ls : List Lab) (ns : List ByteArray) : keepL (keepL ls ns) ns = keepL ls ns := by
  rw [keepL, List.filter_eq_self]
  intro l hl
  exact (List.mem_filter.1 hl).2
theorem keepP_right {ls : List Lab} (h : rightC ls = true) (ns : List ByteArray) : keepP ls ns = (keepL ls ns, 0) := by rw [keepP, if_pos h]
end Go.Proofs.YtdlhmjdjoadioabGreatDoor
/- The contract of rules.Labels. -/
namespace Go.Proofs.YtdlhmjdjoadioabGreatDoor
open Go.RowKit

theorem one_lab (w : World) (s t : ByteArray) (hs : s.size ≤ maxLen) (ht : t.size ≤ maxLen) : HasLabs (w.alloc (.cells #[.string s, .string t] 60)) (some ⟨w.heap.size, 0, none⟩) 1 [(s, t)] := by
  have hB := Blk.new w 60 #[.string s, .string t]
  refine ⟨Nat.le_refl _, by unfold maxLen; omega, fun l hl => ?_, .inr ⟨_, _, rfl, hB.lt, fun i hi => ?_⟩⟩
  · obtain rfl : l = (s, t) := by simpa using hl
    exact ⟨hs, ht⟩
  · obtain rfl : i = 0 := by simpa using hi
    exact ⟨hB.cell 0, hB.cell 1⟩

set_option maxHeartbeats 3200000 in
set_option maxRecDepth 100000 in
theorem labels_any (r : Rul) (a a' : Option Addr) (c c' : Nat) (ls : List Lab) (w : World) (h : RulAt w r a c) (h' : HasLabs w a' c' ls) :
    Calls Tryz.prog 29 #[.agg (rCells r a c), .slice a' ls.length c'] w (LabsE (alabsP r ls).1 (alabsP r ls).2 w) := by
  have HR := Lib.hid (fun W (h : RulAt W r a c) => rulRight_any r a c W h)
  have hb := (Below.refl w.heap.size w).alloc (Nat.le_refl _) (.cells (rCells r a c) 24)
  have hB := Blk.new w 24 (rCells r a c)
  have hA := h.call hb
  have hL := h'.call hb
  have hW := fun V (h1 : HasLabs V a' c' ls) (h2 : HasLabs V a c r.labels) => with_any a' a c' c ls r.labels V h1 h2
  have hW2 := fun V x y (l1 : List Lab) (h1 : HasLabs V x y l1) b o => fun (h2 : HasLabs V b o [(aName, r.name)]) => with_any x b y o l1 [(aName, r.name)] V h1 h2
  have hn := h.2.1
  have HO := Lib.hid (fun W => one_lab W aName r.name (by show 5 ≤ maxLen; unfold maxLen; omega) hn)
  obtain ⟨R, hR⟩ : ∃ R, alabsP r ls = R := ⟨_, rfl⟩
  rw [hR]
  unfold alabsP at hR
  obtain ⟨⟨l1, n1⟩, hP⟩ : ∃ R, withP ls r.labels = R := ⟨_, rfl⟩
  rw [hP] at hR hW
  simp only at hR hW
  have HQ := Lib.hid hR
  have HW := Lib.hid hW
  have HW2 := Lib.hid hW2
  clear hR h h' hW hP hn hW2
  obtain ⟨n, m, k, l, f, p, t, ll⟩ := r
  simp only [rCells] at *
  go_enter Tryz.func29, Tryz.ntmps29
  go_upto_region 1 with fail
  generalize w.alloc (.cells #[.string n, .string m, .int .i64 k, .int .i64 l, .int .i64 f, .int .i64 p, .int .i64 t, .slice a ll.length c] 24) = wx at *
  obtain ⟨c0, c1, c2, c3, c4, c5, c6, c7⟩ := hB.cells8
  cases hr : rulC ⟨n, m, k, l, f, p, t, ll⟩ with
  | false =>
    rw [hr] at HR
    have hq := HQ.out
    rw [hr, if_neg (by simp)] at hq
    subst hq
    clear hr HQ
    go_wp2_with (go_at_call 16; (with_reducible refine (HR.out _ hA).mono ?_); rintro e w2 ⟨rfl, hb2⟩)
    go_ret2
    exact labsE_nil (bthen hb hb2)
  | true =>
    rw [hr] at HR
    have hq := HQ.out
    rw [hr, if_pos rfl] at hq
    clear hr HQ
    by_cases hn1 : n1 = 0
    · subst hn1
      rw [if_pos rfl] at hq
      have HQ := Lib.hid hq
      clear hq
      go_wp2_with (first
        | (go_at_call 16; (with_reducible refine (HR.out _ hA).mono ?_); rintro e w2 ⟨rfl, hb2⟩; have hB2 := hB.call hb2; have hL2 := hL.call hb2; have hA2 := hA.1.call hb2; have hq2 := bthen hb hb2; obtain ⟨d0, d1, d2, d3, d4, d5, d6, d7⟩ := hB2.cells8)
        | (go_at_call 51; (with_reducible refine (HW.out _ hL2 hA2).mono ?_); rintro e w3 ⟨x, y, rfl, hx, hb3⟩; have hB3 := hB2.call hb3; have hq3 := bthen hq2 hb3; obtain ⟨e0, e1, e2, e3, e4, e5, e6, e7⟩ := hB3.cells8)
        | (go_at_call 51; refine (HW2.out _ x y l1 (hx.call ((Below.refl _ _).alloc (Nat.le_refl _) _)) _ _ (HO.out _)).mono ?_; rintro e w4 ⟨x2, y2, rfl, hx2, hb4⟩))
      go_ret2
      rw [← HQ.out]
      exact ⟨_, _, rfl, hx2, bthen hq3 (bthen ((Below.refl _ _).alloc (Nat.le_refl _) _) hb4)⟩
    · rw [if_neg hn1] at hq
      subst hq
      have hne : (n1 != 0) = true := by simpa using hn1
      go_wp2_with (first
        | (go_at_call 16; (with_reducible refine (HR.out _ hA).mono ?_); rintro e w2 ⟨rfl, hb2⟩; have hB2 := hB.call hb2; have hL2 := hL.call hb2; have hA2 := hA.1.call hb2; have hq2 := bthen hb hb2; obtain ⟨d0, d1, d2, d3, d4, d5, d6, d7⟩ := hB2.cells8)
        | (go_at_call 51; (with_reducible refine (HW.out _ hL2 hA2).mono ?_); rintro e w3 ⟨x, y, rfl, hx, hb3⟩; have hB3 := hB2.call hb3; have hq3 := bthen hq2 hb3; obtain ⟨e0, e1, e2, e3, e4, e5, e6, e7⟩ := hB3.cells8))
      go_ret2
      exact labsE_nil hq3
end Go.Proofs.YtdlhmjdjoadioabGreatDoor
/- The contract of the alive of layer 8. -/
namespace Go.Proofs.YtdlhmjdjoadioabGreatDoor
open Go.RowKit

def knownR : Rul := ⟨⟨#[114]⟩, ⟨#[109]⟩, 2, 5, 0, 0, 1, []⟩
theorem known_labs : alabsP knownR [] = ([(aName, ⟨#[114]⟩)], 0) := by decide +kernel
theorem known_f5 : firesC knownR 5 = true := by decide +kernel
theorem known_f4 : firesC knownR 4 = false := by decide +kernel

set_option maxHeartbeats 3200000 in
set_option maxRecDepth 100000 in
theorem alive_any (w : World) : Calls Tryz.prog 11 #[] w (BoolB true w) := by
  have hL : ∀ W : World, RulAt W knownR none 0 := fun W => ⟨HasLabs.nil _ _ _ (by unfold maxLen; omega), by unfold maxLen; decide, by unfold maxLen; decide⟩
  have h1 := fun W => labels_any knownR none none 0 0 [] W (hL W) (HasLabs.nil _ _ _ (by unfold maxLen; omega))
  have h2 : ∀ W, Calls Tryz.prog 30 #[.agg #[.string ⟨#[114]⟩, .string ⟨#[109]⟩, .int .i64 2, .int .i64 5, .int .i64 0, .int .i64 0, .int .i64 1, .slice none 0 0], .int .i64 5] W (BoolB (firesC knownR 5) W) := fun W => fires_any knownR none 0 5 W (hL W)
  have h3 : ∀ W, Calls Tryz.prog 30 #[.agg #[.string ⟨#[114]⟩, .string ⟨#[109]⟩, .int .i64 2, .int .i64 5, .int .i64 0, .int .i64 0, .int .i64 1, .slice none 0 0], .int .i64 4] W (BoolB (firesC knownR 4) W) := fun W => fires_any knownR none 0 4 W (hL W)
  rw [known_labs] at h1
  rw [known_f5] at h2
  rw [known_f4] at h3
  have H1 := Lib.hid h1
  have H2 := Lib.hid h2
  have H3 := Lib.hid h3
  have hb := (Below.refl w.heap.size w).alloc (Nat.le_refl _) (.cells #[.string ⟨#[114]⟩, .string ⟨#[109]⟩, .int .i64 2, .int .i64 5, .int .i64 0, .int .i64 0, .int .i64 1, .slice none 0 0] 24)
  have hB := Blk.new w 24 #[.string ⟨#[114]⟩, .string ⟨#[109]⟩, .int .i64 2, .int .i64 5, .int .i64 0, .int .i64 0, .int .i64 1, .slice none 0 0]
  clear h1 h2 h3 hL
  go_enter Tryz.func11, Tryz.ntmps11
  go_upto_region 2 with fail
  generalize w.alloc (.cells #[.string ⟨#[114]⟩, .string ⟨#[109]⟩, .int .i64 2, .int .i64 5, .int .i64 0, .int .i64 0, .int .i64 1, .slice none 0 0] 24) = wx at *
  obtain ⟨c0, c1, c2, c3, c4, c5, c6, c7⟩ := hB.cells8
  go_upto_region 3 with (go_at_call 29; refine (H1.out _).mono ?_; rintro e w2 ⟨x, y, rfl, hx, hb2⟩)
  obtain ⟨_, _, _, hl⟩ := hx
  rcases hl with h | ⟨b1, o1, rfl, hlt, hcs⟩
  · cases h
  have hcs := (hcs 0 (by decide)).2
  simp only [List.getElem_cons_zero, Nat.zero_mul, Nat.add_zero] at hcs
  have hB2 := hB.call hb2
  obtain ⟨c0, c1, c2, c3, c4, c5, c6, c7⟩ := hB2.cells8
  go_wp2_with (first
    | (go_at_call 30; (with_reducible refine (H2.out _).mono ?_); rintro e w3 ⟨rfl, hb3⟩; obtain ⟨d0, d1, d2, d3, d4, d5, d6, d7⟩ := (hB2.call hb3).cells8; have hcl := cellL hb3 hcs)
    | (go_at_call 30; (with_reducible refine (H3.out _).mono ?_); rintro e w4 ⟨rfl, hb4⟩; have hcm := cellL hb4 hcl))
  go_ret
  exact ⟨rfl, bthen hb (bthen hb2 (bthen hb3 hb4))⟩
end Go.Proofs.YtdlhmjdjoadioabGreatDoor
