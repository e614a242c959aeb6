/- The contracts of what asks a row of labels: label.entry's order and named, seek, Get, Right. -/
import Derived.Test.YtmhekhilgllciaaGreatLabB0
import Derived.Test.YtmhekhilgllciaaGreatLabs
import Derived.Test.YtmhekhilgllciaaGreatShelf
import Derived.Test.YtmhekhilgllciaaGreatLater
import Derived.Sort.Grow
namespace Go.Proofs.YtmhekhilgllciaaGreat
open Go.RowKit
open Go.WideShapes (bytes_inj)

theorem cellLater {w wx : World} {a : Addr} {v : Value} (hb : Below w.heap.size w wx) (h : w.cell? a = some v) : wx.cell? a = some v := (hb.cell (World.block_lt_of_cell? _ _ h)).trans h
theorem toList_eq_iff (a b : ByteArray) : (a.toList == b.toList) = decide (a = b) := by
  rw [ByteArray.toList_eq, ByteArray.toList_eq, Bool.eq_iff_iff, beq_iff_eq, decide_eq_true_iff]
  exact ⟨fun e => bytes_inj e, fun e => by rw [e]⟩

def IntB (n : Int) (w : World) (e : Ending) (w' : World) : Prop := e = .returned (.int .i64 n) ∧ Below w.heap.size w w'
def BoolB (B : Bool) (w : World) (e : Ending) (w' : World) : Prop := e = .returned (.bool B) ∧ Below w.heap.size w w'
def StrB (s : ByteArray) (w : World) (e : Ending) (w' : World) : Prop := e = .returned (.string s) ∧ Below w.heap.size w w'
def cmpL (a b : Lab) : Int := Lib.compareBytes a.1.data.toList b.1.data.toList
theorem ltL_cmp (a b : Lab) : ltL a b = decide (cmpL a b < 0) := lessB_cmp _ _
theorem ltL_cmp2 (a b : Lab) : ltL a b = !decide (0 ≤ cmpL a b) := by
  rw [ltL_cmp]
  by_cases h : cmpL a b < 0
  · have : ¬ 0 ≤ cmpL a b := by omega
    simp [h, this]
  · have : 0 ≤ cmpL a b := by omega
    simp [h, this]

def OrderPost (a b : Lab) (w : World) (e : Ending) (w' : World) : Prop := e = .returned (.int .i64 (cmpL a b)) ∧ ∃ os, w' = Go.Sort.grow w os
theorem order_any (a b : Lab) (w : World) :
    Calls Tryz.prog 184 #[.agg #[.string a.1, .string a.2], .agg #[.string b.1, .string b.2]] w (OrderPost a b w) := by
  have hc := fun W => Tryz.strings_Compare a.1 b.1 W
  have HC := Lib.hid hc
  clear hc
  go_enter Tryz.func184, Tryz.ntmps184
  go_wp2_with (go_at_call 58; refine (HC.out _).mono ?_; rintro e w2 ⟨rfl, rfl⟩)
  go_ret
  exact ⟨rfl, _, by rw [Go.Sort.alloc_eq_grow, Go.Sort.alloc_eq_grow, Go.Sort.grow_grow]⟩
theorem below_grow (w : World) (os : Array Obj) : Below w.heap.size w (Go.Sort.grow w os) := by
  refine ⟨rfl, rfl, rfl, ?_, ?_⟩
  · simp [Go.Sort.grow]
  · intro k hk
    simp only [Go.Sort.grow]
    rw [Array.getElem?_append_left hk]
theorem orderB_any (a b : Lab) (w : World) :
    Calls Tryz.prog 184 #[.agg #[.string a.1, .string a.2], .agg #[.string b.1, .string b.2]] w (IntB (cmpL a b) w) :=
  (order_any a b w).mono fun e w' ⟨he, os, hw⟩ => ⟨he, by rw [hw]; exact below_grow w os⟩


/-- the first label of a name -/
def getI (ls : List Lab) (s : ByteArray) : Option Nat := ls.findIdx? fun l => decide (l.1 = s)
def getL (ls : List Lab) (s : ByteArray) : ByteArray := match ls.find? fun l => decide (l.1 = s) with | some l => l.2 | none => ⟨#[]⟩
theorem get_cases (ls : List Lab) (s : ByteArray) :
    (∃ j, ∃ hj : j < ls.length, ls[j].1 = s ∧ (∀ k (_h : k < j), (ls[k]'(by omega)).1 ≠ s) ∧ getL ls s = ls[j].2) ∨ ((∀ k (_h : k < ls.length), ls[k].1 ≠ s) ∧ getL ls s = ⟨#[]⟩) := by
  induction ls with
  | nil => exact .inr ⟨fun k hk => absurd hk (by simp), rfl⟩
  | cons l ls ih =>
    by_cases h : l.1 = s
    · exact .inl ⟨0, by simp, h, fun k hk => absurd hk (by omega), by simp [getL, h]⟩
    · have e : getL (l :: ls) s = getL ls s := by simp [getL, h]
      rw [e]
      rcases ih with ⟨j, hj, h1, h2, h3⟩ | ⟨h1, h2⟩
      · refine .inl ⟨j + 1, by simpa using hj, by simpa using h1, fun k hk => ?_, by simpa using h3⟩
        match k, hk with
        | 0, _ => simpa using h
        | k + 1, hk => simpa using h2 k (by omega)
      · refine .inr ⟨fun k hk => ?_, h2⟩
        match k, hk with
        | 0, _ => simpa using h
        | k + 1, hk => simpa using h1 k (by simpa using hk)


/-- where a walk over a set's places ends -/
theorem right_end (ls : List Lab) (hl : ls.length ≤ 8) : ∃ J, J ≤ ls.length ∧ (∀ k (_h : k < J), okAt ls k = true) ∧ (J = ls.length ∧ rightC ls = true ∨ J < ls.length ∧ okAt ls J = false ∧ rightC ls = false) := by
  cases h : rightC ls with
  | true => exact ⟨ls.length, Nat.le_refl _, (rightC_okAt h).2, .inl ⟨rfl, rfl⟩⟩
  | false =>
    obtain ⟨j, hj, hb, ha⟩ := rightC_bad h hl
    exact ⟨j, by omega, ha, .inr ⟨hj, hb, rfl⟩⟩
theorem kept2 {w w1 : World} {p1 p2 : Addr} {v1 v2 : Value} (hb : Below w.heap.size w w1) (h : w.cell? p1 = some v1 ∧ w.cell? p2 = some v2) : w1.cell? p1 = some v1 ∧ w1.cell? p2 = some v2 :=
  ⟨cellLater hb h.1, cellLater hb h.2⟩
theorem kept4 {w w1 : World} {p1 p2 p3 p4 : Addr} {v1 v2 v3 v4 : Value} (hb : Below w.heap.size w w1) (h : w.cell? p1 = some v1 ∧ w.cell? p2 = some v2 ∧ w.cell? p3 = some v3 ∧ w.cell? p4 = some v4) : w1.cell? p1 = some v1 ∧ w1.cell? p2 = some v2 ∧ w1.cell? p3 = some v3 ∧ w1.cell? p4 = some v4 :=
  ⟨cellLater hb h.1, cellLater hb h.2.1, cellLater hb h.2.2.1, cellLater hb h.2.2.2⟩
theorem labs_sizes {ls : List Lab} (h : ∀ l ∈ ls, l.1.size ≤ maxLen ∧ l.2.size ≤ maxLen) (k : Nat) (hk : k < ls.length) : ls[k].1.size ≤ maxLen ∧ ls[k].2.size ≤ maxLen := h _ (List.getElem_mem _)

set_option maxHeartbeats 3200000 in
theorem right_some (b off c : Nat) (ls : List Lab) (w : World) (_h1 : ls.length ≤ c) (_h2 : c ≤ maxLen) (h3 : ∀ l ∈ ls, l.1.size ≤ maxLen ∧ l.2.size ≤ maxLen) (_hb : b < w.heap.size)
    (hcell : ∀ i (h : i < ls.length), w.cell? ⟨b, off + i * 2, none⟩ = some (.string ls[i].1) ∧ w.cell? ⟨b, off + i * 2 + 1, none⟩ = some (.string ls[i].2)) (h8 : ls.length ≤ 8) :
    Calls Tryz.prog 121 #[.slice (some ⟨b, off, none⟩) ls.length c] w (BoolB (rightC ls) w) := by
  unfold maxLen at _h2
  have HC := Lib.hid hcell
  have HM := Lib.hid (labs_sizes h3)
  clear hcell h3
  obtain ⟨J, hJ, hok, hend⟩ := right_end ls h8
  have HOK := Lib.hid hok
  have HE := Lib.hid hend
  clear hok hend
  go_enter Tryz.func121, Tryz.ntmps121
  go_wp2
  go_loopw [10, 3] (fun i _ wr => ∃ k : Nat, k ≤ J ∧ i = .int .i64 k ∧ Below w.heap.size w wr) (fun i _ _ => ls.length - (intOf i).toNat)
  case atStart => exact ⟨0, Nat.zero_le _, rfl, Below.refl _ _⟩
  case round =>
    obtain ⟨k, hk, rfl, hbl⟩ := hrel
    by_cases hkl : k < ls.length
    · have hc1 := cellLater hbl (HC.out k hkl).1
      have hc2 := cellLater hbl (HC.out k hkl).2
      obtain ⟨hm1, hm2⟩ := HM.out k hkl
      have hrl := fun W => rightLabel_any ls[k] W hm1 hm2
      have HRL := Lib.hid hrl
      clear hrl hm1 hm2
      have q1 : (wr.alloc (.cells #[.string ls[k].1, .string ls[k].2] 124)).cell? ⟨wr.heap.size, 0, none⟩ = some (.string ls[k].1) := World.cell?_alloc_mark wr _ _ (0, 0) 0
      have q2 : (wr.alloc (.cells #[.string ls[k].1, .string ls[k].2] 124)).cell? ⟨wr.heap.size, 1, none⟩ = some (.string ls[k].2) := World.cell?_alloc_mark wr _ _ (0, 0) 1
      have hbx : Below w.heap.size w (wr.alloc (.cells #[.string ls[k].1, .string ls[k].2] 124)) := hbl.alloc hbl.size _
      have HQ1 := Lib.hid q1
      have HQ2 := Lib.hid q2
      clear q1 q2
      go_upto_region 6 with fail
      generalize wr.alloc (.cells #[.string ls[k].1, .string ls[k].2] 124) = wx at *
      have q1 := HQ1.out
      have q2 := HQ2.out
      cases hlab : labC ls[k] with
      | false =>
        have hres : rightC ls = false := by
          rcases HE.out with ⟨rfl, hr⟩ | ⟨hj, hq, hr⟩
          · exact absurd ((rightC_iff ls).1 hr).2.1 (fun h => by have := h _ (List.getElem_mem hkl); rw [hlab] at this; cases this)
          · exact hr
        rw [hlab] at HRL
        have HR := Lib.hid hres
        clear hres hlab
        have q1l := fun x => later_cell q1 x
        have q2l := fun x => later_cell q2 x
        refine wp_region_later (by kernel_rfl) (by kernel_rfl) ?_
        repeat (go_big_quiet_step ((go_at_call 183; exact calls_later (HRL.out _))))
        refine wpQuiet_nil ?_
        rintro _ ⟨x, rfl⟩
        have hb2 := hbx.trans ((later_below wx x).mono hbx.size)
        generalize later wx x = w2 at *
        clear q1l q2l q1 q2
        go_wp2
        go_ret
        exact ⟨by rw [HR.out]; rfl, hb2⟩
      | true =>
        rw [hlab] at HRL
        have hg := fun (h : okAt ls k = true) => h
        have hJ0 : k < J ∨ k = J := by omega
        cases k with
        | zero =>
          have hJ1 : 0 < J := by
            rcases HE.out with ⟨he, hr⟩ | ⟨hj, hq, hr⟩
            · omega
            · rcases hJ0 with h | h
              · exact h
              · subst h
                rw [okAt_zero ls hkl, hlab] at hq
                cases hq
          clear hlab hg hJ0
          have q1l := fun x => later_cell q1 x
          have q2l := fun x => later_cell q2 x
          refine wp_region_later (by kernel_rfl) (by kernel_rfl) ?_
          repeat (go_big_quiet_step ((go_at_call 183; exact calls_later (HRL.out _))))
          refine wpQuiet_nil ?_
          rintro _ ⟨x, rfl⟩
          have hb2 := hbx.trans ((later_below wx x).mono hbx.size)
          generalize later wx x = w2 at *
          clear q1l q2l q1 q2
          go_wp2
          go_roundw
          case rel => exact ⟨1, by omega, rfl, hb2⟩
          case measure => simp [intOf]; omega
        | succ m =>
          have hml : m < ls.length := by omega
          have c3 := cellLater hbx (HC.out m hml).1
          have c4 := cellLater hbx (HC.out m hml).2
          have q1l := fun x => later_cell q1 x
          have q2l := fun x => later_cell q2 x
          have c3l := fun x => later_cell c3 x
          have c4l := fun x => later_cell c4 x
          have hor := fun W => orderB_any ls[m] ls[m + 1] W
          have hlt := ltL_cmp2 ls[m] ls[m + 1]
          obtain ⟨n, hn⟩ : ∃ n, cmpL ls[m] ls[m + 1] = n := ⟨_, rfl⟩
          rw [hn] at hor hlt
          have HOR := Lib.hid hor
          have e1 : ((m + 1 : Nat) : Int) = (m : Int) + 1 := by omega
          have e2 : IntKind.i64.wrap ((m : Int) + 1 - 1) = (m : Int) := by rw [IntWalk.i64_in _ (by omega)]; omega
          have e3 : (m : Int) + 1 - 1 = (m : Int) := by omega
          have e4 : (0 : Int) < (m : Int) + 1 := by omega
          clear hg hn hor c3 c4 q1 q2
          by_cases h0 : 0 ≤ n
          · have hres : rightC ls = false := by
              rcases HE.out with ⟨rfl, hr⟩ | ⟨hj, hq, hr⟩
              · have := List.pairwise_iff_getElem.1 ((rightC_iff ls).1 hr).2.2 m (m + 1) hml hkl (by omega)
                rw [hlt] at this
                simp [h0] at this
              · exact hr
            have HR := Lib.hid hres
            clear hres hlab hlt hJ0
            refine wp_region_later (by kernel_rfl) (by kernel_rfl) ?_
            repeat (go_big_quiet_step (first | (go_at_call 183; exact calls_later (HRL.out _)) | (go_at_call 184; exact calls_later (HOR.out _))))
            refine wpQuiet_nil ?_
            rintro _ ⟨x, rfl⟩
            have hb2 := hbx.trans ((later_below wx x).mono hbx.size)
            generalize later wx x = w2 at *
            clear q1l q2l c3l c4l
            go_wp2
            go_ret
            exact ⟨by rw [HR.out]; rfl, hb2⟩
          · have hJ1 : m + 1 < J := by
              rcases HE.out with ⟨he, hr⟩ | ⟨hj, hq, hr⟩
              · omega
              · rcases hJ0 with h | h
                · exact h
                · subst h
                  rw [okAt_succ ls m hkl, hlab, hlt] at hq
                  simp [h0] at hq
            clear hlab hlt hJ0
            refine wp_region_later (by kernel_rfl) (by kernel_rfl) ?_
            repeat (go_big_quiet_step (first | (go_at_call 183; exact calls_later (HRL.out _)) | (go_at_call 184; exact calls_later (HOR.out _))))
            refine wpQuiet_nil ?_
            rintro _ ⟨x, rfl⟩
            have hb2 := hbx.trans ((later_below wx x).mono hbx.size)
            generalize later wx x = w2 at *
            clear q1l q2l c3l c4l e1 e2 e3 e4
            go_wp2
            go_roundw
            case rel => exact ⟨m + 2, by omega, by go_num, hb2⟩
            case measure => simp [intOf]; omega
    · have hR : rightC ls = true := by
        rcases HE.out with ⟨_, hr⟩ | ⟨hj, _, _⟩
        · exact hr
        · omega
      have HR := Lib.hid hR
      clear hR
      go_wp2
      go_ret
      exact ⟨by rw [HR.out]; rfl, hbl⟩

theorem right_any (a : Option Addr) (c : Nat) (ls : List Lab) (w : World) (h : HasLabs w a c ls) : Calls Tryz.prog 121 #[.slice a ls.length c] w (BoolB (rightC ls) w) := by
  obtain ⟨h1, h2, h3, h4⟩ := h
  by_cases h8 : ls.length ≤ 8
  · rcases h4 with rfl | ⟨b, off, rfl, hb, hcell⟩
    · go_enter Tryz.func121, Tryz.ntmps121
      go_wp2
      refine wp_loop_rounds 1 ?_
      rw [rounds_succ]
      go_wp2
      go_ret
      exact ⟨rfl, Below.refl _ _⟩
    · exact right_some b off c ls w h1 h2 h3 hb hcell h8
  · have hR : rightC ls = false := by unfold rightC; simp [h8]
    rw [hR]
    unfold maxLen at h2
    clear hR h3 h4
    go_enter Tryz.func121, Tryz.ntmps121
    go_wp2
    go_ret
    exact ⟨rfl, Below.refl _ _⟩
end Go.Proofs.YtmhekhilgllciaaGreat
