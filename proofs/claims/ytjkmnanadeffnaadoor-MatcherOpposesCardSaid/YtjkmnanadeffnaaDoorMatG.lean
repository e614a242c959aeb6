/- The contract of matcher.howOf: a map ranged over, in whatever order. -/
import Derived.Test.YtjkmnanadeffnaaDoorMatC
namespace Go.Proofs.YtjkmnanadeffnaaDoor
open Go.RowKit Go.Maps

def howC (s : Bs) : Int := if s = [61] then 1 else if s = [33, 61] then 2 else if s = [61, 126] then 3 else if s = [33, 126] then 4 else 0
theorem howC_sign (n : Int) (h1 : 1 ≤ n) (h4 : n ≤ 4) : howC (signT n) = n := by
  rcases (by omega : n = 1 ∨ n = 2 ∨ n = 3 ∨ n = 4) with rfl | rfl | rfl | rfl <;> rfl
theorem howC_none (s : Bs) (h : ∀ n : Int, 1 ≤ n → n ≤ 4 → signT n ≠ s) : howC s = 0 := by
  have h1 := h 1 (by omega) (by omega)
  have h2 := h 2 (by omega) (by omega)
  have h3 := h 3 (by omega) (by omega)
  have h4 := h 4 (by omega) (by omega)
  unfold howC
  rw [if_neg (fun e => h1 e.symm), if_neg (fun e => h2 e.symm), if_neg (fun e => h3 e.symm), if_neg (fun e => h4 e.symm)]
theorem howC_some {s : Bs} (h : howC s ≠ 0) : 1 ≤ howC s ∧ howC s ≤ 4 ∧ signT (howC s) = s := by
  unfold howC at h ⊢
  by_cases h1 : s = [61]
  · subst h1; exact ⟨by decide, by decide, rfl⟩
  by_cases h2 : s = [33, 61]
  · subst h2; exact ⟨by decide, by decide, rfl⟩
  by_cases h3 : s = [61, 126]
  · subst h3; exact ⟨by decide, by decide, rfl⟩
  by_cases h4 : s = [33, 126]
  · subst h4; exact ⟨by decide, by decide, rfl⟩
  rw [if_neg h1, if_neg h2, if_neg h3, if_neg h4] at h
  exact absurd rfl h

theorem D4_at {x : Int} {y : DataW Unit} (h : ∀ zd, D4.atKey (.int .i64 x) zd = y) : 1 ≤ x ∧ x ≤ 4 ∧ y = signD (signT x) (mostC x) (onesC x) := by
  rcases signC_cases x with ⟨rfl, e⟩ | ⟨rfl, e⟩ | ⟨rfl, e⟩ | ⟨rfl, e⟩ | ⟨h', e⟩
  · exact ⟨by decide, by decide, (h .nil).symm⟩
  · exact ⟨by decide, by decide, (h .nil).symm⟩
  · exact ⟨by decide, by decide, (h .nil).symm⟩
  · exact ⟨by decide, by decide, (h .nil).symm⟩
  · exfalso
    have n1 : Lit.sameKey (.int .i64 1) (.int .i64 x) = false := decide_eq_false (by omega)
    have n2 : Lit.sameKey (.int .i64 2) (.int .i64 x) = false := decide_eq_false (by omega)
    have n3 : Lit.sameKey (.int .i64 3) (.int .i64 x) = false := decide_eq_false (by omega)
    have n4 : Lit.sameKey (.int .i64 4) (.int .i64 x) = false := decide_eq_false (by omega)
    have hz : ∀ zd, D4.atKey (.int .i64 x) zd = zd := fun zd => by rw [D4_is]; simp [DataW.atKey, List.find?, n1, n2, n3, n4]
    have a1 := (hz .nil).symm.trans (h .nil)
    have a2 := (hz (.lit (.bool true))).symm.trans (h (.lit (.bool true)))
    rw [← a1] at a2
    cases a2

structure SignR where
  t : ByteArray
  n : Int
  o : Bool
/-- the entry at n is still to come, or has another text -/
def Seen (left : Lit → Bool) (s : Bs) : Prop := ∀ n : Int, 1 ≤ n → n ≤ 4 → left (.int .i64 n) = false → signT n ≠ s
theorem Seen.start (s : Bs) : Seen (Maps.has D4) s := by
  intro n h1 h4 h
  rcases (by omega : n = 1 ∨ n = 2 ∨ n = 3 ∨ n = 4) with rfl | rfl | rfl | rfl <;> cases h
theorem Seen.step {left : Lit → Bool} {s : Bs} {x : Int} (h : Seen left s) (hx : signT x ≠ s) : Seen (fun z => left z && !z.sameKey (.int .i64 x)) s := by
  intro n h1 h4 hn
  simp only [Bool.and_eq_false_iff, Bool.not_eq_false'] at hn
  rcases hn with hn | hn
  · exact h n h1 h4 hn
  · have : n = x := by simpa [Lit.sameKey] using hn
    subst this
    exact hx
theorem Seen.done {left : Lit → Bool} {s : Bs} (h : Seen left s) (hl : ∀ kl, left kl = false) : howC s = 0 := howC_none s fun n h1 h4 => h n h1 h4 (hl _)

set_option maxHeartbeats 1600000 in
set_option maxRecDepth 100000 in
theorem howOf_any (s : ByteArray) (w : World) : Calls Tryd.prog 39 #[.string s] w fun e w' => e = .returned (.int .i64 (howC s.data.toList)) ∧ Below w.heap.size w w' := by
  go_enter Tryd.func39, Tryd.ntmps39
  go_wp2_with (first
    | (go_at_call 25; refine (signs_any _).mono ?_; rintro e w2 ⟨rfl, hm, hb2⟩)
    | (at_range; refine wpList_range_own _ rfl _ 55 rfl 3 53 keyI Tryd.underlying55 _ w.heap.size 4 _ rfl hm ?_; intro w0 hrg0 hg0 hs0))
  go_frame
  have hz2 := hb2.size
  have hb0 : Below w.heap.size w w0 := hb2.grown hg0 hz2 (fun k hk => by cases hk)
  go_loopw [3, 4] (fun _ _ wr => ∃ (left : Lit → Bool) (cnt : Nat), wr.ranges Tryd.prog 3 signElem w.heap.size w2.heap.size 4 D4 left cnt ∧ Seen left s.data.toList ∧ Below w.heap.size w wr ∧ w.heap.size ≤ wr.heap.size)
    (fun _ _ wr => wr.rangeLeft w.heap.size w2.heap.size)
  case atStart => exact ⟨_, _, hrg0, Seen.start _, hb0, hb0.size⟩
  case round =>
    obtain ⟨left, cnt, hrg, hse, hb, hz⟩ := hrel
    have HSE := Lib.hid hse
    clear hse
    go_wp2_with (at_next; refine wpList_next_ranges _ rfl _ rfl 3 keyI signElem (Value.int .i64) (fun c : SignR => signV c.t c.n c.o) (fun key kl hkey => by obtain ⟨x, rfl, _⟩ := Maps.keyOf_int_inv Tryd.underlying3 hkey; exact ⟨x, rfl⟩) (fun v y hv => by obtain ⟨t, n, x, rfl, _⟩ := signElem_inv hv; exact ⟨⟨t, n, x⟩, rfl⟩) w.heap.size w2.heap.size 4 _ _ _ rfl hrg ?_ ?_)
    · intro _ hl0
      have hH := HSE.out.done hl0
      have HH := Lib.hid hH
      clear hH
      go_wp2
      go_ret
      exact ⟨by rw [HH.out]; rfl, hb⟩
    · intro x C kl ya yb w1 cnt1 hkx hlx hsx hat hrg1 hlt hg1 hs1 hen
      obtain ⟨t, n, o⟩ := C
      obtain ⟨x', ex, rfl, hwx⟩ := Maps.keyOf_int_inv Tryd.underlying3 hkx
      cases ex
      have hb1 : Below w.heap.size w w1 := hb.grown hg1 hz (fun k hk => by cases hk; exact hz2)
      obtain ⟨x1, x4, hy⟩ := D4_at hat
      have hys := signElem_mk t n o
      have htx : t.data.toList = signT x := by
        have e1 : signElem (signV t n o) = some (signD t.data.toList n o, []) := rfl
        have e2 := e1.symm.trans hsx
        have e3 : signD t.data.toList n o = ya := by
          have := congrArg (Option.map Prod.fst) e2
          simpa using this
        rw [hy] at e3
        simp only [signD, DataW.agg.injEq, List.cons.injEq, DataW.lit.injEq, Lit.string.injEq, and_true] at e3
        exact e3.1
      have HT := Lib.hid htx
      have HX1 := Lib.hid x1
      have HX4 := Lib.hid x4
      have hwx1 := hs1
      simp only [signV] at hen
      clear hat hy hys htx hsx hkx x1 x4
      cases hq : (t.toList == s.toList) with
      | true =>
        have hts : howC s.data.toList = x := by
          have e : t.toList = s.toList := by simpa using hq
          rw [ByteArray.toList_eq, ByteArray.toList_eq] at e
          rw [← e, HT.out]
          exact howC_sign x HX1.out HX4.out
        have HTS := Lib.hid hts
        clear hts
        go_wp2
        go_ret
        exact ⟨by rw [HTS.out]; rfl, hb1.alloc hb1.size _⟩
      | false =>
        have hne : signT x ≠ s.data.toList := by
          intro e
          rw [← HT.out] at e
          have : t.toList = s.toList := by rw [ByteArray.toList_eq, ByteArray.toList_eq, e]
          rw [this] at hq
          simp at hq
        have hse2 := HSE.out.step hne
        have HS2 := Lib.hid hse2
        have hrg2 := fun o => hrg1.alloc o
        clear hne hse2
        go_wp2
        go_roundw
        case rel => exact ⟨_, cnt1, hrg2 _, HS2.out, hb1.alloc hb1.size _, (hb1.alloc hb1.size _).size⟩
        case measure => rw [(hrg2 _).left_eq, hrg.left_eq]; exact hlt
end Go.Proofs.YtjkmnanadeffnaaDoor
