/- The contract of the document's own Text of layer 7. -/
import Derived.Test.YtekcmgajjbdmgabDoorHrsR
import Derived.Test.YtekcmgajjbdmgabDoorHrsG
namespace Go.Proofs.YtekcmgajjbdmgabDoor
open Go.RowKit

def outD (d : Nat) : Nat → Bs
  | 0 => []
  | k + 1 => if hasT d k then (if outD d k = [] then nameT k else (outD d k ++ [44]) ++ nameT k) else outD d k
theorem outD_days : ∀ d, d < 128 → outD d 7 = daysT d := by decide +kernel
theorem nameT_len (k : Nat) (h : k < 7) : (nameT k).length = 3 := by
  have h : k = 0 ∨ k = 1 ∨ k = 2 ∨ k = 3 ∨ k = 4 ∨ k = 5 ∨ k = 6 := by omega
  rcases h with rfl | rfl | rfl | rfl | rfl | rfl | rfl <;> rfl
theorem outD_len (d : Nat) : ∀ k, k ≤ 7 → (outD d k).length ≤ 4 * k := by
  intro k
  induction k with
  | zero => intro _; exact Nat.le_refl _
  | succ k ih =>
    intro hk
    have h1 := ih (by omega)
    have h2 := nameT_len k (by omega)
    unfold outD
    split
    · split
      · omega
      · simp only [List.length_append, List.length_cons, List.length_nil]; omega
    · omega

set_option maxHeartbeats 3200000 in
set_option maxRecDepth 100000 in
theorem rText_any (n : ByteArray) (d f t : Nat) (w : World) (hd : d < 128) (hf : f < 1441) (ht : t < 1441) :
    Calls Tryd.prog 22 #[.agg #[.string n, .int .i64 (d : Int), .int .i64 (f : Int), .int .i64 (t : Int)]] w (StrW (textT d f t) w) := by
  have HS := Lib.hid (fun k (hk : k < 7) => fun W => rSet_any d k W hd hk)
  have HK := Lib.hid (fun W => rClock_any f W hf)
  have HK2 := Lib.hid (fun W => rClock_any t W ht)
  have hk0 := (Blk.new w 33 #[.string n, .int .i64 (d : Int), .int .i64 (f : Int), .int .i64 (t : Int)]).alloc (.cells #[.string ⟨#[109, 111, 110]⟩, .string ⟨#[116, 117, 101]⟩, .string ⟨#[119, 101, 100]⟩, .string ⟨#[116, 104, 117]⟩, .string ⟨#[102, 114, 105]⟩, .string ⟨#[115, 97, 116]⟩, .string ⟨#[115, 117, 110]⟩] 9)
  have hk1 := Blk.new (w.alloc (.cells #[.string n, .int .i64 (d : Int), .int .i64 (f : Int), .int .i64 (t : Int)] 33)) 9 #[.string ⟨#[109, 111, 110]⟩, .string ⟨#[116, 117, 101]⟩, .string ⟨#[119, 101, 100]⟩, .string ⟨#[116, 104, 117]⟩, .string ⟨#[102, 114, 105]⟩, .string ⟨#[115, 97, 116]⟩, .string ⟨#[115, 117, 110]⟩]
  have hb0 := ((Below.refl w.heap.size w).alloc (Nat.le_refl _) (.cells #[.string n, .int .i64 (d : Int), .int .i64 (f : Int), .int .i64 (t : Int)] 33)).alloc (by simp) (.cells #[.string ⟨#[109, 111, 110]⟩, .string ⟨#[116, 117, 101]⟩, .string ⟨#[119, 101, 100]⟩, .string ⟨#[116, 104, 117]⟩, .string ⟨#[102, 114, 105]⟩, .string ⟨#[115, 97, 116]⟩, .string ⟨#[115, 117, 110]⟩] 9)
  rw [show (w.alloc (.cells #[.string n, .int .i64 (d : Int), .int .i64 (f : Int), .int .i64 (t : Int)] 33)).heap.size = w.heap.size + 1 by simp] at hk1
  have hrow : ∀ k, k < 7 → ((w.alloc (.cells #[.string n, .int .i64 (d : Int), .int .i64 (f : Int), .int .i64 (t : Int)] 33)).alloc (.cells #[.string ⟨#[109, 111, 110]⟩, .string ⟨#[116, 117, 101]⟩, .string ⟨#[119, 101, 100]⟩, .string ⟨#[116, 104, 117]⟩, .string ⟨#[102, 114, 105]⟩, .string ⟨#[115, 97, 116]⟩, .string ⟨#[115, 117, 110]⟩] 9)).cell? ⟨w.heap.size + 1, k, none⟩ = some (.string (nameB k)) := fun k hk => by
    rw [hk1.cell k]
    have h : k = 0 ∨ k = 1 ∨ k = 2 ∨ k = 3 ∨ k = 4 ∨ k = 5 ∨ k = 6 := by omega
    rcases h with rfl | rfl | rfl | rfl | rfl | rfl | rfl <;> rfl
  have HROW := Lib.hid hrow
  have hc4 := hk0.cells4
  have HC4 := Lib.hid hc4
  have HB0 := Lib.hid hb0
  clear hk0 hk1 hb0 hrow hc4
  go_enter Tryd.func22, Tryd.ntmps22
  go_upto_region 4 with fail
  generalize ((w.alloc (.cells #[.string n, .int .i64 (d : Int), .int .i64 (f : Int), .int .i64 (t : Int)] 33)).alloc (.cells #[.string ⟨#[109, 111, 110]⟩, .string ⟨#[116, 117, 101]⟩, .string ⟨#[119, 101, 100]⟩, .string ⟨#[116, 104, 117]⟩, .string ⟨#[102, 114, 105]⟩, .string ⟨#[115, 97, 116]⟩, .string ⟨#[115, 117, 110]⟩] 9)) = wx at *
  go_loopg [5, 3] 7 (fun gg iv u wr => ∃ (k : Nat) (S : ByteArray), u = .string S ∧ k + gg = 7 ∧ iv = .int .i64 (k : Int) ∧ S.data.toList = outD d k ∧ wx = wr)
  case atStart => exact ⟨0, ⟨#[]⟩, rfl, rfl, rfl, rfl, rfl⟩
  case round =>
    obtain ⟨k, S, rfl, hkg, rfl, hS, rfl⟩ := hrel
    obtain ⟨c0, c1, c2, c3⟩ := HC4.out
    have hSl : S.size ≤ 28 := by
      have h1 := outD_len d k (by omega)
      rw [← hS, lenB] at h1
      omega
    cases gk with
    | zero =>
      obtain rfl : k = 7 := by omega
      rw [outD_days d hd] at hS
      have hfin : bytA (textT d f t) = S ++ ⟨#[32]⟩ ++ bytA (clockT f) ++ ⟨#[45]⟩ ++ bytA (clockT t) := by
        have e : S = bytA (daysT d) := by apply bytes_ext; rw [hS, bytA_list]
        rw [e]
        unfold textT
        simp only [bytA_app, ByteArray.append_assoc]
        rfl
      obtain ⟨-, -, fl⟩ := clock_back f hf
      obtain ⟨-, -, tl⟩ := clock_back t ht
      have s2 := bytA_size (clockT f)
      have s3 := bytA_size (clockT t)
      have hK := fun xq => calls_later (HK.out (later wx xq))
      have hK2 := fun xq => calls_later (HK2.out (later wx xq))
      have HF := Lib.hid hfin
      clear hfin hS
      generalize bytA (clockT f) = Y at *
      generalize bytA (clockT t) = Z at *
      have p1 : ¬ 9223372036854775807 < S.size + 1 := by omega
      have p2 : ¬ 9223372036854775807 < S.size + 1 + Y.size := by omega
      have p3 : ¬ 9223372036854775807 < S.size + 1 + Y.size + 1 := by omega
      have p4 : ¬ 9223372036854775807 < S.size + 1 + Y.size + 1 + Z.size := by omega
      have HKK := Lib.hid hK
      have HKK2 := Lib.hid hK2
      have q1 := fun xq => later_cell c0 xq
      have q2 := fun xq => later_cell c1 xq
      have q3 := fun xq => later_cell c2 xq
      have q4 := fun xq => later_cell c3 xq
      clear s2 s3 fl tl hK hK2 HK HK2 c0 c1 c2 c3 hSl
      go_upto_region 10 with fail
      refine wp_region_later (by kernel_rfl) (by kernel_rfl) ?_
      repeat (go_big_quiet_step ((go_at_call 42; first | (with_reducible exact HKK.out _) | (with_reducible exact HKK2.out _))))
      refine wpQuiet_nil ?_
      rintro _ ⟨xq, rfl⟩
      have hbx := bthen HB0.out (later_below wx xq)
      clear q1 q2 q3 q4 HKK HKK2
      generalize later wx xq = w5 at *
      go_wp2_with fail
      go_ret
      exact ⟨by rw [HF.out]; rfl, hbx⟩
    | succ g =>
      have hk : k < 7 := by omega
      have hset := HS.out k hk
      have hrow := HROW.out k hk
      have hns : outD d (k + 1) = if hasT d k then (if outD d k = [] then nameT k else (outD d k ++ [44]) ++ nameT k) else outD d k := rfl
      have hX3 : (nameB k).size = 3 := by rw [show (nameB k).size = (nameT k).length from bytA_size _, nameT_len k hk]
      have hXl : (nameB k).data.toList = nameT k := bytA_list _
      generalize nameB k = X at *
      cases hc : hasT d k with
      | false =>
        rw [hc] at hset hns
        rw [if_neg (by simp), ← hS] at hns
        have HNS := Lib.hid hns
        clear hns hc hS hXl hX3 hSl
        go_wp2_with (go_at_call 41; (with_reducible refine (hset _).mono ?_); rintro e w3 ⟨rfl, rfl⟩)
        go_roundg g
        case measure => omega
        case rel => exact ⟨k + 1, S, rfl, by omega, by go_num, HNS.out.symm, rfl⟩
      | true =>
        rw [hc] at hset hns
        rw [if_pos rfl] at hns
        by_cases he : outD d k = []
        · rw [if_pos he, ← hXl] at hns
          obtain rfl : S = ⟨#[]⟩ := by apply bytes_ext; rw [hS, he]
          have HNS := Lib.hid hns
          have p1 : ¬ 9223372036854775807 < X.size := by omega
          clear hns hc hS hXl he hSl
          go_wp2_with (go_at_call 41; (with_reducible refine (hset _).mono ?_); rintro e w3 ⟨rfl, rfl⟩)
          go_roundg g
          case measure => omega
          case rel => exact ⟨k + 1, _, rfl, by omega, by go_num, by rw [HNS.out]; simp [ByteArray.data_append], rfl⟩
        · rw [if_neg he, ← hS, ← hXl] at hns
          have hne : ¬ S = ⟨#[]⟩ := by rintro rfl; exact he hS.symm
          have hne2 : (S.toList == (⟨#[]⟩ : ByteArray).toList) = false := by rw [strEq, decide_eq_false_iff_not]; exact hne
          have hne3 : S.toList.isEmpty = false := by rw [ByteArray.toList_eq, hS]; exact List.isEmpty_eq_false_iff.2 he
          have HNS := Lib.hid hns
          have p1 : ¬ 9223372036854775807 < S.size + 1 := by omega
          have p2 : ¬ 9223372036854775807 < S.size + 1 + X.size := by omega
          clear hns hc hS hXl he hSl hX3
          go_wp2_with (go_at_call 41; (with_reducible refine (hset _).mono ?_); rintro e w3 ⟨rfl, rfl⟩)
          go_roundg g
          case measure => omega
          case rel => exact ⟨k + 1, _, rfl, by omega, by go_num, by rw [HNS.out]; simp [ByteArray.data_append], rfl⟩
end Go.Proofs.YtekcmgajjbdmgabDoor
