/- What a byte is in memory. -/
import Derived.Test.YtmhekhilgllciaaGreatInfo
import Derived.Test.YtmhekhilgllciaaGreatRows
import Derived.Test.YtmhekhilgllciaaGreatLib
import Derived.BigQuiet
import Derived.Deep.QuietTactic
import Derived.Test.YtmhekhilgllciaaGreatMg4
namespace Go.Proofs.YtmhekhilgllciaaGreat
open Go.RowKit

theorem Tryz.infoB : (Tryz.prog.info? 5).map (fun i => (i.zero, i.size, i.bytes)) = some (some (.int .u8 0), 1, 1) := by kernel_rfl
end Go.Proofs.YtmhekhilgllciaaGreat
/- Plain mathematics for layer 1: a number's bytes, the check of bytes as a function on natural numbers. It speaks of no program. -/
namespace Go.Proofs.YtmhekhilgllciaaGreat

/-- a number's bytes -/
def numB (n : Nat) : List UInt8 :=
  if h : n < 128 then [UInt8.ofNat n] else UInt8.ofNat (n % 128 + 128) :: numB (n / 128)
termination_by n
decreasing_by omega

theorem numB_lt {n : Nat} (h : n < 128) : numB n = [UInt8.ofNat n] := by rw [numB]; simp [h]
theorem numB_ge {n : Nat} (h : 128 ≤ n) : numB n = UInt8.ofNat (n % 128 + 128) :: numB (n / 128) := by
  rw [numB]; simp [show ¬ n < 128 by omega]

theorem numB_pos (n : Nat) : 1 ≤ (numB n).length := by
  rw [numB]; split <;> simp

theorem numB_len (k : Nat) : ∀ n, n < 128 ^ (k + 1) → (numB n).length ≤ k + 1 := by
  induction k with
  | zero => intro n h; rw [numB_lt (by simpa using h)]; simp
  | succ k ih =>
    intro n h
    by_cases hn : n < 128
    · rw [numB_lt hn]; simp
    · rw [numB_ge (by omega)]
      have := ih (n / 128) (by rw [Nat.pow_succ] at h; omega)
      simp; omega
theorem numB_len9 {n : Nat} (h : n < 9223372036854775808) : (numB n).length ≤ 9 := numB_len 8 n (by omega)


/-- what a text's beginning is read as: the number, its bytes, the error -/
def rdF : Nat → Nat → List UInt8 → Nat → Nat × Nat × Nat
  | 0, _, _, _ => (0, 0, 2)
  | _ + 1, _, [], _ => (0, 0, 3)
  | f + 1, i, b :: l, acc => if 128 ≤ b.toNat then rdF f (i + 1) l (acc + (b.toNat - 128) * 2 ^ (7 * i)) else if b.toNat = 0 ∧ 0 < i then (0, 0, 6) else (acc + b.toNat * 2 ^ (7 * i), i + 1, 0)
def rd (l : List UInt8) : Nat × Nat × Nat := rdF 9 0 l 0

theorem rd_bd {i acc b : Nat} (ha : acc < 2 ^ (7 * i)) (hb : b ≤ 127) : acc + b * 2 ^ (7 * i) < 2 ^ (7 * (i + 1)) := by
  have e : 2 ^ (7 * (i + 1)) = 128 * 2 ^ (7 * i) := by rw [show 7 * (i + 1) = 7 * i + 7 by omega, Nat.pow_add]; omega
  have := Nat.mul_le_mul_right (2 ^ (7 * i)) hb
  omega
theorem rd_63 {i x : Nat} (hi : i ≤ 8) (h : x < 2 ^ (7 * (i + 1))) : x ≤ 9223372036854775807 := by
  have := Nat.pow_le_pow_right (n := 2) (by omega) (show 7 * (i + 1) ≤ 63 by omega)
  omega
theorem rd_int {i acc b : Nat} (h : acc + b * 2 ^ (7 * i) ≤ 9223372036854775807) : (acc : Int) + (b : Int) * 2 ^ (7 * i) ≤ 9223372036854775807 ∧ (0 : Int) ≤ (b : Int) * 2 ^ (7 * i) ∧ ((acc + b * 2 ^ (7 * i) : Nat) : Int) = (acc : Int) + (b : Int) * 2 ^ (7 * i) := by
  have e : ((b * 2 ^ (7 * i) : Nat) : Int) = (b : Int) * 2 ^ (7 * i) := by push_cast; rfl
  refine ⟨by omega, by omega, by omega⟩
theorem drop_cons (l : List UInt8) (i : Nat) (h : i < l.length) : l.drop i = l[i] :: l.drop (i + 1) := List.drop_eq_getElem_cons h

/-- the check's step, on numbers of any size -/
def stepC (c : Nat) : Nat := if c % 2 = 1 then (c / 2) ^^^ 3988292384 else c / 2
def stepN : Nat → Nat → Nat
  | 0, c => c
  | k + 1, c => stepC (stepN k c)
def onB (c b : Nat) : Nat := stepN 8 (c ^^^ b)
def crcS (c : Nat) (l : List UInt8) : Nat := l.foldl (fun c b => onB c b.toNat) c
def crcN (l : List UInt8) : Nat := crcS 4294967295 l ^^^ 4294967295

theorem stepC_lt {c : Nat} (h : c < 4294967296) : stepC c < 4294967296 := by
  unfold stepC
  split
  · exact Nat.xor_lt_two_pow (n := 32) (by omega) (by omega)
  · omega
theorem stepN_lt {c : Nat} (k : Nat) (h : c < 4294967296) : stepN k c < 4294967296 := by
  induction k with
  | zero => exact h
  | succ k ih => exact stepC_lt ih
theorem onB_lt {c b : Nat} (h : c < 4294967296) (hb : b < 256) : onB c b < 4294967296 :=
  stepN_lt 8 (Nat.xor_lt_two_pow (n := 32) (by omega) (by omega))
theorem crcS_lt (l : List UInt8) : ∀ {c : Nat}, c < 4294967296 → crcS c l < 4294967296 := by
  induction l with
  | nil => intro c h; exact h
  | cons b l ih => intro c h; exact ih (onB_lt h b.toNat_lt)
theorem crcN_lt (l : List UInt8) : crcN l < 4294967296 := Nat.xor_lt_two_pow (n := 32) (crcS_lt l (by omega)) (by omega)
theorem crcN_nil : crcN [] = 0 := by simp [crcN, crcS]
theorem crcS_app (c : Nat) (a b : List UInt8) : crcS c (a ++ b) = crcS (crcS c a) b := by simp [crcS]
theorem crcS_snoc (c : Nat) (a : List UInt8) (b : UInt8) : crcS c (a ++ [b]) = onB (crcS c a) b.toNat := by simp [crcS]

theorem take_snoc (l : List UInt8) (k : Nat) (h : k < l.length) : l.take (k + 1) = l.take k ++ [l[k]] := by
  rw [List.take_succ_eq_append_getElem h]

/-- the number of a row of digits to the base 128, the lowest first -/
def rdv : List UInt8 → Nat
  | [] => 0
  | b :: l => b.toNat % 128 + 128 * rdv l
theorem rdv_lt (l : List UInt8) : rdv l < 2 ^ (7 * l.length) := by
  induction l with
  | nil => simp [rdv]
  | cons b l ih =>
    rw [rdv, List.length_cons, show 7 * (l.length + 1) = 7 * l.length + 7 by omega, Nat.pow_add]
    omega
theorem rdF_low : ∀ (j f i : Nat) (l : List UInt8) (acc : Nat) (hj : j < l.length), j < f → (∀ k (hk : k < j), 128 ≤ (l[k]'(by omega)).toNat) → l[j].toNat < 128 →
    rdF f i l acc = if l[j].toNat = 0 ∧ 0 < i + j then (0, 0, 6) else (acc + rdv (l.take (j + 1)) * 2 ^ (7 * i), i + j + 1, 0) := by
  intro j
  induction j with
  | zero =>
    intro f i l acc hj hf _ hb
    match l, f, hj, hf with
    | b :: l, f + 1, hj, hf =>
      simp only [List.getElem_cons_zero] at hb
      rw [rdF, if_neg (by omega)]
      simp only [List.getElem_cons_zero, Nat.add_zero]
      split
      · rfl
      · simp [rdv, Nat.mod_eq_of_lt hb]
  | succ j ih =>
    intro f i l acc hj hf hall hb
    match l, f, hj, hf with
    | b :: l, f + 1, hj, hf =>
      simp only [List.getElem_cons_succ] at hb
      have h0 : 128 ≤ b.toNat := hall 0 (by omega)
      rw [rdF, if_pos h0, ih f (i + 1) l _ (by simpa using hj) (by omega) (fun k hk => by have := hall (k + 1) (by omega); simpa using this) hb]
      simp only [List.getElem_cons_succ]
      rw [show i + 1 + j = i + (j + 1) by omega]
      split
      · rfl
      · have hm : b.toNat % 128 = b.toNat - 128 := by have := b.toNat_lt; omega
        rw [List.take_succ_cons, rdv, hm, show 7 * (i + 1) = 7 * i + 7 by omega, Nat.pow_add, Nat.add_mul]
        congr 1
        rw [Nat.add_assoc]
        congr 2
        rw [show (2 : Nat) ^ 7 = 128 by rfl, Nat.mul_comm (2 ^ (7 * i)) 128, ← Nat.mul_assoc, Nat.mul_comm _ 128]
theorem rdF_high : ∀ (f i : Nat) (l : List UInt8) (acc : Nat), (∀ k (hk : k < l.length), k < f → 128 ≤ l[k].toNat) → rdF f i l acc = if f ≤ l.length then (0, 0, 2) else (0, 0, 3) := by
  intro f
  induction f with
  | zero => intro i l acc _; simp [rdF]
  | succ f ih =>
    intro i l acc hall
    match l with
    | [] => simp [rdF]
    | b :: l =>
      have h0 : 128 ≤ b.toNat := hall 0 (by simp) (by omega)
      rw [rdF, if_pos h0, ih (i + 1) l _ (fun k hk hf => by have := hall (k + 1) (by simpa using hk) (by omega); simpa using this)]
      simp

theorem low_or_high (l : List UInt8) : ∀ n : Nat, (∃ j, j < n ∧ ∃ hj : j < l.length, (∀ k (hk : k < j), 128 ≤ (l[k]'(by omega)).toNat) ∧ l[j].toNat < 128) ∨ ∀ k (hk : k < l.length), k < n → 128 ≤ l[k].toNat
  | 0 => .inr fun k _ h => by omega
  | n + 1 => by
    rcases low_or_high l n with ⟨j, h1, h2, h3⟩ | h
    · exact .inl ⟨j, by omega, h2, h3⟩
    · by_cases hn : n < l.length
      · by_cases hb : l[n].toNat < 128
        · exact .inl ⟨n, by omega, hn, fun k hk => h k (by omega) hk, hb⟩
        · exact .inr fun k hk hkn => by
            by_cases e : k = n
            · subst e; omega
            · exact h k hk (by omega)
      · exact .inr fun k hk hkn => h k hk (by omega)
theorem rd_low {l : List UInt8} {j : Nat} (h9 : j < 9) (hj : j < l.length) (hall : ∀ k (hk : k < j), 128 ≤ (l[k]'(by omega)).toNat) (hb : l[j].toNat < 128) :
    rd l = if l[j].toNat = 0 ∧ 0 < j then (0, 0, 6) else (rdv (l.take (j + 1)), j + 1, 0) := by
  rw [rd, rdF_low j 9 0 l 0 hj h9 hall hb]; simp
theorem rd_high {l : List UInt8} (hall : ∀ k (hk : k < l.length), k < 9 → 128 ≤ l[k].toNat) : rd l = if 9 ≤ l.length then (0, 0, 2) else (0, 0, 3) := rdF_high 9 0 l 0 hall
theorem rdv_drop {l : List UInt8} {i : Nat} (h : i < l.length) : rdv (l.drop i) = l[i].toNat % 128 + 128 * rdv (l.drop (i + 1)) := by
  rw [List.drop_eq_getElem_cons h, rdv]
theorem rdv_63 {l : List UInt8} (h : l.length ≤ 9) : rdv l ≤ 9223372036854775807 := by
  have h1 := rdv_lt l
  have := Nat.pow_le_pow_right (n := 2) (by omega) (show 7 * l.length ≤ 63 by omega)
  omega

end Go.Proofs.YtmhekhilgllciaaGreat
/- The contract of frame.Number. -/
namespace Go.Proofs.YtmhekhilgllciaaGreat
open Go.RowKit


set_option maxHeartbeats 800000 in
set_option maxRecDepth 100000 in
theorem number_any (n : Nat) (w : World) (hn : n < 4611686018427387904) :
    Calls Tryz.prog 168 #[.int .i64 n] w fun e w' => e = .returned (.tuple #[.string ⟨(numB n).toArray⟩, .int .i64 0]) ∧ Below w.heap.size w w' := by
  obtain ⟨i0, hi, hz0, hz1, hz2⟩ := info_parts Tryz.infoB
  have hL := numB_len9 (n := n) (by omega)
  go_enter Tryz.func168, Tryz.ntmps168
  go_wp2
  go_loopw [0, 4] (fun a v wr => ∃ (m : Nat) (xs : List UInt8), m ≤ n ∧ a = .int .i64 m ∧ xs ++ numB m = numB n ∧ wr.ownsRow w.heap.size 5 1 v xs.length (bytesV xs) ∧ Below w.heap.size w wr)
    (fun a _ _ => (intOf a).toNat)
  case atStart =>
    exact ⟨n, [], Nat.le_refl _, rfl, rfl, World.ownsRow_nil _ _ _ _, Below.refl _ _⟩
  case round =>
    obtain ⟨m, xs, hm, rfl, hx, hown, hb⟩ := hrel
    have hl : xs.length + (numB m).length ≤ 9 := by rw [← List.length_append, hx]; exact hL
    have hp := numB_pos m
    have HX := Lib.hid hx
    clear hx
    by_cases hlt : 128 ≤ m
    · go_wp2_with (at_builtin; refine wpList_push _ rfl _ _ 174 rfl w.heap.size 5 i0 (.int .u8 0) 1 Tryz.underlying174 hi hz0 hz1 hz2 rfl _ _ _ rfl hown _ rfl rfl ?c1 ?c2 ?c3 ?_)
      case c1 => unfold maxLen; omega
      case c2 => omega
      case c3 => exact hb.size
      intro g c w2 hown2 hg2
      go_wp2
      go_roundw
      case rel =>
        refine ⟨m / 128, xs ++ [UInt8.ofNat (m % 128 + 128)], by omega, by go_num, ?_, ?_, hb.grown hg2 hb.size (fun k hk => (hown.lt k hk).1)⟩
        · rw [← HX.out, numB_ge hlt]; simp
        · rw [← bytesV_push xs (m % 128 + 128) ((m : Int) % 128 + 128) (by omega) (by omega)]; simpa using hown2
      case measure => simp [intOf]; omega
    · go_wp2_with (at_builtin; refine wpList_push _ rfl _ _ 174 rfl w.heap.size 5 i0 (.int .u8 0) 1 Tryz.underlying174 hi hz0 hz1 hz2 rfl _ _ _ rfl hown _ rfl rfl ?c1 ?c2 ?c3 ?_)
      case c1 => unfold maxLen; omega
      case c2 => omega
      case c3 => exact hb.size
      intro g c w2 hown2 hg2
      have hf : xs ++ [UInt8.ofNat m] = numB n := by rw [← HX.out, numB_lt (by omega)]
      have hcv := run_str_own (P := Tryz.prog) (src := 174) (dst := 9) (l := xs ++ [UInt8.ofNat m]) (w := w2) (g := g) (cap := c) (base := w.heap.size) Tryz.underlying174 Tryz.underlying5 Tryz.underlying9
        (by rw [← bytesV_push xs m _ rfl (by omega)]; simpa using hown2)
      rw [List.length_append, List.length_singleton] at hcv
      rw [hf] at hcv
      clear hf
      go_wp2
      go_ret2
      exact ⟨rfl, hb.grown hg2 hb.size (fun k hk => (hown.lt k hk).1)⟩

theorem number_bad (n : Int) (w : World) (hn : n < 0 ∨ 4611686018427387904 ≤ n) :
    Calls Tryz.prog 168 #[.int .i64 n] w fun e w' => e = .returned (.tuple #[.string ⟨#[]⟩, .int .i64 1]) ∧ w = w' := by
  by_cases h0 : n < 0
  · go_enter Tryz.func168, Tryz.ntmps168
    go_wp2
    go_ret2
    exact ⟨rfl, rfl⟩
  · have h1 : 4611686018427387903 < n := by omega
    go_enter Tryz.func168, Tryz.ntmps168
    go_wp2
    go_ret2
    exact ⟨rfl, rfl⟩

end Go.Proofs.YtmhekhilgllciaaGreat
/- The contract of the document's own Number of layer 1. -/
namespace Go.Proofs.YtmhekhilgllciaaGreat
open Go.RowKit

set_option maxHeartbeats 800000 in
set_option maxRecDepth 100000 in
theorem rnumber_any (n : Nat) (w : World) (hn : n < 4611686018427387904) :
    Calls Tryz.prog 139 #[.int .i64 n] w fun e w' => e = .returned (.string ⟨(numB n).toArray⟩) ∧ Below w.heap.size w w' := by
  obtain ⟨i0, hi, hz0, hz1, hz2⟩ := info_parts Tryz.infoB
  have hL := numB_len9 (n := n) (by omega)
  go_enter Tryz.func139, Tryz.ntmps139
  go_wp2
  go_loopw [0, 3] (fun a v wr => ∃ (m : Nat) (xs : List UInt8), m ≤ n ∧ a = .int .i64 m ∧ xs ++ numB m = numB n ∧ wr.ownsRow w.heap.size 5 1 v xs.length (bytesV xs) ∧ Below w.heap.size w wr)
    (fun a _ _ => (intOf a).toNat)
  case atStart =>
    exact ⟨n, [], Nat.le_refl _, rfl, rfl, World.ownsRow_made w #[] 0 (Nat.le_refl _) (by unfold maxLen; omega) (by simp), (Below.refl _ _).alloc (Nat.le_refl _) _⟩
  case round =>
    obtain ⟨m, xs, hm, rfl, hx, hown, hb⟩ := hrel
    have hl : xs.length + (numB m).length ≤ 9 := by rw [← List.length_append, hx]; exact hL
    have hp := numB_pos m
    have HX := Lib.hid hx
    clear hx
    by_cases hlt : 128 ≤ m
    · go_wp2_with (at_builtin; refine wpList_push _ rfl _ _ 174 rfl w.heap.size 5 i0 (.int .u8 0) 1 Tryz.underlying174 hi hz0 hz1 hz2 rfl _ _ _ rfl hown _ rfl rfl ?c1 ?c2 ?c3 ?_)
      case c1 => unfold maxLen; omega
      case c2 => omega
      case c3 => exact hb.size
      intro g c w2 hown2 hg2
      go_wp2
      go_roundw
      case rel =>
        refine ⟨m / 128, xs ++ [UInt8.ofNat (m % 128 + 128)], by omega, by go_num, ?_, ?_, hb.grown hg2 hb.size (fun k hk => (hown.lt k hk).1)⟩
        · rw [← HX.out, numB_ge hlt]; simp
        · rw [← bytesV_push xs (m % 128 + 128) (128 + (m : Int) % 128) (by omega) (by omega)]; simpa using hown2
      case measure => first | (simp [intOf]; done) | (simp [intOf]; omega)
    · go_wp2_with (at_builtin; refine wpList_push _ rfl _ _ 174 rfl w.heap.size 5 i0 (.int .u8 0) 1 Tryz.underlying174 hi hz0 hz1 hz2 rfl _ _ _ rfl hown _ rfl rfl ?c1 ?c2 ?c3 ?_)
      case c1 => unfold maxLen; omega
      case c2 => omega
      case c3 => exact hb.size
      intro g c w2 hown2 hg2
      have hf : xs ++ [UInt8.ofNat m] = numB n := by rw [← HX.out, numB_lt (by omega)]
      have hcv := run_str_own (P := Tryz.prog) (src := 174) (dst := 9) (l := xs ++ [UInt8.ofNat m]) (w := w2) (g := g) (cap := c) (base := w.heap.size) Tryz.underlying174 Tryz.underlying5 Tryz.underlying9
        (by rw [← bytesV_push xs m _ rfl (by omega)]; simpa using hown2)
      rw [List.length_append, List.length_singleton] at hcv
      rw [hf] at hcv
      clear hf
      go_wp2
      go_ret
      exact ⟨rfl, hb.grown hg2 hb.size (fun k hk => (hown.lt k hk).1)⟩

end Go.Proofs.YtmhekhilgllciaaGreat
/- The contracts of what binds texts: frame.Bind, and the document's own May, Bind, Same. -/
namespace Go.Proofs.YtmhekhilgllciaaGreat
open Go.RowKit

theorem owns_call {w w1 : World} {base e size n : Nat} {v : Value} {xs : List Value} (h : w.ownsRow base e size v n xs) (hb : Below w.heap.size w w1) : w1.ownsRow base e size v n xs :=
  h.kept (row := none) ⟨hb.os, hb.tape, hb.output, hb.size, fun k hk _ => hb.block k hk⟩ (by cases v.ownBlock <;> simp)
theorem run_str_any {P : Program} {w : World} {base src dst e : Nat} {v : Value} {l : List UInt8} (hs : P.underlying src = some (.slice e)) (he : P.underlying e = some (.int .u8)) (hd : P.underlying dst = some .string)
    (hown : w.ownsRow base e 1 v l.length (bytesV l)) : (convert src dst v).run P w = .ok (.string ⟨l.toArray⟩) w := by
  rcases hown.2 with ⟨rfl, h0⟩ | ⟨g, cap, cur, rfl, _⟩
  · obtain rfl : l = [] := List.eq_nil_of_length_eq_zero h0
    exact run_convert_bytes_nil w src e hs he 0 0 dst hd
  · exact run_str_own hs he hd hown

theorem src_list {P : Program} {tx : TypeId} (w : World) (hk : P.underlying tx = some .string) (l : List UInt8) : Src P 1 tx (.string ⟨l.toArray⟩) l.length (bytesV l) w := by
  have h := Src.ofString (P := P) w hk ⟨l.toArray⟩
  simpa [byteCells, bytesV, ByteArray.size] using h
theorem src_text {P : Program} {tx : TypeId} (w : World) (hk : P.underlying tx = some .string) (s : ByteArray) : Src P 1 tx (.string s) s.size (bytesV s.data.toList) w :=
  Src.ofString w hk s

/-- texts, bound -/
def bindL (ss : List ByteArray) : List UInt8 := ss.flatMap fun s => numB s.size ++ s.data.toList
theorem bindL_snoc (ss : List ByteArray) (s : ByteArray) : bindL (ss ++ [s]) = bindL ss ++ numB s.size ++ s.data.toList := by simp [bindL]
theorem bindL_take (ss : List ByteArray) (k : Nat) (h : k < ss.length) : bindL (ss.take (k + 1)) = bindL (ss.take k) ++ numB ss[k].size ++ ss[k].data.toList := by
  rw [List.take_succ_eq_append_getElem h, bindL_snoc]
theorem bindL_len (ss : List ByteArray) (hs : ∀ s ∈ ss, s.size ≤ 8200) : (bindL ss).length ≤ ss.length * 8209 := by
  induction ss with
  | nil => simp [bindL]
  | cons s ss ih =>
    have h1 := ih fun x hx => hs x (by simp [hx])
    have h2 := hs s (by simp)
    have h3 := numB_len9 (n := s.size) (by omega)
    have e : bindL (s :: ss) = numB s.size ++ s.data.toList ++ bindL ss := rfl
    have h4 : s.data.toList.length = s.size := by simp
    rw [e, List.length_append, List.length_append, List.length_cons, h4]
    omega

def mayB (ss : List ByteArray) : Bool := decide (ss.length ≤ 512) && ss.all fun s => decide (s.size ≤ 8192)
theorem mayB_true {ss : List ByteArray} (h : mayB ss = true) : ss.length ≤ 512 ∧ ∀ s ∈ ss, s.size ≤ 8192 := by
  simpa [mayB] using h
theorem first_bad (p : ByteArray → Prop) [DecidablePred p] : ∀ (ss : List ByteArray), (¬ ∀ s ∈ ss, p s) → ∃ j, ∃ hj : j < ss.length, ¬ p ss[j] ∧ ∀ k (hk : k < j), p (ss[k]'(by omega))
  | [], h => absurd (fun s hs => by cases hs) h
  | s :: ss, h => by
    by_cases hs : p s
    · obtain ⟨j, hj, hb, ha⟩ := first_bad p ss (fun hall => h fun x hx => by
        rcases List.mem_cons.1 hx with rfl | hx
        · exact hs
        · exact hall x hx)
      refine ⟨j + 1, by simpa using hj, by simpa using hb, fun k hk => ?_⟩
      match k, hk with
      | 0, _ => simpa using hs
      | k + 1, hk => simpa using ha k (by omega)
    · exact ⟨0, by simp, by simpa using hs, fun k hk => by omega⟩
theorem mayB_false {ss : List ByteArray} (h : mayB ss = false) (hl : ss.length ≤ 512) : ∃ j, ∃ hj : j < ss.length, ¬ ss[j].size ≤ 8192 ∧ ∀ k (hk : k < j), (ss[k]'(by omega)).size ≤ 8192 := by
  refine first_bad (fun s => s.size ≤ 8192) ss fun hall => ?_
  have : mayB ss = true := by simpa [mayB] using ⟨hl, hall⟩
  rw [h] at this
  cases this

set_option maxHeartbeats 1600000 in
set_option maxRecDepth 100000 in
theorem bind_some (b off c : Nat) (ss : List ByteArray) (w : World) (_hlc : ss.length ≤ c) (_hcm : c ≤ maxLen) (hb : b < w.heap.size)
    (hcell : ∀ i (h : i < ss.length), w.cell? ⟨b, off + i, none⟩ = some (.string ss[i])) (hl : ss.length ≤ 512) (hsz : ∀ s ∈ ss, s.size ≤ 8192) :
    Calls Tryz.prog 112 #[.slice (some ⟨b, off, none⟩) ss.length c] w fun e w' => e = .returned (.tuple #[.string ⟨(bindL ss).toArray⟩, .int .i64 0]) ∧ Below w.heap.size w w' := by
  obtain ⟨i0, hi, hz0, hz1, hz2⟩ := info_parts Tryz.infoB
  skip
  have HC := Lib.hid hcell
  have HS := Lib.hid hsz
  clear hcell hsz
  go_enter Tryz.func112, Tryz.ntmps112
  go_wp2_with fail
  go_loopw [4, 14] (fun v i wr => ∃ k : Nat, k ≤ ss.length ∧ i = .int .i64 k ∧ wr.ownsRow w.heap.size 5 1 v (bindL (ss.take k)).length (bytesV (bindL (ss.take k))) ∧ Below w.heap.size w wr) (fun _ i _ => ss.length - (intOf i).toNat)
  case atStart => exact ⟨0, Nat.zero_le _, rfl, World.ownsRow_nil _ _ _ _, Below.refl _ _⟩
  case round =>
    obtain ⟨k, hk, rfl, hown, hbl⟩ := hrel
    have hlen := bindL_len (ss.take k) (fun s hs => by have := HS.out s (List.mem_of_mem_take hs); omega)
    rw [List.length_take] at hlen
    by_cases hkL : k < ss.length
    · have hc := (hbl.cell (p := ⟨b, off + k, none⟩) hb).trans (HC.out k (by omega))
      have hs := HS.out ss[k] (List.getElem_mem _)
      have hnl := numB_len9 (n := ss[k].size) (by omega)
      have htk := Lib.hid (bindL_take ss k hkL)
      go_wp2_with (first | (go_at_call 168; refine (number_any ss[k].size _ (by omega)).mono ?_; rintro e w2 ⟨rfl, hb2⟩; have hown2 := owns_call hown hb2) | (at_builtin; refine wpList_append_src _ rfl _ _ 174 9 rfl w.heap.size 5 i0 (.int .u8 0) 1 1 Tryz.underlying174 hi hz0 hz1 hz2 rfl _ _ _ rfl (by assumption) _ _ _ rfl (src_list _ Tryz.underlying9 _) ?c1 ?c2 ?c3 ?_))
      case c1 => unfold maxLen; omega
      case c2 => omega
      case c3 => exact Nat.le_trans hbl.size hb2.size
      intro v3 w3 hown3 hg3
      go_wp2_with (at_builtin; refine wpList_append_src _ rfl _ _ 174 9 rfl w.heap.size 5 i0 (.int .u8 0) 1 1 Tryz.underlying174 hi hz0 hz1 hz2 rfl _ _ _ rfl hown3 _ _ _ rfl (src_text _ Tryz.underlying9 _) ?d1 ?d2 ?d3 ?_)
      case d1 => unfold maxLen; omega
      case d2 => omega
      case d3 => exact Nat.le_trans (Nat.le_trans hbl.size hb2.size) hg3.size
      intro v4 w4 hown4 hg4
      have hbl4 : Below w.heap.size w w4 := ((bthen hbl hb2).grown hg3 (Nat.le_trans hbl.size hb2.size) (fun k hk => (hown2.lt k hk).1)).grown hg4 (Nat.le_trans (Nat.le_trans hbl.size hb2.size) hg3.size) (fun k hk => (hown3.lt k hk).1)
      have hown5 : w4.ownsRow w.heap.size 5 1 v4 (bindL (ss.take (k + 1))).length (bytesV (bindL (ss.take (k + 1)))) := by
        rw [htk.out, bytesV_app, bytesV_app, List.length_append, List.length_append]
        simpa using hown4
      clear hown hown2 hown3 hown4 hg3 hg4 hb2
      go_wp2
      go_roundw
      case rel => exact ⟨k + 1, by omega, by go_num, hown5, hbl4⟩
      case measure => simp [intOf]; omega
    · obtain rfl : k = ss.length := by omega
      rw [List.take_of_length_le (Nat.le_refl _)] at hown
      have hcv := run_str_any (P := Tryz.prog) (src := 174) (dst := 9) Tryz.underlying174 Tryz.underlying5 Tryz.underlying9 hown
      clear hown hlen
      go_wp2
      go_ret2
      exact ⟨rfl, hbl⟩

theorem bind_none (a : Option Addr) (c : Nat) (w : World) :
    Calls Tryz.prog 112 #[.slice a 0 c] w fun e w' => e = .returned (.tuple #[.string ⟨(bindL []).toArray⟩, .int .i64 0]) ∧ Below w.heap.size w w' := by
  have hcv := run_convert_bytes_nil (P := Tryz.prog) w 174 5 Tryz.underlying174 Tryz.underlying5 0 0 9 Tryz.underlying9
  go_enter Tryz.func112, Tryz.ntmps112
  go_wp2
  refine wp_loop_rounds 1 ?_
  rw [rounds_succ]
  go_wp2
  go_ret2
  exact ⟨rfl, Below.refl _ _⟩

theorem bind_ok (a : Option Addr) (c : Nat) (ss : List ByteArray) (w : World) (h : HasStrs w a c ss) (hm : mayB ss = true) :
    Calls Tryz.prog 112 #[.slice a ss.length c] w fun e w' => e = .returned (.tuple #[.string ⟨(bindL ss).toArray⟩, .int .i64 0]) ∧ Below w.heap.size w w' := by
  obtain ⟨hl, hs⟩ := mayB_true hm
  obtain ⟨h1, h2, h3, h4⟩ := h
  rcases h4 with rfl | ⟨b, off, rfl, hb, hc⟩
  · exact bind_none a c w
  · exact bind_some b off c ss w h1 h2 hb hc hl hs

set_option maxHeartbeats 800000 in
set_option maxRecDepth 100000 in
theorem bind_bad (a : Option Addr) (c : Nat) (ss : List ByteArray) (w : World) (h : HasStrs w a c ss) (hm : mayB ss = false) :
    Calls Tryz.prog 112 #[.slice a ss.length c] w fun e w' => e = .returned (.tuple #[.string ⟨#[]⟩, .int .i64 2]) ∧ Below w.heap.size w w' := by
  obtain ⟨h1, h2, h3, h4⟩ := h
  unfold maxLen at h2
  by_cases hl : ss.length ≤ 512
  · obtain ⟨j, hj, hbad, hall⟩ := mayB_false hm hl
    rcases h4 with rfl | ⟨b, off, rfl, hb, hcell⟩
    · cases hj
    · obtain ⟨i0, hi, hz0, hz1, hz2⟩ := info_parts Tryz.infoB
      have HC := Lib.hid hcell
      have HA := Lib.hid hall
      have HM := Lib.hid h3
      clear hcell hall hm h3
      go_enter Tryz.func112, Tryz.ntmps112
      go_wp2_with fail
      go_loopw [4, 14] (fun v i wr => ∃ k : Nat, k ≤ j ∧ i = .int .i64 k ∧ (∃ l : List UInt8, l.length ≤ k * 8209 ∧ wr.ownsRow w.heap.size 5 1 v l.length (bytesV l)) ∧ Below w.heap.size w wr) (fun _ i _ => ss.length - (intOf i).toNat)
      case atStart => exact ⟨0, Nat.zero_le _, rfl, ⟨[], by simp, World.ownsRow_nil _ _ _ _⟩, Below.refl _ _⟩
      case round =>
        obtain ⟨k, hk, rfl, ⟨l, hll, hown⟩, hbl⟩ := hrel
        have hc := (hbl.cell (p := ⟨b, off + k, none⟩) hb).trans (HC.out k (by omega))
        by_cases hkj : k = j
        · subst hkj
          have hs := HM.out ss[k] (List.getElem_mem _)
          unfold maxLen at hs
          go_wp2
          go_ret2
          exact ⟨rfl, hbl⟩
        · have hs := HA.out k (by omega)
          have hnl := numB_len9 (n := ss[k].size) (by omega)
          go_wp2_with (first | (go_at_call 168; refine (number_any ss[k].size _ (by omega)).mono ?_; rintro e w2 ⟨rfl, hb2⟩; have hown2 := owns_call hown hb2) | (at_builtin; refine wpList_append_src _ rfl _ _ 174 9 rfl w.heap.size 5 i0 (.int .u8 0) 1 1 Tryz.underlying174 hi hz0 hz1 hz2 rfl _ _ _ rfl (by assumption) _ _ _ rfl (src_list _ Tryz.underlying9 _) ?c1 ?c2 ?c3 ?_))
          case c1 => unfold maxLen; omega
          case c2 => omega
          case c3 => exact Nat.le_trans hbl.size hb2.size
          intro v3 w3 hown3 hg3
          go_wp2_with (at_builtin; refine wpList_append_src _ rfl _ _ 174 9 rfl w.heap.size 5 i0 (.int .u8 0) 1 1 Tryz.underlying174 hi hz0 hz1 hz2 rfl _ _ _ rfl hown3 _ _ _ rfl (src_text _ Tryz.underlying9 _) ?d1 ?d2 ?d3 ?_)
          case d1 => unfold maxLen; omega
          case d2 => omega
          case d3 => exact Nat.le_trans (Nat.le_trans hbl.size hb2.size) hg3.size
          intro v4 w4 hown4 hg4
          have hbl4 : Below w.heap.size w w4 := ((bthen hbl hb2).grown hg3 (Nat.le_trans hbl.size hb2.size) (fun k hk => (hown2.lt k hk).1)).grown hg4 (Nat.le_trans (Nat.le_trans hbl.size hb2.size) hg3.size) (fun k hk => (hown3.lt k hk).1)
          have hown5 : ∃ l : List UInt8, l.length ≤ (k + 1) * 8209 ∧ w4.ownsRow w.heap.size 5 1 v4 l.length (bytesV l) := by
            refine ⟨l ++ numB ss[k].size ++ ss[k].data.toList, ?_, ?_⟩
            · simp; omega
            · rw [bytesV_app, bytesV_app, List.length_append, List.length_append]
              simpa using hown4
          clear hown hown2 hown3 hown4 hg3 hg4 hb2
          go_wp2
          go_roundw
          case rel => exact ⟨k + 1, by omega, by go_num, hown5, hbl4⟩
          case measure => simp [intOf]; omega
  · clear hm h3 h4
    go_enter Tryz.func112, Tryz.ntmps112
    go_wp2
    go_ret2
    exact ⟨rfl, Below.refl _ _⟩
end Go.Proofs.YtmhekhilgllciaaGreat
/- The contracts of the document's own Bind and Same. -/
namespace Go.Proofs.YtmhekhilgllciaaGreat
open Go.RowKit
open Go.WideShapes (bytes_inj)

theorem data_app (a b : ByteArray) : (a ++ b).data.toList = a.data.toList ++ b.data.toList := by simp [ByteArray.data_append]
theorem size_list (a : ByteArray) : a.size = a.data.toList.length := by simp
theorem ba_of_list {a : ByteArray} {l : List UInt8} (h : a.data.toList = l) : a = ⟨l.toArray⟩ := by
  subst h; rfl

set_option maxHeartbeats 800000 in
set_option maxRecDepth 100000 in
theorem rbind_some (b off c : Nat) (ss : List ByteArray) (w : World) (_hlc : ss.length ≤ c) (_hcm : c ≤ maxLen) (hb : b < w.heap.size)
    (hcell : ∀ i (h : i < ss.length), w.cell? ⟨b, off + i, none⟩ = some (.string ss[i])) (hl : ss.length ≤ 515) (hsz : ∀ s ∈ ss, s.size ≤ 8200) :
    Calls Tryz.prog 100 #[.slice (some ⟨b, off, none⟩) ss.length c] w fun e w' => e = .returned (.string ⟨(bindL ss).toArray⟩) ∧ Below w.heap.size w w' := by
  skip
  have HC := Lib.hid hcell
  have HS := Lib.hid hsz
  clear hcell hsz
  go_enter Tryz.func100, Tryz.ntmps100
  go_wp2_with fail
  go_loopw [3, 8] (fun v i wr => ∃ (k : Nat) (o : ByteArray), k ≤ ss.length ∧ i = .int .i64 k ∧ v = .string o ∧ o.data.toList = bindL (ss.take k) ∧ Below w.heap.size w wr) (fun _ i _ => ss.length - (intOf i).toNat)
  case atStart => exact ⟨0, ⟨#[]⟩, Nat.zero_le _, rfl, rfl, rfl, Below.refl _ _⟩
  case round =>
    obtain ⟨k, o, hk, rfl, rfl, ho, hbl⟩ := hrel
    have hos : o.size ≤ 5000000 := by
      have hlen := bindL_len (ss.take k) (fun s hs => HS.out s (List.mem_of_mem_take hs))
      rw [List.length_take] at hlen
      rw [size_list, ho]; omega
    have HO := Lib.hid ho
    clear ho
    by_cases hkL : k < ss.length
    · have hc := (hbl.cell (p := ⟨b, off + k, none⟩) hb).trans (HC.out k (by omega))
      have hs := HS.out ss[k] (List.getElem_mem _)
      have hnl := numB_len9 (n := ss[k].size) (by omega)
      have htk := Lib.hid (bindL_take ss k hkL)
      have hns : (⟨(numB ss[k].size).toArray⟩ : ByteArray).size ≤ 9 := by rw [size_list]; exact hnl
      obtain ⟨q, hq⟩ : ∃ q : ByteArray, q = ⟨(numB ss[k].size).toArray⟩ := ⟨_, rfl⟩
      have hqd : q.data.toList = numB ss[k].size := by rw [hq]
      have hnum := fun W => rnumber_any ss[k].size W (by omega)
      rw [← hq] at hns hnum
      have HN := Lib.hid hnum
      have HQ := Lib.hid hqd
      have hsum : (o ++ q).size ≤ 5000009 := by rw [ByteArray.size_append]; omega
      clear hnum hq hqd hnl
      go_wp2_with (go_at_call 139; refine (HN.out _).mono ?_; rintro e w2 ⟨rfl, hb2⟩)
      go_roundw
      case rel => exact ⟨k + 1, (o ++ q) ++ ss[k], by omega, by go_num, rfl, by rw [data_app, data_app, HO.out, HQ.out, htk.out], bthen hbl hb2⟩
      case measure => simp [intOf]; omega
    · obtain rfl : k = ss.length := by omega
      go_wp2
      go_ret
      refine ⟨?_, hbl⟩
      have := HO.out
      rw [List.take_of_length_le (Nat.le_refl _)] at this
      rw [← ba_of_list this]
      rfl

theorem rbind_any (a : Option Addr) (c : Nat) (ss : List ByteArray) (w : World) (h : HasStrs w a c ss) (hl : ss.length ≤ 515) (hsz : ∀ s ∈ ss, s.size ≤ 8200) :
    Calls Tryz.prog 100 #[.slice a ss.length c] w fun e w' => e = .returned (.string ⟨(bindL ss).toArray⟩) ∧ Below w.heap.size w w' := by
  obtain ⟨h1, h2, h3, h4⟩ := h
  rcases h4 with rfl | ⟨b, off, rfl, hb, hc⟩
  · go_enter Tryz.func100, Tryz.ntmps100
    go_wp2
    refine wp_loop_rounds 1 ?_
    rw [rounds_succ]
    go_wp2
    go_ret
    exact ⟨rfl, Below.refl _ _⟩
  · exact rbind_some b off c ss w h1 h2 hb hc hl hsz

end Go.Proofs.YtmhekhilgllciaaGreat
/- What frame.Bind answers to whatever row of texts. -/
namespace Go.Proofs.YtmhekhilgllciaaGreat
open Go.RowKit

/-- a row of texts, as what an append is handed -/
theorem src_strs {P : Program} {t e : Nat} {w : World} {a : Option Addr} {c : Nat} {ss : List ByteArray} (hk : P.underlying t = some (.slice e)) (h : HasStrs w a c ss) : Src P 1 t (.slice a ss.length c) ss.length (strsV ss) w := by
  obtain ⟨h1, h2, h3, h4⟩ := h
  rcases h4 with rfl | ⟨b, off, rfl, hb, hc⟩
  · cases a with
    | none => exact Src.ofNil w hk c
    | some a => exact Src.ofSlice w hk a 0 c [] (by simp) (fun j u hu => by simp at hu) (fun u hu => by cases hu)
  · refine Src.ofSlice w hk ⟨b, off, none⟩ ss.length c (strsV ss) (by simp [strsV]) (fun j u hu => ?_) (fun u hu => ?_)
    · have hj : j < ss.length := by
        have := (List.getElem?_eq_some_iff.1 hu).1
        simpa [strsV] using this
      have e0 : (⟨b, off, none⟩ : Addr).add j = ⟨b, off + j, none⟩ := by unfold Addr.add; split <;> simp_all
      rw [e0, hc j hj]
      simpa [strsV, hj] using hu
    · obtain ⟨_, _, rfl⟩ := List.mem_map.1 hu
      rfl

/-- what Bind answers -/
def bindS (ss : List ByteArray) : ByteArray := if mayB ss = true then ⟨(bindL ss).toArray⟩ else ⟨#[]⟩
def bindE (ss : List ByteArray) : Int := if mayB ss = true then 0 else 2
theorem bind_any (a : Option Addr) (c : Nat) (ss : List ByteArray) (w : World) (h : HasStrs w a c ss) :
    Calls Tryz.prog 112 #[.slice a ss.length c] w fun e w' => e = .returned (.tuple #[.string (bindS ss), .int .i64 (bindE ss)]) ∧ Below w.heap.size w w' := by
  cases hm : mayB ss with
  | true =>
    have e1 : bindS ss = ⟨(bindL ss).toArray⟩ := by rw [bindS, if_pos hm]
    have e2 : bindE ss = 0 := by rw [bindE, if_pos hm]
    rw [e1, e2]
    exact bind_ok a c ss w h hm
  | false =>
    have hm' : ¬ mayB ss = true := by rw [hm]; simp
    have e1 : bindS ss = ⟨#[]⟩ := by rw [bindS, if_neg hm']
    have e2 : bindE ss = 2 := by rw [bindE, if_neg hm']
    rw [e1, e2]
    exact bind_bad a c ss w h hm
theorem bindS_size (ss : List ByteArray) (hl : ss.length ≤ 515) (hs : ∀ s ∈ ss, s.size ≤ 8200) : (bindS ss).size ≤ 5000000 := by
  unfold bindS
  split
  · have := bindL_len ss hs
    rw [size_list]; show (bindL ss).length ≤ _; omega
  · exact Nat.zero_le _

end Go.Proofs.YtmhekhilgllciaaGreat
/- The contract of the library's Equal of rows of texts. -/
namespace Go.Proofs.YtmhekhilgllciaaGreat
open Go.RowKit
open Go.WideShapes (bytes_inj)

set_option maxHeartbeats 800000 in
set_option maxRecDepth 100000 in
theorem equalD_some (b off c b' off' c' : Nat) (ss ts : List ByteArray) (w : World) (hlc : ss.length ≤ c) (hcm : c ≤ maxLen) (hlc' : ts.length ≤ c') (_hcm' : c' ≤ maxLen) (hb : b < w.heap.size) (hb' : b' < w.heap.size)
    (hcell : ∀ i (h : i < ss.length), w.cell? ⟨b, off + i, none⟩ = some (.string ss[i])) (hcell' : ∀ i (h : i < ts.length), w.cell? ⟨b', off' + i, none⟩ = some (.string ts[i])) (hl : ss.length = ts.length) :
    Calls Tryz.prog 52 #[.slice (some ⟨b, off, none⟩) ss.length c, .slice (some ⟨b', off', none⟩) ts.length c'] w (SamePost (decide (ss = ts)) w) := by
  unfold maxLen at hcm
  have HC := Lib.hid hcell
  have HC' := Lib.hid hcell'
  have hlen : ((ss.length : Int) != (ts.length : Int)) = false := by rw [hl]; simp
  have hlb : ts.length ≤ ss.length := by omega
  have hlb' : ss.length ≤ ts.length := by omega
  have HL := Lib.hid hl
  clear hcell hcell' hl
  go_enter Tryz.func52, Tryz.ntmps52
  go_wp2
  go_loopw [13] (fun i wr => ∃ k : Nat, k ≤ ss.length ∧ i = .int .i64 k ∧ ss.take k = ts.take k ∧ Below w.heap.size w wr) (fun i _ => ss.length - (intOf i).toNat)
  case atStart => exact ⟨0, Nat.zero_le _, rfl, rfl, Below.refl _ _⟩
  case round =>
    obtain ⟨k, hk, rfl, he, hbl⟩ := hrel
    have HE := Lib.hid he
    clear he
    by_cases hkl : k < ss.length
    · have hc := (hbl.cell (p := ⟨b, off + k, none⟩) hb).trans (HC.out k hkl)
      have hc' := (hbl.cell (p := ⟨b', off' + k, none⟩) hb').trans (HC'.out k (by omega))
      by_cases hq : ss[k] = ts[k]'(by omega)
      · have hq2 : (ss[k].toList == (ts[k]'(by omega)).toList) = true := by rw [hq]; simp
        have htk : ss.take (k + 1) = ts.take (k + 1) := by
          rw [List.take_succ_eq_append_getElem hkl, List.take_succ_eq_append_getElem (by omega), HE.out, hq]
        have HT := Lib.hid htk
        clear htk hq
        go_wp2_with fail
        go_quiet (fail)
        go_wp2
        go_roundw
        case rel => exact ⟨k + 1, by omega, by go_num, HT.out, below_drewN hbl _⟩
        case measure => simp [intOf]; omega
      · have hq2 : (ss[k].toList == (ts[k]'(by omega)).toList) = false := by
          rw [beq_eq_false_iff_ne, ne_eq, ByteArray.toList_eq, ByteArray.toList_eq]
          intro e
          exact hq (bytes_inj e)
        have hf : decide (ss = ts) = false := by
          rw [decide_eq_false_iff_not]
          intro e
          subst e
          exact hq rfl
        have HF := Lib.hid hf
        clear hq hf
        go_wp2_with fail
        go_quiet (fail)
        go_wp2
        go_ret
        rw [HF.out]
        exact ⟨rfl, below_drewN hbl _⟩
    · have ht : decide (ss = ts) = true := by
        have := HE.out
        rw [List.take_of_length_le (by omega), List.take_of_length_le (by omega)] at this
        rw [decide_eq_true_iff]; exact this
      go_wp2
      go_ret
      rw [ht]
      exact ⟨rfl, hbl⟩

theorem equalD_any (a a' : Option Addr) (c c' : Nat) (ss ts : List ByteArray) (w : World) (h : HasStrs w a c ss) (h' : HasStrs w a' c' ts) :
    Calls Tryz.prog 52 #[.slice a ss.length c, .slice a' ts.length c'] w (SamePost (decide (ss = ts)) w) := by
  obtain ⟨h1, h2, h3, h4⟩ := h
  obtain ⟨g1, g2, g3, g4⟩ := h'
  unfold maxLen at h2 g2
  by_cases hl : ss.length = ts.length
  · rcases h4 with rfl | ⟨b, off, rfl, hb, hc⟩
    · obtain rfl : ts = [] := List.eq_nil_of_length_eq_zero hl.symm
      go_enter Tryz.func52, Tryz.ntmps52
      go_wp2
      refine wp_loop_rounds 1 ?_
      rw [rounds_succ]
      go_wp2
      go_ret
      exact ⟨rfl, Below.refl _ _⟩
    · rcases g4 with rfl | ⟨b', off', rfl, hb', hc'⟩
      · obtain rfl : ss = [] := List.eq_nil_of_length_eq_zero hl
        go_enter Tryz.func52, Tryz.ntmps52
        go_wp2
        refine wp_loop_rounds 1 ?_
        rw [rounds_succ]
        go_wp2
        go_ret
        exact ⟨rfl, Below.refl _ _⟩
      · exact equalD_some b off c b' off' c' ss ts w h1 (by unfold maxLen; omega) g1 (by unfold maxLen; omega) hb hb' hc hc' hl
  · have hlen : ((ss.length : Int) != (ts.length : Int)) = true := by rw [bne_iff_ne]; omega
    have hf : decide (ss = ts) = false := by
      rw [decide_eq_false_iff_not]
      intro e
      exact hl (by rw [e])
    rw [hf]
    clear hl hf h3 h4 g3 g4
    go_enter Tryz.func52, Tryz.ntmps52
    go_wp2
    go_ret
    exact ⟨rfl, Below.refl _ _⟩
end Go.Proofs.YtmhekhilgllciaaGreat
/- The contract of routes.likeAlone. -/
namespace Go.Proofs.YtmhekhilgllciaaGreat
open Go.RowKit

/-- two routes are the same, by all but the routes within them -/
def aloneB (a b : Rt) : Prop := a.recv = b.recv ∧ a.ms = b.ms ∧ a.bys = b.bys ∧ a.wait = b.wait ∧ a.every = b.every ∧ a.rep = b.rep ∧ a.mute = b.mute ∧ a.on = b.on
theorem alone_ext (a b : Rt) : a = b ↔ aloneB a b ∧ a.kids = b.kids := by
  obtain ⟨⟩ := a
  obtain ⟨⟩ := b
  simp only [aloneB, Rt.recv, Rt.ms, Rt.bys, Rt.wait, Rt.every, Rt.rep, Rt.mute, Rt.on, Rt.kids, Rt.mk.injEq, and_assoc]
theorem eqB_iff {p : Prop} : eqB p = true ↔ p := by
  constructor
  · intro h
    refine Classical.byContradiction fun e => ?_
    rw [eqB_no e] at h
    cases h
  · exact eqB_yes
theorem eqB_and (p q : Prop) : eqB (p ∧ q) = (eqB p && eqB q) := by
  rw [Bool.eq_iff_iff, eqB_iff, Bool.and_eq_true, eqB_iff, eqB_iff]
theorem eqB_dec (p : Prop) [Decidable p] : eqB p = decide p := by
  rw [Bool.eq_iff_iff, eqB_iff, decide_eq_true_iff]
set_option maxHeartbeats 12800000 in
set_option maxRecDepth 100000 in
theorem likeAlone_any (q p : RtAt) (w : World) (hq : q.own w) (hp : p.own w) : Calls Tryz.prog 105 #[.agg (tCells q), .agg (tCells p)] w (BoolB (eqB (aloneB q.n p.n)) w) := by
  have hb := balR (o := .cells (tCells q) 27) (Below.refl w.heap.size w)
  have hb2 := balR (o := .cells (tCells p) 27) hb
  have hB := (Blk.new w 27 (tCells q)).alloc (.cells (tCells p) 27)
  have hP := nbR w (.cells (tCells q) 27) (tCells p) 27
  have hem := fun W (hW : Below w.heap.size w W) => eqMats_any q.ma p.ma q.mc p.mc q.n.ms p.n.ms W (hq.1.call hW) (hp.1.call hW)
  have heb := fun W (hW : Below w.heap.size w W) => equalD_any q.ba p.ba q.bc p.bc q.n.bys p.n.bys W (hq.2.1.call hW) (hp.2.1.call hW)
  have heu := fun W (hW : Below w.heap.size w W) => equalD_any q.ua p.ua q.uc p.uc q.n.mute p.n.mute W (hq.2.2.1.call hW) (hp.2.2.1.call hW)
  have hR : eqB (aloneB q.n p.n) = (decide (q.n.recv = p.n.recv) && (eqB (q.n.ms = p.n.ms) && (decide (q.n.bys = p.n.bys) && (decide (q.n.wait = p.n.wait) && (decide (q.n.every = p.n.every) && (decide (q.n.rep = p.n.rep) && (decide (q.n.mute = p.n.mute) && decide (q.n.on = p.n.on)))))))) := by
    unfold aloneB
    rw [eqB_and, eqB_and, eqB_and, eqB_and, eqB_and, eqB_and, eqB_and]
    rw [eqB_dec (q.n.recv = p.n.recv), eqB_dec (q.n.bys = p.n.bys), eqB_dec (q.n.wait = p.n.wait), eqB_dec (q.n.every = p.n.every), eqB_dec (q.n.rep = p.n.rep), eqB_dec (q.n.mute = p.n.mute), eqB_dec (q.n.on = p.n.on)]
  rw [hR]
  have f1 := strEq q.n.recv p.n.recv
  have f4 : (q.n.wait == p.n.wait) = decide (q.n.wait = p.n.wait) := by rw [Bool.eq_iff_iff]; simp
  have f5 : (q.n.every == p.n.every) = decide (q.n.every = p.n.every) := by rw [Bool.eq_iff_iff]; simp
  have f6 : (q.n.rep == p.n.rep) = decide (q.n.rep = p.n.rep) := by rw [Bool.eq_iff_iff]; simp
  have f8 : (q.n.on == p.n.on) = decide (q.n.on = p.n.on) := by rw [Bool.eq_iff_iff]; simp
  generalize decide (q.n.recv = p.n.recv) = B1 at *
  generalize eqB (q.n.ms = p.n.ms) = B2 at *
  generalize decide (q.n.bys = p.n.bys) = B3 at *
  generalize decide (q.n.wait = p.n.wait) = B4 at *
  generalize decide (q.n.every = p.n.every) = B5 at *
  generalize decide (q.n.rep = p.n.rep) = B6 at *
  generalize decide (q.n.mute = p.n.mute) = B7 at *
  generalize decide (q.n.on = p.n.on) = B8 at *
  have HEM := Lib.hid hem
  have HEB := Lib.hid heb
  have HEU := Lib.hid heu
  have HB := Lib.hid hb2
  clear hq hp hb hb2 hem heb heu hR
  obtain ⟨n, m1a, m1c, b1a, b1c, u1a, u1c, k1a, k1c⟩ := q
  obtain ⟨m, m2a, m2c, b2a, b2c, u2a, u2c, k2a, k2c⟩ := p
  simp only [tCells] at *
  go_enter Tryz.func105, Tryz.ntmps105
  go_upto_region 1 with fail
  obtain ⟨g, hg⟩ : ∃ g, w.heap.size = g := ⟨_, rfl⟩
  generalize (w.alloc (.cells #[.string n.recv, .slice m1a n.ms.length m1c, .slice b1a n.bys.length b1c, .int .i64 n.wait, .int .i64 n.every, .int .i64 n.rep, .slice u1a n.mute.length u1c, .bool n.on, .slice k1a n.kids.length k1c] 27)).alloc (.cells #[.string m.recv, .slice m2a m.ms.length m2c, .slice b2a m.bys.length b2c, .int .i64 m.wait, .int .i64 m.every, .int .i64 m.rep, .slice u2a m.mute.length u2c, .bool m.on, .slice k2a m.kids.length k2c] 27) = wx at *
  rw [hg] at hB hP ⊢
  clear hg
  have HBQ := Lib.hid (fun W (hW : Below wx.heap.size wx W) => (hB.call hW).cells9)
  have HBP := Lib.hid (fun W (hW : Below wx.heap.size wx W) => (hP.call hW).cells9)
  obtain ⟨c0, c1, c2, c3, c4, c5, c6, c7, c8⟩ := hB.cells9
  obtain ⟨d0, d1, d2, d3, d4, d5, d6, d7, d8⟩ := hP.cells9
  clear hB hP
  cases B1
  case false =>
    go_wp2_with fail
    go_ret
    exact ⟨rfl, HB.out⟩
  cases B2
  case false =>
    go_wp2_with (go_at_call 68; refine (HEM.out _ HB.out).mono ?_; rintro e w2 ⟨rfl, hb2⟩; obtain ⟨x0, x1, x2, x3, x4, x5, x6, x7, x8⟩ := HBQ.out _ hb2; obtain ⟨y0, y1, y2, y3, y4, y5, y6, y7, y8⟩ := HBP.out _ hb2)
    go_ret
    exact ⟨rfl, bthen HB.out hb2⟩
  cases B3
  case false =>
    go_wp2_with (first
      | (go_at_call 68; refine (HEM.out _ HB.out).mono ?_; rintro e w2 ⟨rfl, hb2⟩; obtain ⟨x0, x1, x2, x3, x4, x5, x6, x7, x8⟩ := HBQ.out _ hb2; obtain ⟨y0, y1, y2, y3, y4, y5, y6, y7, y8⟩ := HBP.out _ hb2)
      | (go_at_call 52; (with_reducible refine (HEB.out w2 (bthen HB.out hb2)).mono ?_); rintro e w3 ⟨rfl, hb3⟩; obtain ⟨x0, x1, x2, x3, x4, x5, x6, x7, x8⟩ := HBQ.out _ (bthen hb2 hb3); obtain ⟨y0, y1, y2, y3, y4, y5, y6, y7, y8⟩ := HBP.out _ (bthen hb2 hb3)))
    go_ret
    exact ⟨rfl, bthen HB.out (bthen hb2 hb3)⟩
  cases B4
  case false =>
    go_wp2_with (first
      | (go_at_call 68; refine (HEM.out _ HB.out).mono ?_; rintro e w2 ⟨rfl, hb2⟩; obtain ⟨x0, x1, x2, x3, x4, x5, x6, x7, x8⟩ := HBQ.out _ hb2; obtain ⟨y0, y1, y2, y3, y4, y5, y6, y7, y8⟩ := HBP.out _ hb2)
      | (go_at_call 52; (with_reducible refine (HEB.out w2 (bthen HB.out hb2)).mono ?_); rintro e w3 ⟨rfl, hb3⟩; obtain ⟨x0, x1, x2, x3, x4, x5, x6, x7, x8⟩ := HBQ.out _ (bthen hb2 hb3); obtain ⟨y0, y1, y2, y3, y4, y5, y6, y7, y8⟩ := HBP.out _ (bthen hb2 hb3)))
    go_ret
    exact ⟨rfl, bthen HB.out (bthen hb2 hb3)⟩
  cases B5
  case false =>
    go_wp2_with (first
      | (go_at_call 68; refine (HEM.out _ HB.out).mono ?_; rintro e w2 ⟨rfl, hb2⟩; obtain ⟨x0, x1, x2, x3, x4, x5, x6, x7, x8⟩ := HBQ.out _ hb2; obtain ⟨y0, y1, y2, y3, y4, y5, y6, y7, y8⟩ := HBP.out _ hb2)
      | (go_at_call 52; (with_reducible refine (HEB.out w2 (bthen HB.out hb2)).mono ?_); rintro e w3 ⟨rfl, hb3⟩; obtain ⟨x0, x1, x2, x3, x4, x5, x6, x7, x8⟩ := HBQ.out _ (bthen hb2 hb3); obtain ⟨y0, y1, y2, y3, y4, y5, y6, y7, y8⟩ := HBP.out _ (bthen hb2 hb3)))
    go_ret
    exact ⟨rfl, bthen HB.out (bthen hb2 hb3)⟩
  cases B6
  case false =>
    go_wp2_with (first
      | (go_at_call 68; refine (HEM.out _ HB.out).mono ?_; rintro e w2 ⟨rfl, hb2⟩; obtain ⟨x0, x1, x2, x3, x4, x5, x6, x7, x8⟩ := HBQ.out _ hb2; obtain ⟨y0, y1, y2, y3, y4, y5, y6, y7, y8⟩ := HBP.out _ hb2)
      | (go_at_call 52; (with_reducible refine (HEB.out w2 (bthen HB.out hb2)).mono ?_); rintro e w3 ⟨rfl, hb3⟩; obtain ⟨x0, x1, x2, x3, x4, x5, x6, x7, x8⟩ := HBQ.out _ (bthen hb2 hb3); obtain ⟨y0, y1, y2, y3, y4, y5, y6, y7, y8⟩ := HBP.out _ (bthen hb2 hb3)))
    go_ret
    exact ⟨rfl, bthen HB.out (bthen hb2 hb3)⟩
  cases B7
  case false =>
    go_wp2_with (first
      | (go_at_call 68; refine (HEM.out _ HB.out).mono ?_; rintro e w2 ⟨rfl, hb2⟩; obtain ⟨x0, x1, x2, x3, x4, x5, x6, x7, x8⟩ := HBQ.out _ hb2; obtain ⟨y0, y1, y2, y3, y4, y5, y6, y7, y8⟩ := HBP.out _ hb2)
      | (go_at_call 52; (with_reducible refine (HEB.out w2 (bthen HB.out hb2)).mono ?_); rintro e w3 ⟨rfl, hb3⟩; obtain ⟨x0, x1, x2, x3, x4, x5, x6, x7, x8⟩ := HBQ.out _ (bthen hb2 hb3); obtain ⟨y0, y1, y2, y3, y4, y5, y6, y7, y8⟩ := HBP.out _ (bthen hb2 hb3))
      | (go_at_call 52; (with_reducible refine (HEU.out w3 (bthen HB.out (bthen hb2 hb3))).mono ?_); rintro e w4 ⟨rfl, hb4⟩; obtain ⟨x0, x1, x2, x3, x4, x5, x6, x7, x8⟩ := HBQ.out _ (bthen hb2 (bthen hb3 hb4)); obtain ⟨y0, y1, y2, y3, y4, y5, y6, y7, y8⟩ := HBP.out _ (bthen hb2 (bthen hb3 hb4))))
    go_ret
    exact ⟨rfl, bthen HB.out (bthen hb2 (bthen hb3 hb4))⟩
  cases B8
  all_goals
    go_wp2_with (first
      | (go_at_call 68; refine (HEM.out _ HB.out).mono ?_; rintro e w2 ⟨rfl, hb2⟩; obtain ⟨x0, x1, x2, x3, x4, x5, x6, x7, x8⟩ := HBQ.out _ hb2; obtain ⟨y0, y1, y2, y3, y4, y5, y6, y7, y8⟩ := HBP.out _ hb2)
      | (go_at_call 52; (with_reducible refine (HEB.out w2 (bthen HB.out hb2)).mono ?_); rintro e w3 ⟨rfl, hb3⟩; obtain ⟨x0, x1, x2, x3, x4, x5, x6, x7, x8⟩ := HBQ.out _ (bthen hb2 hb3); obtain ⟨y0, y1, y2, y3, y4, y5, y6, y7, y8⟩ := HBP.out _ (bthen hb2 hb3))
      | (go_at_call 52; (with_reducible refine (HEU.out w3 (bthen HB.out (bthen hb2 hb3))).mono ?_); rintro e w4 ⟨rfl, hb4⟩; obtain ⟨x0, x1, x2, x3, x4, x5, x6, x7, x8⟩ := HBQ.out _ (bthen hb2 (bthen hb3 hb4)); obtain ⟨y0, y1, y2, y3, y4, y5, y6, y7, y8⟩ := HBP.out _ (bthen hb2 (bthen hb3 hb4))))
    go_ret
    exact ⟨rfl, bthen HB.out (bthen hb2 (bthen hb3 hb4))⟩
end Go.Proofs.YtmhekhilgllciaaGreat
