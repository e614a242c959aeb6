/- Plain mathematics for layer 2: the sum of bytes (FIPS 180-4) on natural numbers. It speaks of no program. -/
import Derived.Test.YtmmpnkcfekhkhaaDoorMath
namespace Go.Proofs.YtmmpnkcfekhkhaaDoor

def add2 (a b : Nat) : Nat := (a + b) % 4294967296
def rotN (x n : Nat) : Nat := x / 2 ^ n + x % 2 ^ n * 2 ^ (32 - n)
def sg0 (x : Nat) : Nat := (rotN x 7 ^^^ rotN x 18) ^^^ x / 8
def sg1 (x : Nat) : Nat := (rotN x 17 ^^^ rotN x 19) ^^^ x / 1024
def bg0 (x : Nat) : Nat := (rotN x 2 ^^^ rotN x 13) ^^^ rotN x 22
def bg1 (x : Nat) : Nat := (rotN x 6 ^^^ rotN x 11) ^^^ rotN x 25
def chN (e f g : Nat) : Nat := (e &&& f) ^^^ ((4294967295 - e) &&& g)
def maN (a b c : Nat) : Nat := ((a &&& b) ^^^ (a &&& c)) ^^^ (b &&& c)
def t1N (e f g h k w : Nat) : Nat := add2 (add2 (add2 (add2 h (bg1 e)) (chN e f g)) k) w
def t2N (a b c : Nat) : Nat := add2 (bg0 a) (maN a b c)

theorem add2_lt (a b : Nat) : add2 a b < 4294967296 := Nat.mod_lt _ (by omega)
theorem rotN_lt {x n : Nat} (hn : n ≤ 32) (hx : x < 4294967296) : rotN x n < 4294967296 := by
  unfold rotN
  have h1 : x / 2 ^ n < 2 ^ (32 - n) := by
    rw [Nat.div_lt_iff_lt_mul (Nat.two_pow_pos _), ← Nat.pow_add, show 32 - n + n = 32 by omega]; omega
  have h2 : x % 2 ^ n + 1 ≤ 2 ^ n := Nat.mod_lt _ (Nat.two_pow_pos _)
  have h3 := Nat.mul_le_mul_right (2 ^ (32 - n)) h2
  rw [← Nat.pow_add, show n + (32 - n) = 32 by omega, Nat.add_mul] at h3
  omega
theorem xor_lt {a b : Nat} (ha : a < 4294967296) (hb : b < 4294967296) : a ^^^ b < 4294967296 := Nat.xor_lt_two_pow (n := 32) ha hb
theorem and_lt {a b : Nat} (ha : a < 4294967296) : a &&& b < 4294967296 := Nat.lt_of_le_of_lt Nat.and_le_left ha
theorem sg0_lt {x : Nat} (h : x < 4294967296) : sg0 x < 4294967296 := xor_lt (xor_lt (rotN_lt (by omega) h) (rotN_lt (by omega) h)) (by omega)
theorem sg1_lt {x : Nat} (h : x < 4294967296) : sg1 x < 4294967296 := xor_lt (xor_lt (rotN_lt (by omega) h) (rotN_lt (by omega) h)) (by omega)
theorem bg0_lt {x : Nat} (h : x < 4294967296) : bg0 x < 4294967296 := xor_lt (xor_lt (rotN_lt (by omega) h) (rotN_lt (by omega) h)) (rotN_lt (by omega) h)
theorem bg1_lt {x : Nat} (h : x < 4294967296) : bg1 x < 4294967296 := xor_lt (xor_lt (rotN_lt (by omega) h) (rotN_lt (by omega) h)) (rotN_lt (by omega) h)
theorem chN_lt {e f g : Nat} (he : e < 4294967296) : chN e f g < 4294967296 := xor_lt (and_lt he) (and_lt (by omega))
theorem maN_lt {a b c : Nat} (ha : a < 4294967296) (hb : b < 4294967296) : maN a b c < 4294967296 := xor_lt (xor_lt (and_lt ha) (and_lt ha)) (and_lt hb)

/-- turned right bit by bit -/
theorem rotN_zero (x : Nat) : rotN x 0 = x := by simp [rotN, Nat.mod_one]
theorem rotN_succ {x k : Nat} (hk : k < 32) : rotN x k / 2 + rotN x k % 2 * 2147483648 = rotN x (k + 1) := by
  have e1 : 2 ^ (32 - k) = 2 * 2 ^ (32 - (k + 1)) := by rw [show 32 - k = 32 - (k + 1) + 1 by omega, Nat.pow_succ]; omega
  have hA : x / 2 ^ (k + 1) = x / 2 ^ k / 2 := by rw [Nat.pow_succ, Nat.div_div_eq_div_mul]
  have hB : x % 2 ^ (k + 1) = x % 2 ^ k + 2 ^ k * (x / 2 ^ k % 2) := by rw [Nat.pow_succ, Nat.mod_mul]
  have hP : 2 ^ k * 2 ^ (32 - (k + 1)) = 2147483648 := by rw [← Nat.pow_add, show k + (32 - (k + 1)) = 31 by omega]
  unfold rotN
  rw [hA, hB, e1, Nat.add_mul]
  generalize x / 2 ^ k = A
  have e2 : x % 2 ^ k * (2 * 2 ^ (32 - (k + 1))) = 2 * (x % 2 ^ k * 2 ^ (32 - (k + 1))) := by rw [Nat.mul_left_comm]
  have e3 : 2 ^ k * (A % 2) * 2 ^ (32 - (k + 1)) = A % 2 * 2147483648 := by rw [← hP, Nat.mul_comm (2 ^ k), Nat.mul_assoc]
  rw [e2, e3]
  generalize x % 2 ^ k * 2 ^ (32 - (k + 1)) = B
  omega
/-- turned by two shifts -/
theorem rotN_or {x n : Nat} (hn : n ≤ 32) (hx : x < 4294967296) : (x * 2 ^ (32 - n) % 4294967296) ||| x / 2 ^ n = rotN x n := by
  have h1 : x / 2 ^ n < 2 ^ (32 - n) := by
    rw [Nat.div_lt_iff_lt_mul (Nat.two_pow_pos _), ← Nat.pow_add, show 32 - n + n = 32 by omega]; omega
  have h2 : x * 2 ^ (32 - n) % 4294967296 = 2 ^ (32 - n) * (x % 2 ^ n) := by
    have e : 4294967296 = 2 ^ (32 - n) * 2 ^ n := by rw [← Nat.pow_add, show 32 - n + n = 32 by omega]
    rw [e, Nat.mul_comm x, Nat.mul_mod_mul_left]
  rw [h2, ← Nat.two_pow_add_eq_or_of_lt h1, rotN, Nat.mul_comm (2 ^ (32 - n)), Nat.add_comm]

def HH : List Nat := [1779033703, 3144134277, 1013904242, 2773480762, 1359893119, 2600822924, 528734635, 1541459225]
def KK : List Nat := [1116352408, 1899447441, 3049323471, 3921009573, 961987163, 1508970993, 2453635748, 2870763221, 3624381080, 310598401, 607225278, 1426881987, 1925078388, 2162078206, 2614888103, 3248222580, 3835390401, 4022224774, 264347078, 604807628, 770255983, 1249150122, 1555081692, 1996064986, 2554220882, 2821834349, 2952996808, 3210313671, 3336571891, 3584528711, 113926993, 338241895, 666307205, 773529912, 1294757372, 1396182291, 1695183700, 1986661051, 2177026350, 2456956037, 2730485921, 2820302411, 3259730800, 3345764771, 3516065817, 3600352804, 4094571909, 275423344, 430227734, 506948616, 659060556, 883997877, 958139571, 1322822218, 1537002063, 1747873779, 1955562222, 2024104815, 2227730452, 2361852424, 2428436474, 2756734187, 3204031479, 3329325298]
theorem HH_len : HH.length = 8 := rfl
theorem KK_len : KK.length = 64 := rfl
theorem getD_lt {l : List Nat} (h : ∀ x ∈ l, x < 4294967296) (i : Nat) : l.getD i 0 < 4294967296 := by
  rw [List.getD_eq_getElem?_getD]
  rcases hi : l[i]? with _ | x
  · simp
  · simpa using h x (List.mem_of_getElem? hi)
theorem KK_lt : ∀ x ∈ KK, x < 4294967296 := by decide
theorem HH_lt : ∀ x ∈ HH, x < 4294967296 := by decide

/-- one round -/
def rndL : List Nat → Nat → Nat → List Nat
  | [a, b, c, d, e, f, g, h], k, w => [add2 (t1N e f g h k w) (t2N a b c), a, b, c, add2 d (t1N e f g h k w), e, f, g]
  | l, _, _ => l
/-- eight words -/
def Eight (l : List Nat) : Prop := l.length = 8 ∧ ∀ x ∈ l, x < 4294967296
theorem Eight.parts {l : List Nat} (H : Eight l) : ∃ a b c d e f g h, l = [a, b, c, d, e, f, g, h] ∧ a < 4294967296 ∧ b < 4294967296 ∧ c < 4294967296 ∧ d < 4294967296 ∧ e < 4294967296 ∧ f < 4294967296 ∧ g < 4294967296 ∧ h < 4294967296 := by
  obtain ⟨hl, ha⟩ := H
  match l, hl with
  | [a, b, c, d, e, f, g, h], _ => exact ⟨a, b, c, d, e, f, g, h, rfl, ha a (by simp), ha b (by simp), ha c (by simp), ha d (by simp), ha e (by simp), ha f (by simp), ha g (by simp), ha h (by simp)⟩
theorem HH_eight : Eight HH := ⟨rfl, HH_lt⟩
theorem rndL_eight {l : List Nat} (H : Eight l) (k w : Nat) : Eight (rndL l k w) := by
  obtain ⟨a, b, c, d, e, f, g, h, rfl, h1, h2, h3, h4, h5, h6, h7, h8⟩ := H.parts
  refine ⟨rfl, ?_⟩
  intro x hx
  simp only [rndL, List.mem_cons, List.not_mem_nil, or_false] at hx
  rcases hx with rfl | rfl | rfl | rfl | rfl | rfl | rfl | rfl
  · exact add2_lt _ _
  · exact h1
  · exact h2
  · exact h3
  · exact add2_lt _ _
  · exact h5
  · exact h6
  · exact h7

/-- a block's words -/
def accN (b : List UInt8) (o : Nat) : Nat → Nat
  | 0 => 0
  | k + 1 => accN b o k * 256 + (b.getD (o + k) 0).toNat
theorem accN_lt (b : List UInt8) (o k : Nat) : accN b o k < 256 ^ k := by
  induction k with
  | zero => exact Nat.one_pos
  | succ k ih =>
    have h := (b.getD (o + k) 0).toNat_lt
    rw [accN, Nat.pow_succ]; omega
theorem accN_drop (b : List UInt8) (o k : Nat) : accN (b.drop o) 0 k = accN b o k := by
  induction k with
  | zero => rfl
  | succ k ih => rw [accN, accN, ih, List.getD_eq_getElem?_getD, List.getD_eq_getElem?_getD, List.getElem?_drop, Nat.zero_add]
def wordN (b : List UInt8) (t : Nat) : Nat := accN b (4 * t) 4
def nextN (l : List Nat) (t : Nat) : Nat := add2 (add2 (add2 (sg1 (l.getD (t - 2) 0)) (l.getD (t - 7) 0)) (sg0 (l.getD (t - 15) 0))) (l.getD (t - 16) 0)
def schedN (b : List UInt8) : Nat → List Nat
  | 0 => []
  | t + 1 => schedN b t ++ [if t < 16 then wordN b t else nextN (schedN b t) t]
theorem schedN_len (b : List UInt8) (t : Nat) : (schedN b t).length = t := by
  induction t with
  | zero => rfl
  | succ t ih => simp [schedN, ih]
theorem wordN_lt (b : List UInt8) (t : Nat) : wordN b t < 4294967296 := accN_lt b _ 4
theorem schedN_lt (b : List UInt8) (t : Nat) : ∀ x ∈ schedN b t, x < 4294967296 := by
  induction t with
  | zero => intro x hx; cases hx
  | succ t ih =>
    intro x hx
    rw [schedN, List.mem_append] at hx
    rcases hx with hx | hx
    · exact ih x hx
    · rw [List.mem_singleton] at hx
      subst hx
      split
      · exact wordN_lt b t
      · exact add2_lt _ _
/-- k rounds -/
def rndsN (st W : List Nat) : Nat → List Nat
  | 0 => st
  | k + 1 => rndL (rndsN st W k) (KK.getD k 0) (W.getD k 0)
theorem rndsN_eight {st : List Nat} (H : Eight st) (W : List Nat) (k : Nat) : Eight (rndsN st W k) := by
  induction k with
  | zero => exact H
  | succ k ih => exact rndL_eight ih _ _
/-- the words behind a block -/
def blockN (st : List Nat) (b : List UInt8) : List Nat := List.zipWith add2 st (rndsN st (schedN b 64) 64)
theorem zip_eight {l m : List Nat} (hl : Eight l) (hm : Eight m) : Eight (List.zipWith add2 l m) := by
  obtain ⟨a, b, c, d, e, f, g, h, rfl, _⟩ := hl.parts
  obtain ⟨a', b', c', d', e', f', g', h', rfl, _⟩ := hm.parts
  refine ⟨rfl, ?_⟩
  intro x hx
  simp only [List.zipWith_cons_cons, List.zipWith_nil_right, List.mem_cons, List.not_mem_nil, or_false] at hx
  rcases hx with rfl | rfl | rfl | rfl | rfl | rfl | rfl | rfl <;> exact add2_lt _ _
theorem blockN_eight {st : List Nat} (H : Eight st) (b : List UInt8) : Eight (blockN st b) := zip_eight H (rndsN_eight H _ _)
/-- the words behind all blocks -/
def blocksN : Nat → List Nat → List UInt8 → List Nat
  | 0, st, _ => st
  | n + 1, st, l => blocksN n (blockN st (l.take 64)) (l.drop 64)
theorem blocksN_eight : ∀ (n : Nat) {st : List Nat} (_ : Eight st) (l : List UInt8), Eight (blocksN n st l)
  | 0, _, H, _ => H
  | n + 1, _, H, l => blocksN_eight n (blockN_eight H _) _
theorem blocksN_app : ∀ (n m : Nat) (st : List Nat) (a b : List UInt8), a.length = 64 * n → blocksN (n + m) st (a ++ b) = blocksN m (blocksN n st a) b
  | 0, m, st, a, b, h => by
    obtain rfl : a = [] := List.eq_nil_of_length_eq_zero (by omega)
    rw [Nat.zero_add]; rfl
  | n + 1, m, st, a, b, h => by
    rw [show n + 1 + m = n + m + 1 by omega, blocksN, blocksN, List.take_append_of_le_length (by omega), List.drop_append_of_le_length (by omega)]
    exact blocksN_app n m _ _ b (by rw [List.length_drop]; omega)
theorem blocksN_snoc (k : Nat) (st : List Nat) (l : List UInt8) (h : 64 * (k + 1) ≤ l.length) : blocksN (k + 1) st l = blockN (blocksN k st l) ((l.drop (64 * k)).take 64) := by
  induction k generalizing st l with
  | zero => rfl
  | succ k ih =>
    rw [blocksN, ih _ _ (by rw [List.length_drop]; omega), blocksN, List.drop_drop, show 64 + 64 * k = 64 * (k + 1) by omega]

def be4 (x : Nat) : List UInt8 := [UInt8.ofNat (x / 16777216), UInt8.ofNat (x / 65536), UInt8.ofNat (x / 256), UInt8.ofNat x]
def zerosN (n : Nat) : Nat := (119 - n % 64) % 64
/-- what is behind a text's whole blocks -/
def endL (rest : List UInt8) (size : Nat) : List UInt8 := rest ++ [128] ++ List.replicate (zerosN rest.length) 0 ++ be4 (8 * size / 4294967296) ++ be4 (8 * size)
theorem endL_len (rest : List UInt8) (size : Nat) : (endL rest size).length = rest.length + zerosN rest.length + 9 := by simp [endL, be4]; omega
theorem endL_mod (rest : List UInt8) (size : Nat) : (endL rest size).length % 64 = 0 := by rw [endL_len, zerosN]; omega
def shaW (l : List UInt8) : List Nat := blocksN ((endL l l.length).length / 64) HH (endL l l.length)
def shaL (l : List UInt8) : List UInt8 := (shaW l).flatMap be4
theorem shaW_eight (l : List UInt8) : Eight (shaW l) := blocksN_eight _ HH_eight _
theorem shaL_len (l : List UInt8) : (shaL l).length = 32 := by
  obtain ⟨a, b, c, d, e, f, g, h, hh, _⟩ := (shaW_eight l).parts
  rw [shaL, hh]; rfl
theorem shaW_parts (l : List UInt8) (q : Nat) (hq : q = l.length / 64) :
    shaW l = blocksN ((endL (l.drop (64 * q)) l.length).length / 64) (blocksN q HH (l.take (64 * q))) (endL (l.drop (64 * q)) l.length) := by
  have hz : zerosN l.length = zerosN (l.drop (64 * q)).length := by unfold zerosN; rw [List.length_drop]; congr 2; omega
  have he : endL l l.length = l.take (64 * q) ++ endL (l.drop (64 * q)) l.length := by
    unfold endL
    rw [← hz]
    simp only [← List.append_assoc, List.take_append_drop]
  have hl : (l.take (64 * q)).length = 64 * q := by rw [List.length_take]; omega
  rw [shaW, he, List.length_append, hl, show (64 * q + (endL (l.drop (64 * q)) l.length).length) / 64 = q + (endL (l.drop (64 * q)) l.length).length / 64 by omega]
  exact blocksN_app _ _ _ _ _ hl
theorem be4_take (W : List Nat) (k : Nat) (h : k < W.length) : (W.take (k + 1)).flatMap be4 = (W.take k).flatMap be4 ++ be4 (W.getD k 0) := by
  rw [List.take_succ_eq_append_getElem h, List.flatMap_append]
  simp [List.getD_eq_getElem?_getD, h]
theorem be4_len (W : List Nat) : (W.flatMap be4).length = 4 * W.length := by
  induction W with
  | nil => rfl
  | cons x W ih => rw [List.flatMap_cons, List.length_append, ih]; simp [be4]; omega
/- flatMap_take -/
def hexD (d : Nat) : UInt8 := if d < 10 then UInt8.ofNat (48 + d) else UInt8.ofNat (87 + d)
def markL (l : List UInt8) : List UInt8 := ((shaL l).take 8).flatMap fun b => [hexD (b.toNat / 16), hexD (b.toNat % 16)]
theorem markL_len (l : List UInt8) : (markL l).length = 16 := by
  have h : ∀ m : List UInt8, (m.flatMap fun b => [hexD (b.toNat / 16), hexD (b.toNat % 16)]).length = 2 * m.length := by
    intro m
    induction m with
    | nil => rfl
    | cons x m ih => rw [List.flatMap_cons, List.length_append, ih]; simp; omega
  rw [markL, h, List.length_take, shaL_len]; rfl
theorem mark_abc : markL [97, 98, 99] = [98, 97, 55, 56, 49, 54, 98, 102, 56, 102, 48, 49, 99, 102, 101, 97] := by decide +kernel

end Go.Proofs.YtmmpnkcfekhkhaaDoor
