/- The mathematics of ConfigMarks: the normal forms of one configuration have one text, and it is longer than 5. -/
import Derived.Test.YtkgnapojkijbgaaGreatDoorMg4
import Derived.Test.YtkgnapojkijbgaaGreatDoorMg2
import Derived.Test.YtkgnapojkijbgaaGreatDoorRows
import Derived.Test.YtkgnapojkijbgaaGreatDoorLib2
import Derived.BigQuiet
import Derived.Deep.QuietTactic
import Derived.Laws.Rows
import Derived.Laws.Tables
import Derived.Lib.Strings
import Derived.Deep.RegionHeld3
import Derived.WalkSmall
import Derived.Deep.DeepCutAuto
import Derived.StillTailTactics
import Derived.Laws.CopyOwn
import Derived.Test.YtkgnapojkijbgaaGreatDoorAppend
import Derived.Lib.FrozenHead
import Derived.Deep.WholeRow
import Derived.Deep.RegionWith
import Derived.Deep.RegionLaw
import Derived.Test.YtkgnapojkijbgaaGreatDoorRteA
import Derived.Outline
import Derived.Test.YtkgnapojkijbgaaGreatDoorMg1
import Derived.Test.YtkgnapojkijbgaaGreatDoorMg3
namespace Go.Proofs.YtkgnapojkijbgaaGreatDoor
open Go.RowKit Go.Lib Go.Sort

theorem leB_antisym (a b : ByteArray) (h : leB a.data.toList b.data.toList = true) (h' : leB b.data.toList a.data.toList = true) : a = b := by
  simp only [leB, Bool.not_eq_true'] at h h'
  have := lessB_tri _ _ h' h
  apply ByteArray.ext
  exact Array.ext' this
theorem pair_ne {A : Type} {nm : A → ByteArray} : ∀ {k : List A}, k.Pairwise (fun a b => nm a ≠ nm b) → ∀ {a b : A}, a ∈ k → b ∈ k → a ≠ b → nm a ≠ nm b
  | [], _, _, _, ha, _, _ => by cases ha
  | x :: k, h, a, b, ha, hb, hne => by
    rw [List.pairwise_cons] at h
    rcases List.mem_cons.1 ha with ea | ha
    · rcases List.mem_cons.1 hb with eb | hb
      · exact absurd (ea.trans eb.symm) hne
      · rw [ea]; exact h.1 b hb
    · rcases List.mem_cons.1 hb with eb | hb
      · rw [eb]; exact (h.1 a ha).symm
      · exact pair_ne h.2 ha hb hne
/-- things of unlike names have one order by their names -/
theorem sortedN_uniq {A : Type} {nm : A → ByteArray} {k x y : List A} (hx : SortedN nm k x) (hy : SortedN nm k y) (hn : (k.map nm).Nodup) : x = y := by
  refine List.Perm.eq_of_pairwise (le := fun a b => leB (nm a).data.toList (nm b).data.toList = true) (fun a b ha hb h h' => ?_) hx.2 hy.2 (hx.1.trans hy.1.symm)
  have e := leB_antisym _ _ h h'
  have ha := hx.1.mem_iff.1 ha
  have hb := hy.1.mem_iff.1 hb
  unfold List.Nodup at hn
  rw [List.pairwise_map] at hn
  exact Classical.byContradiction fun hne => pair_ne hn ha hb hne e
theorem sortedN_names {A : Type} {nm : A → ByteArray} {k x y : List A} (hx : SortedN nm k x) (hy : SortedN nm k y) : x.map nm = y.map nm := by
  refine List.Perm.eq_of_pairwise (le := fun a b => leB a.data.toList b.data.toList = true) (fun a b _ _ h h' => leB_antisym a b h h') ?_ ?_ ((hx.1.trans hy.1.symm).map nm)
  · rw [List.pairwise_map]; exact hx.2
  · rw [List.pairwise_map]; exact hy.2
theorem numB_len2T {n : Nat} (h : n < 16384) : (numB n).length ≤ 2 := numB_len 1 n (by omega)
theorem bindL_small (ss : List ByteArray) (K : Nat) (hK : K < 16384) (hs : ∀ s ∈ ss, s.size ≤ K) : (bindL ss).length ≤ ss.length * (K + 2) := by
  induction ss with
  | nil => simp [bindL]
  | cons x ss ih =>
    have h1 := hs x (by simp)
    have h2 := numB_len2T (n := x.size) (by omega)
    have h3 := ih (fun s hs' => hs s (by simp [hs']))
    simp only [bindL, List.flatMap_cons, List.length_append, List.length_cons, Nat.succ_mul] at *
    have : x.data.toList.length = x.size := by simp
    omega
theorem bindS_small (ss : List ByteArray) (K n : Nat) (hK : K < 16384) (hs : ∀ s ∈ ss, s.size ≤ K) (hn : ss.length ≤ n) : (bindS ss).size ≤ n * (K + 2) := by
  unfold bindS
  split
  · have h := bindL_small ss K hK hs
    show (bindL ss).toArray.size ≤ _
    rw [List.size_toArray]
    exact Nat.le_trans h (Nat.mul_le_mul_right _ hn)
  · exact Nat.zero_le _
theorem mayB_of (ss : List ByteArray) (h1 : ss.length ≤ 512) (h2 : ∀ s ∈ ss, s.size ≤ 8192) : mayB ss = true := by
  unfold mayB
  rw [Bool.and_eq_true, decide_eq_true_eq, List.all_eq_true]
  exact ⟨h1, fun s hs => decide_eq_true (h2 s hs)⟩
theorem textV_small (m : Mat) : (textV m).size ≤ 700 := by
  unfold textV
  split
  · rename_i h
    obtain ⟨h1, h2, h3, h4⟩ := right_words h
    have := joinW_len m.words h1 h3
    show (textM m).toArray.size ≤ 700
    rw [List.size_toArray]
    have hn : m.name.data.toList.length = m.name.size := by simp
    have hs : (signT m.how).length ≤ 2 := by
      obtain ⟨_, k1, k4, _⟩ := (rightM_iff m).1 h
      rcases (by omega : m.how = 1 ∨ m.how = 2 ∨ m.how = 3 ∨ m.how = 4) with e | e | e | e <;> rw [e] <;> decide
    simp only [textM, List.length_append, List.length_cons, List.length_nil]
    omega
  · exact Nat.zero_le _
theorem good_names {x : InA} (h : InA.good x = true) : x.e.length ≤ 8 ∧ ∀ s ∈ x.e, s.size ≤ 64 := by
  simp only [InA.good, Bool.and_eq_true] at h
  obtain ⟨g1, g2, _⟩ := (rightC_iff _).1 h.2.2
  refine ⟨by simpa [byLabs] using g1, fun s hs => ?_⟩
  have := g2 (s, ⟨#[118]⟩) (by simp only [byLabs]; exact List.mem_map.2 ⟨s, hs, rfl⟩)
  simp only [labC, nameC, Bool.and_eq_true, decide_eq_true_eq] at this
  have h2 := this.1.1.1.2
  simpa using h2
theorem good_sides {x : InA} (h : InA.good x = true) : (x.s.length ≤ 8 ∧ x.s.all rightM = true) ∧ (x.t.length ≤ 8 ∧ x.t.all rightM = true) := by
  simp only [InA.good, sideC, matchC, Bool.and_eq_true, decide_eq_true_eq] at h
  exact ⟨h.1.2, h.2.1.2⟩
theorem side_may (ms : List Mat) (h : ms.length ≤ 8) : mayB (ms.map textV) = true ∧ (bindS (ms.map textV)).size ≤ 8192 := by
  have hs : ∀ s ∈ ms.map textV, s.size ≤ 700 := fun s hs => by obtain ⟨m, _, rfl⟩ := List.mem_map.1 hs; exact textV_small m
  refine ⟨mayB_of _ (by simp; omega) (fun s h => Nat.le_trans (hs s h) (by omega)), ?_⟩
  exact Nat.le_trans (bindS_small _ 700 8 (by omega) hs (by simpa using h)) (by omega)
theorem names_may {x : InA} (h : InA.good x = true) : mayB x.e = true ∧ (bindS x.e).size ≤ 8192 := by
  obtain ⟨h1, h2⟩ := good_names h
  exact ⟨mayB_of _ (by omega) (fun s hs => Nat.le_trans (h2 s hs) (by omega)), Nat.le_trans (bindS_small _ 64 8 (by omega) h2 h1) (by omega)⟩
theorem inhT_inj {x y : InA} (hx : InA.good x = true) (hy : InA.good y = true) (e : inhT x = inhT y) : likeI x y := by
  obtain ⟨⟨a1, a2⟩, a3, a4⟩ := good_sides hx
  obtain ⟨⟨b1, b2⟩, b3, b4⟩ := good_sides hy
  have p : ∀ {z : InA}, InA.good z = true → mayB [bindS (z.s.map textV), bindS (z.t.map textV), bindS z.e] = true := fun {z} hz => by
    obtain ⟨⟨c1, _⟩, c3, _⟩ := good_sides hz
    refine mayB_of _ (by simp) (fun s hs => ?_)
    simp only [List.mem_cons, List.not_mem_nil, or_false] at hs
    rcases hs with rfl | rfl | rfl
    · exact (side_may _ c1).2
    · exact (side_may _ c3).2
    · exact (names_may hz).2
  have h := bindS_inj (p hx) (p hy) e
  simp only [List.cons.injEq, and_true] at h
  obtain ⟨h1, h2, h3⟩ := h
  exact ⟨textVs_inj a2 b2 (bindS_inj (side_may _ a1).1 (side_may _ b1).1 h1), textVs_inj a4 b4 (bindS_inj (side_may _ a3).1 (side_may _ b3).1 h2), bindS_inj (names_may hx).1 (names_may hy).1 h3⟩
theorem inhT_like {x y : InA} (h : likeI x y) : inhT x = inhT y := by
  obtain ⟨h1, h2, h3⟩ := h
  unfold inhT
  rw [h1, h2, h3]
theorem like_text {x y : InA} (hx : InA.good x = true) (hy : InA.good y = true) : eqB (likeI x y) = decide (inhT x = inhT y) := by
  rw [Bool.eq_iff_iff, eqB_iff, decide_eq_true_eq]
  exact ⟨inhT_like, inhT_inj hx hy⟩
theorem compG_texts : ∀ (l l' : List InA) (p p' : InA), (∀ z ∈ l, InA.good z = true) → (∀ z ∈ l', InA.good z = true) → InA.good p = true → InA.good p' = true → inhT p = inhT p' → l.map inhT = l'.map inhT → (compG p l).map inhT = (compG p' l').map inhT
  | [], [], _, _, _, _, _, _, _, _ => rfl
  | [], _ :: _, _, _, _, _, _, _, _, e => by cases e
  | _ :: _, [], _, _, _, _, _, _, _, e => by cases e
  | y :: l, y' :: l', p, p', hl, hl', hp, hp', ep, e => by
    simp only [List.map_cons, List.cons.injEq] at e
    have g := hl y (by simp)
    have g' := hl' y' (by simp)
    have ih := compG_texts l l' y y' (fun z hz => hl z (by simp [hz])) (fun z hz => hl' z (by simp [hz])) g g' e.1 e.2
    unfold compG
    rw [like_text g hp, like_text g' hp', e.1, ep]
    split
    · exact ih
    · simp only [List.map_cons, e.1, ih]
theorem compI_texts {l l' : List InA} (hl : ∀ z ∈ l, InA.good z = true) (hl' : ∀ z ∈ l', InA.good z = true) (e : l.map inhT = l'.map inhT) : (compI l).map inhT = (compI l').map inhT := by
  match l, l', e with
  | [], [], _ => rfl
  | [], _ :: _, e => cases e
  | _ :: _, [], e => cases e
  | y :: l, y' :: l', e =>
    simp only [List.map_cons, List.cons.injEq] at e
    simp only [compI, List.map_cons, e.1]
    rw [compG_texts l l' y y' (fun z hz => hl z (by simp [hz])) (fun z hz => hl' z (by simp [hz])) (hl y (by simp)) (hl' y' (by simp)) e.1 e.2]
theorem bsOf_nodupT (ss : List ByteArray) : (bsOf ss).Nodup ↔ ss.Nodup := by
  unfold bsOf List.Nodup
  rw [List.pairwise_map]
  constructor
  · exact fun h => h.imp fun hab e => hab (by rw [e])
  · exact fun h => h.imp fun {a b} hab e => hab (by rw [← strB_of a, ← strB_of b]; exact congrArg strB e)
theorem onceT_iff (ss : List ByteArray) : onceS ss = true ↔ ss.Nodup := (onceB_iff (bsOf ss)).trans (bsOf_nodupT ss)
theorem txt_uniq {k x y : CfA} (hc : cfgC k = true) (hx : NormOf k x) (hy : NormOf k y) : txL x = txL y ∧ txK x = txK y := by
  have hc0 := hc
  simp only [cfgC, Bool.and_eq_true] at hc0
  obtain ⟨_, n1, _, _, ⟨_, gi⟩, _, n2, _⟩ := hc0
  have n1 := (onceT_iff _).1 n1
  have n2 := (onceT_iff _).1 n2
  rw [List.all_eq_true] at gi
  obtain ⟨a1, a2, a3, ⟨ys, a4, a5⟩, a6⟩ := hx
  obtain ⟨b1, b2, b3, ⟨zs, b4, b5⟩, b6⟩ := hy
  have e1 : x.ru = y.ru := sortedN_uniq a2 b2 n1
  have e2 : x.hr = y.hr := sortedN_uniq a6 b6 n2
  have e3 : x.re = y.re := a3.trans b3.symm
  have e4 : x.rt = y.rt := a1.trans b1.symm
  have e5 : x.ih.map inhT = y.ih.map inhT := by
    rw [a5, b5]
    exact compI_texts (fun z hz => gi z (a4.1.mem_iff.1 hz)) (fun z hz => gi z (b4.1.mem_iff.1 hz)) (sortedN_names a4 b4)
  have e6 : txL x = txL y := by unfold txL; rw [e1, e2, e3, e4, e5]
  refine ⟨e6, ?_⟩
  unfold txK
  rw [e6, e1, e2, e3, e4, e5]
theorem txS_uniq {k x y : CfA} (hc : cfgC k = true) (hx : NormOf k x) (hy : NormOf k y) : txS x = txS y ∧ txK x = txK y := by
  obtain ⟨h1, h2⟩ := txt_uniq hc hx hy
  refine ⟨?_, h2⟩
  unfold txS
  rw [h1, h2]
theorem bindL_min (ss : List ByteArray) : ss.length ≤ (bindL ss).length := by
  induction ss with
  | nil => simp
  | cons x ss ih =>
    have := numB_pos x.size
    simp only [bindL, List.flatMap_cons, List.length_append, List.length_cons] at *
    omega
theorem bindS_min {ss : List ByteArray} (h : mayB ss = true) : ss.length ≤ (bindS ss).size := by
  unfold bindS
  rw [if_pos h]
  show _ ≤ (bindL ss).toArray.size
  rw [List.size_toArray]
  exact bindL_min ss
theorem rtT_min (n : Rt) (h : rtK n = true) : 9 ≤ (rtT n).size := by
  rw [rtK_eq] at h
  simp only [Bool.and_eq_true] at h
  rw [rtT_eq]
  exact bindS_min h.2.2.2.2.2
theorem txS_size {x : CfA} (h : txK x = true) : 5 < (txS x).size ∧ (txS x).size ≤ 400000000 := by
  have h0 := h
  unfold txK at h0
  simp only [Bool.and_eq_true] at h0
  obtain ⟨_, _, _, _, hr, hm⟩ := h0
  have hr := rtT_min _ hr
  unfold txS
  rw [if_pos h]
  constructor
  · unfold bindS
    rw [if_pos hm]
    show 5 < (bindL (txL x)).toArray.size
    rw [List.size_toArray]
    have h5 := numB_pos (bindS (ruW x.ru)).size
    have hl : (rtT x.rt.n).data.toList.length = (rtT x.rt.n).size := by simp
    simp only [txL, bindL, List.flatMap_cons, List.flatMap_nil, List.length_append, List.length_nil]
    omega
  · exact Nat.le_trans (bindS_size _ (by simp [txL]) (fun s hs => by obtain ⟨_, h2⟩ := mayB_true hm; have := h2 s hs; omega)) (by omega)
end Go.Proofs.YtkgnapojkijbgaaGreatDoor
/- Plain mathematics for layer 2: the sum of bytes (FIPS 180-4) on natural numbers. It speaks of no program. -/
namespace Go.Proofs.YtkgnapojkijbgaaGreatDoor

def add2 (a b : Nat) : Nat := (a + b) % 4294967296
def rotN (x n : Nat) : Nat := x / 2 ^ n + x % 2 ^ n * 2 ^ (32 - n)
def sg0 (x : Nat) : Nat := (rotN x 7 ^^^ rotN x 18) ^^^ x / 8
def sg1 (x : Nat) : Nat := (rotN x 17 ^^^ rotN x 19) ^^^ x / 1024
def bg0 (x : Nat) : Nat := (rotN x 2 ^^^ rotN x 13) ^^^ rotN x 22
def bg1 (x : Nat) : Nat := (rotN x 6 ^^^ rotN x 11) ^^^ rotN x 25
def chN (e f g : Nat) : Nat := (e &&& f) ^^^ ((4294967295 - e) &&& g)
def maN (a b c : Nat) : Nat := ((a &&& b) ^^^ (a &&& c)) ^^^ (b &&& c)
def t1N (e f g h k w : Nat) : Nat := add2 (add2 (add2 (add2 h (bg1 e)) (chN e f g)) k) w
def t2N (a b c : Nat) : Nat := add2 (bg0 a) (maN a b c)

theorem add2_lt (a b : Nat) : add2 a b < 4294967296 := Nat.mod_lt _ (by omega)
theorem rotN_lt {x n : Nat} (hn : n ≤ 32) (hx : x < 4294967296) : rotN x n < 4294967296 := by
  unfold rotN
  have h1 : x / 2 ^ n < 2 ^ (32 - n) := by
    rw [Nat.div_lt_iff_lt_mul (Nat.two_pow_pos _), ← Nat.pow_add, show 32 - n + n = 32 by omega]; omega
  have h2 : x % 2 ^ n + 1 ≤ 2 ^ n := Nat.mod_lt _ (Nat.two_pow_pos _)
  have h3 := Nat.mul_le_mul_right (2 ^ (32 - n)) h2
  rw [← Nat.pow_add, show n + (32 - n) = 32 by omega, Nat.add_mul] at h3
  omega
theorem xor_lt {a b : Nat} (ha : a < 4294967296) (hb : b < 4294967296) : a ^^^ b < 4294967296 := Nat.xor_lt_two_pow (n := 32) ha hb
theorem and_lt {a b : Nat} (ha : a < 4294967296) : a &&& b < 4294967296 := Nat.lt_of_le_of_lt Nat.and_le_left ha
theorem sg0_lt {x : Nat} (h : x < 4294967296) : sg0 x < 4294967296 := xor_lt (xor_lt (rotN_lt (by omega) h) (rotN_lt (by omega) h)) (by omega)
theorem sg1_lt {x : Nat} (h : x < 4294967296) : sg1 x < 4294967296 := xor_lt (xor_lt (rotN_lt (by omega) h) (rotN_lt (by omega) h)) (by omega)
theorem bg0_lt {x : Nat} (h : x < 4294967296) : bg0 x < 4294967296 := xor_lt (xor_lt (rotN_lt (by omega) h) (rotN_lt (by omega) h)) (rotN_lt (by omega) h)
theorem bg1_lt {x : Nat} (h : x < 4294967296) : bg1 x < 4294967296 := xor_lt (xor_lt (rotN_lt (by omega) h) (rotN_lt (by omega) h)) (rotN_lt (by omega) h)
theorem chN_lt {e f g : Nat} (he : e < 4294967296) : chN e f g < 4294967296 := xor_lt (and_lt he) (and_lt (by omega))
theorem maN_lt {a b c : Nat} (ha : a < 4294967296) (hb : b < 4294967296) : maN a b c < 4294967296 := xor_lt (xor_lt (and_lt ha) (and_lt ha)) (and_lt hb)

/-- turned right bit by bit -/
theorem rotN_zero (x : Nat) : rotN x 0 = x := by simp [rotN, Nat.mod_one]
theorem rotN_succ {x k : Nat} (hk : k < 32) : rotN x k / 2 + rotN x k % 2 * 2147483648 = rotN x (k + 1) := by
  have e1 : 2 ^ (32 - k) = 2 * 2 ^ (32 - (k + 1)) := by rw [show 32 - k = 32 - (k + 1) + 1 by omega, Nat.pow_succ]; omega
  have hA : x / 2 ^ (k + 1) = x / 2 ^ k / 2 := by rw [Nat.pow_succ, Nat.div_div_eq_div_mul]
  have hB : x % 2 ^ (k + 1) = x % 2 ^ k + 2 ^ k * (x / 2 ^ k % 2) := by rw [Nat.pow_succ, Nat.mod_mul]
  have hP : 2 ^ k * 2 ^ (32 - (k + 1)) = 2147483648 := by rw [← Nat.pow_add, show k + (32 - (k + 1)) = 31 by omega]
  unfold rotN
  rw [hA, hB, e1, Nat.add_mul]
  generalize x / 2 ^ k = A
  have e2 : x % 2 ^ k * (2 * 2 ^ (32 - (k + 1))) = 2 * (x % 2 ^ k * 2 ^ (32 - (k + 1))) := by rw [Nat.mul_left_comm]
  have e3 : 2 ^ k * (A % 2) * 2 ^ (32 - (k + 1)) = A % 2 * 2147483648 := by rw [← hP, Nat.mul_comm (2 ^ k), Nat.mul_assoc]
  rw [e2, e3]
  generalize x % 2 ^ k * 2 ^ (32 - (k + 1)) = B
  omega
/-- turned by two shifts -/
theorem rotN_or {x n : Nat} (hn : n ≤ 32) (hx : x < 4294967296) : (x * 2 ^ (32 - n) % 4294967296) ||| x / 2 ^ n = rotN x n := by
  have h1 : x / 2 ^ n < 2 ^ (32 - n) := by
    rw [Nat.div_lt_iff_lt_mul (Nat.two_pow_pos _), ← Nat.pow_add, show 32 - n + n = 32 by omega]; omega
  have h2 : x * 2 ^ (32 - n) % 4294967296 = 2 ^ (32 - n) * (x % 2 ^ n) := by
    have e : 4294967296 = 2 ^ (32 - n) * 2 ^ n := by rw [← Nat.pow_add, show 32 - n + n = 32 by omega]
    rw [e, Nat.mul_comm x, Nat.mul_mod_mul_left]
  rw [h2, ← Nat.two_pow_add_eq_or_of_lt h1, rotN, Nat.mul_comm (2 ^ (32 - n)), Nat.add_comm]

def HH : List Nat := [1779033703, 3144134277, 1013904242, 2773480762, 1359893119, 2600822924, 528734635, 1541459225]
def KK : List Nat := [1116352408, 1899447441, 3049323471, 3921009573, 961987163, 1508970993, 2453635748, 2870763221, 3624381080, 310598401, 607225278, 1426881987, 1925078388, 2162078206, 2614888103, 3248222580, 3835390401, 4022224774, 264347078, 604807628, 770255983, 1249150122, 1555081692, 1996064986, 2554220882, 2821834349, 2952996808, 3210313671, 3336571891, 3584528711, 113926993, 338241895, 666307205, 773529912, 1294757372, 1396182291, 1695183700, 1986661051, 2177026350, 2456956037, 2730485921, 2820302411, 3259730800, 3345764771, 3516065817, 3600352804, 4094571909, 275423344, 430227734, 506948616, 659060556, 883997877, 958139571, 1322822218, 1537002063, 1747873779, 1955562222, 2024104815, 2227730452, 2361852424, 2428436474, 2756734187, 3204031479, 3329325298]
theorem HH_len : HH.length = 8 := rfl
theorem KK_len : KK.length = 64 := rfl
theorem getD_lt {l : List Nat} (h : ∀ x ∈ l, x < 4294967296) (i : Nat) : l.getD i 0 < 4294967296 := by
  rw [List.getD_eq_getElem?_getD]
  rcases hi : l[i]? with _ | x
  · simp
  · simpa using h x (List.mem_of_getElem? hi)
theorem KK_lt : ∀ x ∈ KK, x < 4294967296 := by decide
theorem HH_lt : ∀ x ∈ HH, x < 4294967296 := by decide

/-- one round -/
def rndL : List Nat → Nat → Nat → List Nat
  | [a, b, c, d, e, f, g, h], k, w => [add2 (t1N e f g h k w) (t2N a b c), a, b, c, add2 d (t1N e f g h k w), e, f, g]
  | l, _, _ => l
/-- eight words -/
def Eight (l : List Nat) : Prop := l.length = 8 ∧ ∀ x ∈ l, x < 4294967296
theorem Eight.parts {l : List Nat} (H : Eight l) : ∃ a b c d e f g h, l = [a, b, c, d, e, f, g, h] ∧ a < 4294967296 ∧ b < 4294967296 ∧ c < 4294967296 ∧ d < 4294967296 ∧ e < 4294967296 ∧ f < 4294967296 ∧ g < 4294967296 ∧ h < 4294967296 := by
  obtain ⟨hl, ha⟩ := H
  match l, hl with
  | [a, b, c, d, e, f, g, h], _ => exact ⟨a, b, c, d, e, f, g, h, rfl, ha a (by simp), ha b (by simp), ha c (by simp), ha d (by simp), ha e (by simp), ha f (by simp), ha g (by simp), ha h (by simp)⟩
theorem HH_eight : Eight HH := ⟨rfl, HH_lt⟩
theorem rndL_eight {l : List Nat} (H : Eight l) (k w : Nat) : Eight (rndL l k w) := by
  obtain ⟨a, b, c, d, e, f, g, h, rfl, h1, h2, h3, h4, h5, h6, h7, h8⟩ := H.parts
  refine ⟨rfl, ?_⟩
  intro x hx
  simp only [rndL, List.mem_cons, List.not_mem_nil, or_false] at hx
  rcases hx with rfl | rfl | rfl | rfl | rfl | rfl | rfl | rfl
  · exact add2_lt _ _
  · exact h1
  · exact h2
  · exact h3
  · exact add2_lt _ _
  · exact h5
  · exact h6
  · exact h7

/-- a block's words -/
def accN (b : List UInt8) (o : Nat) : Nat → Nat
  | 0 => 0
  | k + 1 => accN b o k * 256 + (b.getD (o + k) 0).toNat
theorem accN_lt (b : List UInt8) (o k : Nat) : accN b o k < 256 ^ k := by
  induction k with
  | zero => exact Nat.one_pos
  | succ k ih =>
    have h := (b.getD (o + k) 0).toNat_lt
    rw [accN, Nat.pow_succ]; omega
theorem accN_drop (b : List UInt8) (o k : Nat) : accN (b.drop o) 0 k = accN b o k := by
  induction k with
  | zero => rfl
  | succ k ih => rw [accN, accN, ih, List.getD_eq_getElem?_getD, List.getD_eq_getElem?_getD, List.getElem?_drop, Nat.zero_add]
def wordN (b : List UInt8) (t : Nat) : Nat := accN b (4 * t) 4
def nextN (l : List Nat) (t : Nat) : Nat := add2 (add2 (add2 (sg1 (l.getD (t - 2) 0)) (l.getD (t - 7) 0)) (sg0 (l.getD (t - 15) 0))) (l.getD (t - 16) 0)
def schedN (b : List UInt8) : Nat → List Nat
  | 0 => []
  | t + 1 => schedN b t ++ [if t < 16 then wordN b t else nextN (schedN b t) t]
theorem schedN_len (b : List UInt8) (t : Nat) : (schedN b t).length = t := by
  induction t with
  | zero => rfl
  | succ t ih => simp [schedN, ih]
theorem wordN_lt (b : List UInt8) (t : Nat) : wordN b t < 4294967296 := accN_lt b _ 4
theorem schedN_lt (b : List UInt8) (t : Nat) : ∀ x ∈ schedN b t, x < 4294967296 := by
  induction t with
  | zero => intro x hx; cases hx
  | succ t ih =>
    intro x hx
    rw [schedN, List.mem_append] at hx
    rcases hx with hx | hx
    · exact ih x hx
    · rw [List.mem_singleton] at hx
      subst hx
      split
      · exact wordN_lt b t
      · exact add2_lt _ _
/-- k rounds -/
def rndsN (st W : List Nat) : Nat → List Nat
  | 0 => st
  | k + 1 => rndL (rndsN st W k) (KK.getD k 0) (W.getD k 0)
theorem rndsN_eight {st : List Nat} (H : Eight st) (W : List Nat) (k : Nat) : Eight (rndsN st W k) := by
  induction k with
  | zero => exact H
  | succ k ih => exact rndL_eight ih _ _
/-- the words behind a block -/
def blockN (st : List Nat) (b : List UInt8) : List Nat := List.zipWith add2 st (rndsN st (schedN b 64) 64)
theorem zip_eight {l m : List Nat} (hl : Eight l) (hm : Eight m) : Eight (List.zipWith add2 l m) := by
  obtain ⟨a, b, c, d, e, f, g, h, rfl, _⟩ := hl.parts
  obtain ⟨a', b', c', d', e', f', g', h', rfl, _⟩ := hm.parts
  refine ⟨rfl, ?_⟩
  intro x hx
  simp only [List.zipWith_cons_cons, List.zipWith_nil_right, List.mem_cons, List.not_mem_nil, or_false] at hx
  rcases hx with rfl | rfl | rfl | rfl | rfl | rfl | rfl | rfl <;> exact add2_lt _ _
theorem blockN_eight {st : List Nat} (H : Eight st) (b : List UInt8) : Eight (blockN st b) := zip_eight H (rndsN_eight H _ _)
/-- the words behind all blocks -/
def blocksN : Nat → List Nat → List UInt8 → List Nat
  | 0, st, _ => st
  | n + 1, st, l => blocksN n (blockN st (l.take 64)) (l.drop 64)
theorem blocksN_eight : ∀ (n : Nat) {st : List Nat} (_ : Eight st) (l : List UInt8), Eight (blocksN n st l)
  | 0, _, H, _ => H
  | n + 1, _, H, _l => blocksN_eight n (blockN_eight H _) _
theorem blocksN_app : ∀ (n m : Nat) (st : List Nat) (a b : List UInt8), a.length = 64 * n → blocksN (n + m) st (a ++ b) = blocksN m (blocksN n st a) b
  | 0, m, st, a, b, h => by
    obtain rfl : a = [] := List.eq_nil_of_length_eq_zero (by omega)
    rw [Nat.zero_add]; rfl
  | n + 1, m, st, a, b, h => by
    rw [show n + 1 + m = n + m + 1 by omega, blocksN, blocksN, List.take_append_of_le_length (by omega), List.drop_append_of_le_length (by omega)]
    exact blocksN_app n m _ _ b (by rw [List.length_drop]; omega)
theorem blocksN_snoc (k : Nat) (st : List Nat) (l : List UInt8) (h : 64 * (k + 1) ≤ l.length) : blocksN (k + 1) st l = blockN (blocksN k st l) ((l.drop (64 * k)).take 64) := by
  induction k generalizing st l with
  | zero => rfl
  | succ k ih =>
    rw [blocksN, ih _ _ (by rw [List.length_drop]; omega), blocksN, List.drop_drop, show 64 + 64 * k = 64 * (k + 1) by omega]

def be4 (x : Nat) : List UInt8 := [UInt8.ofNat (x / 16777216), UInt8.ofNat (x / 65536), UInt8.ofNat (x / 256), UInt8.ofNat x]
def zerosN (n : Nat) : Nat := (119 - n % 64) % 64
/-- what is behind a text's whole blocks -/
def endL (rest : List UInt8) (size : Nat) : List UInt8 := rest ++ [128] ++ List.replicate (zerosN rest.length) 0 ++ be4 (8 * size / 4294967296) ++ be4 (8 * size)
theorem endL_len (rest : List UInt8) (size : Nat) : (endL rest size).length = rest.length + zerosN rest.length + 9 := by simp [endL, be4]; omega
theorem endL_mod (rest : List UInt8) (size : Nat) : (endL rest size).length % 64 = 0 := by rw [endL_len, zerosN]; omega
def shaW (l : List UInt8) : List Nat := blocksN ((endL l l.length).length / 64) HH (endL l l.length)
def shaL (l : List UInt8) : List UInt8 := (shaW l).flatMap be4
theorem shaW_eight (l : List UInt8) : Eight (shaW l) := blocksN_eight _ HH_eight _
theorem shaL_len (l : List UInt8) : (shaL l).length = 32 := by
  obtain ⟨a, b, c, d, e, f, g, h, hh, _⟩ := (shaW_eight l).parts
  rw [shaL, hh]; rfl
theorem shaW_parts (l : List UInt8) (q : Nat) (hq : q = l.length / 64) :
    shaW l = blocksN ((endL (l.drop (64 * q)) l.length).length / 64) (blocksN q HH (l.take (64 * q))) (endL (l.drop (64 * q)) l.length) := by
  have hz : zerosN l.length = zerosN (l.drop (64 * q)).length := by unfold zerosN; rw [List.length_drop]; congr 2; omega
  have he : endL l l.length = l.take (64 * q) ++ endL (l.drop (64 * q)) l.length := by
    unfold endL
    rw [← hz]
    simp only [← List.append_assoc, List.take_append_drop]
  have hl : (l.take (64 * q)).length = 64 * q := by rw [List.length_take]; omega
  rw [shaW, he, List.length_append, hl, show (64 * q + (endL (l.drop (64 * q)) l.length).length) / 64 = q + (endL (l.drop (64 * q)) l.length).length / 64 by omega]
  exact blocksN_app _ _ _ _ _ hl
theorem be4_take (W : List Nat) (k : Nat) (h : k < W.length) : (W.take (k + 1)).flatMap be4 = (W.take k).flatMap be4 ++ be4 (W.getD k 0) := by
  rw [List.take_succ_eq_append_getElem h, List.flatMap_append]
  simp [List.getD_eq_getElem?_getD, h]
theorem be4_len (W : List Nat) : (W.flatMap be4).length = 4 * W.length := by
  induction W with
  | nil => rfl
  | cons x W ih => rw [List.flatMap_cons, List.length_append, ih]; simp [be4]; omega
/- flatMap_take -/
def hexD (d : Nat) : UInt8 := if d < 10 then UInt8.ofNat (48 + d) else UInt8.ofNat (87 + d)
def markL (l : List UInt8) : List UInt8 := ((shaL l).take 8).flatMap fun b => [hexD (b.toNat / 16), hexD (b.toNat % 16)]
theorem markL_len (l : List UInt8) : (markL l).length = 16 := by
  have h : ∀ m : List UInt8, (m.flatMap fun b => [hexD (b.toNat / 16), hexD (b.toNat % 16)]).length = 2 * m.length := by
    intro m
    induction m with
    | nil => rfl
    | cons x m ih => rw [List.flatMap_cons, List.length_append, ih]; simp; omega
  rw [markL, h, List.length_take, shaL_len]; rfl
theorem mark_abc : markL [97, 98, 99] = [98, 97, 55, 56, 49, 54, 98, 102, 56, 102, 48, 49, 99, 102, 101, 97] := by decide +kernel

end Go.Proofs.YtkgnapojkijbgaaGreatDoor
/- The contracts of package seal's small functions on words. -/
namespace Go.Proofs.YtkgnapojkijbgaaGreatDoor
open Go.RowKit

theorem u64_neg31 {n : Nat} (h1 : 1 ≤ n) (hn : n ≤ 31) : bits .and .u64 (IntKind.u64.wrap (-(n : Int))) 31 = ((32 - n : Nat) : Int) := by
  have e : IntKind.u64.wrap (-(n : Int)) = ((18446744073709551616 - n : Nat) : Int) := by
    simp only [IntKind.wrap, IntKind.bits, IntKind.signed]; simp; omega
  rw [e]
  have := u64_and_nat (18446744073709551616 - n) 31 (by omega) (by omega)
  rw [show (31 : Nat) = 2 ^ 5 - 1 by rfl, Nat.and_two_pow_sub_one_eq_mod, show (18446744073709551616 - n) % 2 ^ 5 = 32 - n by omega] at this
  exact this

theorem rot_any (x n : Nat) (w : World) (hx : x < 4294967296) (h1 : 1 ≤ n) (hn : n ≤ 31) :
    Calls Tryz.prog 304 #[.int .u32 x, .int .i64 (-(n : Int))] w fun e w' => e = .returned (.int .u32 (rotN x n : Nat)) ∧ w = w' := by
  have hb := u64_neg31 h1 hn
  have hr := rotN_or (n := n) (x := x) (by omega) hx
  obtain ⟨m, hm⟩ : ∃ m, m = 32 - n := ⟨_, rfl⟩
  rw [← hm] at hb hr
  have hm1 : 1 ≤ m := by omega
  have hm2 : m ≤ 31 := by omega
  have hnm : n = 32 - m := by omega
  have HR := Lib.hid hr
  have HN := Lib.hid hnm
  clear hr hm hnm
  go_enter Tryz.func304, Tryz.ntmps304
  go_wp2
  go_ret
  refine ⟨?_, rfl⟩
  show Ending.returned (.int .u32 (bits .or .u32 ((x : Int) * 2 ^ m % 4294967296) ((x : Int) / 2 ^ (32 - m)))) = _
  have e1 : (x : Int) * 2 ^ m % 4294967296 = ((x * 2 ^ m % 4294967296 : Nat) : Int) := by rw [Int.natCast_emod, Int.natCast_mul, Int.natCast_pow]; rfl
  have e2 : (x : Int) / 2 ^ (32 - m) = ((x / 2 ^ (32 - m) : Nat) : Int) := by rw [Int.natCast_ediv, Int.natCast_pow]; rfl
  have h2 : x / 2 ^ (32 - m) < 4294967296 := Nat.lt_of_le_of_lt (Nat.div_le_self _ _) hx
  have h1 := HR.out
  rw [HN.out] at h1
  rw [e1, e2, u32_or_nat _ _ (Nat.mod_lt _ (by omega)) h2, h1, ← HN.out]

theorem turn_any (x n : Nat) (k : Int) (w : World) (hk : k = n) (hx : x < 4294967296) (h1 : 1 ≤ n) (hn : n ≤ 31) :
    Calls Tryz.prog 290 #[.int .u32 x, .int .i64 k] w fun e w' => e = .returned (.int .u32 (rotN x n : Nat)) ∧ w = w' := by
  subst hk
  go_enter Tryz.func290, Tryz.ntmps290
  go_wp2_with ((with_reducible refine (rot_any x n _ hx h1 hn).mono ?_); rintro e w2 ⟨rfl, rfl⟩)
  go_ret
  exact ⟨rfl, rfl⟩

theorem small0_any (x : Nat) (w : World) (hx : x < 4294967296) :
    Calls Tryz.prog 289 #[.int .u32 x] w fun e w' => e = .returned (.int .u32 (sg0 x : Nat)) ∧ w = w' := by
  have ha := rotN_lt (n := 7) (by omega) hx
  have hb := rotN_lt (n := 18) (by omega) hx
  go_enter Tryz.func289, Tryz.ntmps289
  go_wp2_with (first | ((with_reducible refine (turn_any x 7 7 _ rfl hx (by omega) (by omega)).mono ?_); rintro e w2 ⟨rfl, rfl⟩) | ((with_reducible refine (turn_any x 18 18 _ rfl hx (by omega) (by omega)).mono ?_); rintro e w2 ⟨rfl, rfl⟩))
  go_ret
  refine ⟨?_, rfl⟩
  show Ending.returned (.int .u32 (bits .xor .u32 (bits .xor .u32 (rotN x 7 : Nat) (rotN x 18 : Nat)) ((x : Int) / 8))) = _
  rw [u32_xor_nat _ _ ha hb, show (x : Int) / 8 = ((x / 8 : Nat) : Int) from rfl, u32_xor_nat _ _ (xor_lt ha hb) (by omega)]
  rfl

theorem small1_any (x : Nat) (w : World) (hx : x < 4294967296) :
    Calls Tryz.prog 288 #[.int .u32 x] w fun e w' => e = .returned (.int .u32 (sg1 x : Nat)) ∧ w = w' := by
  have ha := rotN_lt (n := 17) (by omega) hx
  have hb := rotN_lt (n := 19) (by omega) hx
  go_enter Tryz.func288, Tryz.ntmps288
  go_wp2_with (first | ((with_reducible refine (turn_any x 17 17 _ rfl hx (by omega) (by omega)).mono ?_); rintro e w2 ⟨rfl, rfl⟩) | ((with_reducible refine (turn_any x 19 19 _ rfl hx (by omega) (by omega)).mono ?_); rintro e w2 ⟨rfl, rfl⟩))
  go_ret
  refine ⟨?_, rfl⟩
  show Ending.returned (.int .u32 (bits .xor .u32 (bits .xor .u32 (rotN x 17 : Nat) (rotN x 19 : Nat)) ((x : Int) / 1024))) = _
  rw [u32_xor_nat _ _ ha hb, show (x : Int) / 1024 = ((x / 1024 : Nat) : Int) from rfl, u32_xor_nat _ _ (xor_lt ha hb) (by omega)]
  rfl

theorem great0_any (x : Nat) (w : World) (hx : x < 4294967296) :
    Calls Tryz.prog 259 #[.int .u32 x] w fun e w' => e = .returned (.int .u32 (bg0 x : Nat)) ∧ w = w' := by
  have ha := rotN_lt (n := 2) (by omega) hx
  have hb := rotN_lt (n := 13) (by omega) hx
  have hc := rotN_lt (n := 22) (by omega) hx
  go_enter Tryz.func259, Tryz.ntmps259
  go_wp2_with (first | ((with_reducible refine (turn_any x 2 2 _ rfl hx (by omega) (by omega)).mono ?_); rintro e w2 ⟨rfl, rfl⟩) | ((with_reducible refine (turn_any x 13 13 _ rfl hx (by omega) (by omega)).mono ?_); rintro e w2 ⟨rfl, rfl⟩) | ((with_reducible refine (turn_any x 22 22 _ rfl hx (by omega) (by omega)).mono ?_); rintro e w2 ⟨rfl, rfl⟩))
  go_ret
  refine ⟨?_, rfl⟩
  show Ending.returned (.int .u32 (bits .xor .u32 (bits .xor .u32 (rotN x 2 : Nat) (rotN x 13 : Nat)) (rotN x 22 : Nat))) = _
  rw [u32_xor_nat _ _ ha hb, u32_xor_nat _ _ (xor_lt ha hb) hc]
  rfl

theorem great1_any (x : Nat) (w : World) (hx : x < 4294967296) :
    Calls Tryz.prog 258 #[.int .u32 x] w fun e w' => e = .returned (.int .u32 (bg1 x : Nat)) ∧ w = w' := by
  have ha := rotN_lt (n := 6) (by omega) hx
  have hb := rotN_lt (n := 11) (by omega) hx
  have hc := rotN_lt (n := 25) (by omega) hx
  go_enter Tryz.func258, Tryz.ntmps258
  go_wp2_with (first | ((with_reducible refine (turn_any x 6 6 _ rfl hx (by omega) (by omega)).mono ?_); rintro e w2 ⟨rfl, rfl⟩) | ((with_reducible refine (turn_any x 11 11 _ rfl hx (by omega) (by omega)).mono ?_); rintro e w2 ⟨rfl, rfl⟩) | ((with_reducible refine (turn_any x 25 25 _ rfl hx (by omega) (by omega)).mono ?_); rintro e w2 ⟨rfl, rfl⟩))
  go_ret
  refine ⟨?_, rfl⟩
  show Ending.returned (.int .u32 (bits .xor .u32 (bits .xor .u32 (rotN x 6 : Nat) (rotN x 11 : Nat)) (rotN x 25 : Nat))) = _
  rw [u32_xor_nat _ _ ha hb, u32_xor_nat _ _ (xor_lt ha hb) hc]
  rfl

theorem u32_mul256 {x : Nat} {b : Nat} (hb : b < 256) (hx : x < 16777216) : bits .or .u32 ((x : Int) * 256) (b : Int) = ((x * 256 + b : Nat) : Int) := by
  rw [show (x : Int) * 256 = ((x * 256 : Nat) : Int) from rfl, u32_or_nat _ _ (by omega) (by omega), Nat.mul_comm x 256, show (256 : Nat) = 2 ^ 8 by rfl, Nat.two_pow_add_eq_or_of_lt (by omega)]

theorem getD_byte (s : ByteArray) (k : Nat) (h : k < s.size) : s.data.toList.getD k 0 = s[k] := by
  rw [List.getD_eq_getElem?_getD, List.getElem?_eq_getElem (by simpa using h)]; rfl

theorem readWord_any (s : ByteArray) (w : World) (h4 : 4 ≤ s.size) (hs : s.size ≤ maxLen) :
    Calls Tryz.prog 287 #[.string s] w fun e w' => e = .returned (.int .u32 (wordN s.data.toList 0 : Nat)) ∧ w = w' := by
  unfold maxLen at hs
  go_enter Tryz.func287, Tryz.ntmps287
  go_wp2
  go_loop [3, 5] (fun x i => ∃ k : Nat, k ≤ 4 ∧ i = .int .i64 k ∧ x = .int .u32 (accN s.data.toList 0 k : Nat)) (fun _ i => 4 - (intOf i).toNat)
  case atStart => exact ⟨0, by omega, rfl, rfl⟩
  case round =>
    obtain ⟨k, hk, rfl, rfl⟩ := hrel
    have hlt := accN_lt s.data.toList 0 k
    by_cases h1 : k < 4
    · have hp := Nat.pow_le_pow_right (n := 256) (by omega) (show k ≤ 3 by omega)
      have ha : accN s.data.toList 0 (k + 1) = accN s.data.toList 0 k * 256 + s[k].toNat := by
        rw [accN, Nat.zero_add, getD_byte s k (by omega)]
      have hor := u32_mul256 (x := accN s.data.toList 0 k) (b := s[k].toNat) s[k].toNat_lt (by omega)
      rw [← ha] at hor
      have hx : accN s.data.toList 0 k < 16777216 := by omega
      have HO := Lib.hid hor
      clear ha hp hor hlt
      generalize accN s.data.toList 0 k = X at *
      go_wp2
      go_round
      case rel => exact ⟨k + 1, by omega, by go_num, by rw [← HO.out, Int.emod_eq_of_lt (by omega) (by have := s[k].toNat_lt; omega)]⟩
      case measure => simp [intOf]; omega
    · obtain rfl : k = 4 := by omega
      go_wp2
      go_ret
      exact ⟨rfl, rfl⟩
end Go.Proofs.YtkgnapojkijbgaaGreatDoor
/- A block of memory that is known whole: its cells, what a store makes of it, what is loaded of it. It speaks of no one program. -/
namespace Go.Proofs.YtkgnapojkijbgaaGreatDoor
open Go.RowKit

def u32V (x : Nat) : Value := .int .u32 (x : Int)
def wordsV (l : List Nat) : List Value := l.map u32V
theorem wordsV_len (l : List Nat) : (wordsV l).length = l.length := by simp [wordsV]
theorem wordsV_app (a b : List Nat) : wordsV (a ++ b) = wordsV a ++ wordsV b := by simp [wordsV]

/-- block g is just these cells -/
def IsRow (w : World) (g T : Nat) (V : List Value) : Prop := w.heap[g]? = some (.cells V.toArray T (0, 0))
theorem IsRow.lt {w : World} {g T : Nat} {V : List Value} (h : IsRow w g T V) : g < w.heap.size := lt_of_block h
theorem IsRow.cell {w : World} {g T : Nat} {V : List Value} (h : IsRow w g T V) (i : Nat) (v : Value) (hv : V[i]? = some v) : w.cell? ⟨g, i, none⟩ = some v := by
  rw [cell_of_row w g i V.toArray T (0, 0) h]; simpa using hv
theorem IsRow.free {w : World} {g T : Nat} {V : List Value} (h : IsRow w g T V) (i : Nat) : w.frozen? ⟨g, i, none⟩ = false := by
  unfold IsRow at h
  simp [World.frozen?, h]
theorem IsRow.of_heap {w w' : World} {g T : Nat} {V : List Value} (h : IsRow w g T V) (e : w'.heap[g]? = w.heap[g]?) : IsRow w' g T V := e.trans h
theorem IsRow.below {w w' : World} {g T B : Nat} {V : List Value} (h : IsRow w g T V) (hb : Below B w w') (hg : g < B) : IsRow w' g T V := h.of_heap (hb.block g hg)
theorem IsRow.call {w w' : World} {g T : Nat} {V : List Value} (h : IsRow w g T V) (hb : Below w.heap.size w w') : IsRow w' g T V := h.below hb h.lt
theorem IsRow.alloc {w : World} {g T : Nat} {V : List Value} (h : IsRow w g T V) (o : Obj) : IsRow (w.alloc o) g T V := h.of_heap (Below.heap_alloc w o g h.lt)
theorem IsRow.new (w : World) (T : Nat) (V : List Value) : IsRow (w.alloc (.cells V.toArray T)) w.heap.size T V := heap_alloc_new w _
theorem IsRow.set {w : World} {g T : Nat} {V : List Value} (h : IsRow w g T V) (i : Nat) (v : Value) : IsRow (w.setCell ⟨g, i, none⟩ v) g T (V.set i v) := by
  have hlt := h.lt
  have hg' : w.heap[g] = .cells V.toArray T (0, 0) := by
    have h' := h
    unfold IsRow at h'
    simpa [Array.getElem?_eq_getElem hlt] using h'
  show (w.heap.modify g _)[g]? = _
  rw [Array.getElem?_eq_getElem (by simpa using hlt), Array.getElem_modify_self, hg']
  simp
theorem IsRow.other {w : World} {g T b i : Nat} {V : List Value} (h : IsRow w g T V) (hb : b ≠ g) (v : Value) : IsRow (w.setCell ⟨b, i, none⟩ v) g T V := by
  refine h.of_heap ?_
  show (w.heap.modify b _)[g]? = _
  rw [Array.getElem?_modify, if_neg hb]

theorem IsRow.rowSelf {w : World} {g T : Nat} {V : List Value} (h : IsRow w g T V) (U : List Value) : IsRow (w.setRow g U.toArray) g T U := setRow_heap w g _ U.toArray _ _ h
theorem IsRow.rowOther {w : World} {g b T : Nat} {V : List Value} (h : IsRow w g T V) (hb : g ≠ b) (U : Array Value) : IsRow (w.setRow b U) g T V := h.of_heap (setRow_other w b g U hb)
theorem wpList_world {P : Program} {ops : Array Oper} {Q : Exit → Act → World → Prop} {rest : List Oper} {a : Act} {w : World} (C : World → Prop) (hC : C w) (h : ∀ w', C w' → wpList P ops Q rest a w') : wpList P ops Q rest a w := h w hC
theorem wp_world {P : Program} {c : Code} {Q : Exit → Act → World → Prop} {a : Act} {w : World} (C : World → Prop) (hC : C w) (h : ∀ w', C w' → c.wp P Q a w') : c.wp P Q a w := h w hC
theorem word_at (l : List Nat) (i : Nat) (h : i < l.length) : (wordsV l)[i]? = some (.int .u32 ((l.getD i 0 : Nat) : Int)) := by
  simp [wordsV, u32V, h, List.getD_eq_getElem?_getD]
theorem getD_app_left (a b : List Nat) (i : Nat) (h : i < a.length) : (a ++ b).getD i 0 = a.getD i 0 := by
  rw [List.getD_eq_getElem?_getD, List.getD_eq_getElem?_getD, List.getElem?_append_left h]
theorem words_fill (S : List Nat) (x n t : Nat) (hS : S.length = t) (ht : t < n) :
    (wordsV (S ++ List.replicate (n - t) 0)).set t (.int .u32 (x : Int)) = wordsV (S ++ [x] ++ List.replicate (n - (t + 1)) 0) := by
  rw [show n - t = n - (t + 1) + 1 by omega, List.replicate_succ, wordsV_app]
  rw [List.set_append_right _ _ (by rw [wordsV_len]; omega), wordsV_len, hS, Nat.sub_self]
  simp [wordsV, u32V]
theorem u32_add (a b : Nat) : IntKind.u32.wrap ((a : Int) + (b : Int)) = ((add2 a b : Nat) : Int) := by
  rw [IntKind.wrap_u32, add2, Int.natCast_emod, Int.natCast_add]; rfl
theorem u32_mod (a b : Nat) : ((a : Int) + (b : Int)) % 4294967296 = ((add2 a b : Nat) : Int) := by
  rw [add2, Int.natCast_emod, Int.natCast_add]; rfl
theorem back_wrap {t k : Nat} (h : k ≤ t) (ht : t ≤ 64) (hk : k ≤ 64) : IntKind.i64.wrap ((t : Int) - (k : Int)) = (t : Int) - (k : Int) ∧ ((t : Int) - (k : Int)).toNat = t - k ∧ (k : Int) ≤ t ∧ (t : Int) - (k : Int) < 64 + 1 := by
  refine ⟨IntWalk.i64_in _ (by omega), by omega, by omega, by omega⟩
theorem below_setRow {base : Nat} {w w1 : World} {g : Nat} (h : Below base w w1) (hg : base ≤ g) (hs : base ≤ w1.heap.size) (V : Array Value) : Below base w (w1.setRow g V) := by
  refine h.grown (row := some g) ⟨rfl, rfl, rfl, by simp [World.setRow], fun k _ hk => setRow_other w1 g k _ (fun e => hk (by rw [e]))⟩ ?_ ?_
  · exact hs
  · intro k hk; cases hk; exact hg
theorem u32_ch {e f g : Nat} (he : e < 4294967296) (hf : f < 4294967296) (hg : g < 4294967296) :
    bits .xor .u32 (bits .and .u32 (e : Int) (f : Int)) (bits .and .u32 (bits .xor .u32 IntKind.u32.max (e : Int)) (g : Int)) = ((chN e f g : Nat) : Int) := by
  have h1 : bits .xor .u32 IntKind.u32.max (e : Int) = ((4294967295 - e : Nat) : Int) := by
    have h := u32_xor_nat 4294967295 e (by omega) he
    have h2 : 4294967295 ^^^ e = 4294967295 - e := by
      apply Nat.eq_of_testBit_eq
      intro i
      rw [show 4294967295 - e = 2 ^ 32 - (e + 1) by omega, Nat.testBit_two_pow_sub_succ (by omega), Nat.testBit_xor, show 4294967295 = 2 ^ 32 - 1 by omega, Nat.testBit_two_pow_sub_one]
      by_cases hi : i < 32
      · simp [hi]
      · simp [hi, Nat.testBit_lt_two_pow (x := e) (i := i) (by have := Nat.pow_le_pow_right (n := 2) (by omega) (show 32 ≤ i by omega); omega)]
    rw [h2] at h
    exact h
  rw [h1, u32_and_nat _ _ he hf, u32_and_nat _ _ (by omega) hg, u32_xor_nat _ _ (and_lt he) (and_lt (by omega))]
  rfl
theorem u32_ma {a b c : Nat} (ha : a < 4294967296) (hb : b < 4294967296) (hc : c < 4294967296) :
    bits .xor .u32 (bits .xor .u32 (bits .and .u32 (a : Int) (b : Int)) (bits .and .u32 (a : Int) (c : Int))) (bits .and .u32 (b : Int) (c : Int)) = ((maN a b c : Nat) : Int) := by
  rw [u32_and_nat _ _ ha hb, u32_and_nat _ _ ha hc, u32_and_nat _ _ hb hc, u32_xor_nat _ _ (and_lt ha) (and_lt ha), u32_xor_nat _ _ (xor_lt (and_lt ha) (and_lt ha)) (and_lt hb)]
  rfl
theorem run_storeCells_row {P : Program} (w : World) (g t : Nat) (old cells : Array Value) (hg : w.heap[g]? = some (.cells old t (0, 0))) (ho : old.size = cells.size) (h1 : cells.all (·.oneCell') = true) :
    (storeCells ⟨g, 0, none⟩ cells.toList 0).run P w = .ok () (w.setRow g cells) := by
  have := run_storeCells_from (P := P) g t cells.toList 0 old w hg (by simp; omega) (fun v hv => (Array.all_eq_true_iff_forall_mem.1 h1) v (by simpa using hv))
  simpa using this
theorem run_index_words {P : Program} (w : World) (t e n : Nat) (cs : Array Value) (i : Nat) (v : Value) (ht : P.underlying t = some (.array n e)) (he : P.underlying e = some (.int .u32))
    (hs : (P.info? e).map (·.size) = some 1) (hi : i < n) (hv : cs[i]? = some v) : (Instr.index t (.agg cs) (.int .i64 (i : Int))).run P w = .ok v w := by
  have hn : (0 : Int) ≤ (i : Int) ∧ (i : Int) < (n : Int) := by omega
  cases hq : P.info? e with
  | none => simp [hq] at hs
  | some d =>
    have hd : d.size = 1 := by simpa [hq] using hs
    simp [Instr.index, run_underlying ht, asIntOf, hi, sizeOf, typeInfo, hq, hd, part, isAgg, run_underlying he, hv]
theorem quiet_add_left {P : Program} {f : FuncId} {args : Array Value} {w : World} {a n : Nat} {v : Value}
    (h : Calls P f args (w.drewN (a + n)) fun e w' => e = .returned v ∧ w.drewN (a + n) = w') :
    Calls P f args (w.drewN (a + n)) fun e w'' => e = .returned v ∧ ∃ m, w'' = w.drewN (a + m) :=
  h.mono fun _ _ ⟨he, hm⟩ => ⟨he, n, hm.symm⟩
theorem quiet_left {P : Program} {f : FuncId} {args : Array Value} {w : World} {n : Nat} {v : Value}
    (h : Calls P f args (w.drewN n) fun e w' => e = .returned v ∧ w.drewN n = w') : Calls P f args (w.drewN n) fun e w'' => e = .returned v ∧ ∃ m, w'' = w.drewN m :=
  h.mono fun _ _ ⟨he, hm⟩ => ⟨he, n, hm.symm⟩
end Go.Proofs.YtkgnapojkijbgaaGreatDoor
/- A piece of a text, as a list. -/
namespace Go.Proofs.YtkgnapojkijbgaaGreatDoor

theorem extract_list (s : ByteArray) (a b : Nat) : (s.extract a b).data.toList = (s.data.toList.drop a).take (b - a) := Lib.extract_data s a b
end Go.Proofs.YtkgnapojkijbgaaGreatDoor
/- The contracts of package seal's rounds. -/
namespace Go.Proofs.YtkgnapojkijbgaaGreatDoor
open Go.RowKit

theorem zeros64 : (#[Value.int .u32 0] : Array Value).toList ++ [] = [u32V 0] := rfl

set_option maxHeartbeats 800000 in
set_option maxRecDepth 100000 in
theorem spread_any (s : ByteArray) (w : World) (hs : s.size = 64) :
    Calls Tryz.prog 257 #[.string s] w fun e w' => e = .returned (.agg (wordsV (schedN s.data.toList 64)).toArray) ∧ Below w.heap.size w w' := by
  have hs1 : 64 ≤ s.size := by omega
  have hs2 : s.size ≤ 64 := by omega
  have HS := Lib.hid hs
  clear hs
  go_enter Tryz.func257, Tryz.ntmps257
  go_wp2
  go_loopw [5] (fun i wr => ∃ t : Nat, t ≤ 64 ∧ i = .int .i64 t ∧ IsRow wr (w.heap.size + 1) 239 (wordsV (schedN s.data.toList t ++ List.replicate (64 - t) 0)) ∧ IsRow wr w.heap.size 239 (wordsV (List.replicate 64 0)) ∧ Below w.heap.size w wr) (fun i _ => 64 - (intOf i).toNat)
  case atStart =>
    refine ⟨0, by omega, rfl, ?_, ?_, ?_⟩
    · have h := IsRow.new (w.alloc (.cells (wordsV (List.replicate 64 0)).toArray 239)) 239 (wordsV (List.replicate 64 0))
      rw [World.size_alloc] at h
      exact h
    · exact (IsRow.new w _ (wordsV (List.replicate 64 0))).alloc _
    · exact ((Below.refl _ _).alloc (Nat.le_refl _) _).alloc (by simp) _
  case round =>
    obtain ⟨t, ht, rfl, hrow, hres, hb⟩ := hrel
    have hlen := schedN_len s.data.toList t
    by_cases h64 : t < 64
    · have hfill := words_fill (schedN s.data.toList t) (if t < 16 then wordN s.data.toList t else nextN (schedN s.data.toList t) t) 64 t hlen h64
      have hsch : schedN s.data.toList (t + 1) = schedN s.data.toList t ++ [if t < 16 then wordN s.data.toList t else nextN (schedN s.data.toList t) t] := rfl
      rw [← hsch] at hfill
      by_cases h16 : t < 16
      · rw [if_pos h16] at hfill
        have hw : wordN (s.extract (4 * t) s.size).data.toList 0 = wordN s.data.toList t := by
          rw [extract_list, List.take_of_length_le (by simp)]
          exact accN_drop _ _ 4
        have hwr := fun W => readWord_any (s.extract (4 * t) s.size) W (by simp [ByteArray.size_extract]; omega) (by unfold maxLen; simp [ByteArray.size_extract]; omega)
        rw [hw] at hwr
        have hc := hrow.cell t (.int .u32 ((((schedN s.data.toList t ++ List.replicate (64 - t) 0).getD t 0) : Nat) : Int)) (word_at _ t (by simp [hlen]; omega))
        have hf := hrow.free t
        have HF := Lib.hid hfill
        have HW := Lib.hid hwr
        clear hfill hwr hw hsch hlen
        go_wp2_with ((with_reducible refine (HW.out _).mono ?_); rintro e w2 ⟨rfl, rfl⟩)
        go_roundw
        case rel => exact ⟨t + 1, by omega, by go_num, by rw [← HF.out]; exact hrow.set _ _, hres.other (Nat.succ_ne_self _) _, hb.setCell (Nat.le_succ _) _⟩
        case measure => simp [intOf]; omega
      · rw [if_neg h16] at hfill
        have hX : ∀ i, i < t → (schedN s.data.toList t ++ List.replicate (64 - t) 0).getD i 0 = (schedN s.data.toList t).getD i 0 := fun i hi => getD_app_left _ _ i (by omega)
        have hlt := schedN_lt s.data.toList t
        have hA : ∀ i, i < t → wr.cell? ⟨w.heap.size + 1, i, none⟩ = some (.int .u32 (((schedN s.data.toList t).getD i 0 : Nat) : Int)) := fun i hi => by
          rw [← hX i hi]; exact hrow.cell i _ (word_at _ i (by simp [hlen]; omega))
        have c2 := hA (t - 2) (by omega)
        have c7 := hA (t - 7) (by omega)
        have c15 := hA (t - 15) (by omega)
        have c16 := hA (t - 16) (by omega)
        have l2 := getD_lt hlt (t - 2)
        have l7 := getD_lt hlt (t - 7)
        have l15 := getD_lt hlt (t - 15)
        have l16 := getD_lt hlt (t - 16)
        have hnx : nextN (schedN s.data.toList t) t = add2 (add2 (add2 (sg1 ((schedN s.data.toList t).getD (t - 2) 0)) ((schedN s.data.toList t).getD (t - 7) 0)) (sg0 ((schedN s.data.toList t).getD (t - 15) 0))) ((schedN s.data.toList t).getD (t - 16) 0) := rfl
        have hc := hrow.cell t (.int .u32 ((((schedN s.data.toList t ++ List.replicate (64 - t) 0).getD t 0) : Nat) : Int)) (word_at _ t (by simp [hlen]; omega))
        have hf := hrow.free t
        rw [hnx] at hfill
        have HF := Lib.hid hfill
        clear hfill hnx hX hA hlt hsch hlen
        generalize (schedN s.data.toList t).getD (t - 2) 0 = x2 at *
        generalize (schedN s.data.toList t).getD (t - 7) 0 = x7 at *
        generalize (schedN s.data.toList t).getD (t - 15) 0 = x15 at *
        generalize (schedN s.data.toList t).getD (t - 16) 0 = x16 at *
        have b2 := sg1_lt l2
        have b15 := sg0_lt l15
        have A2 := u32_add
        have w2 : IntKind.i64.wrap ((t : Int) - 2) = (t : Int) - 2 := IntWalk.i64_in _ (by omega)
        have w7 : IntKind.i64.wrap ((t : Int) - 7) = (t : Int) - 7 := IntWalk.i64_in _ (by omega)
        have w15 : IntKind.i64.wrap ((t : Int) - 15) = (t : Int) - 15 := IntWalk.i64_in _ (by omega)
        have w16 : IntKind.i64.wrap ((t : Int) - 16) = (t : Int) - 16 := IntWalk.i64_in _ (by omega)
        have n2 : ((t : Int) - 2).toNat = t - 2 := by omega
        have n7 : ((t : Int) - 7).toNat = t - 7 := by omega
        have n15 : ((t : Int) - 15).toNat = t - 15 := by omega
        have n16 : ((t : Int) - 16).toNat = t - 16 := by omega
        have g2 : (2 : Int) ≤ t := by omega
        have g7 : (7 : Int) ≤ t := by omega
        have g15 : (15 : Int) ≤ t := by omega
        have m2 : (t : Int) - 2 < 64 := by omega
        have m7 : (t : Int) - 7 < 64 := by omega
        have m15 : (t : Int) - 15 < 64 := by omega
        have m16 : (t : Int) - 16 < 64 := by omega
        go_wp2_with fail
        go_still_tail 23, (by kernel_rfl)
        repeat (first | still_call ((small1_any x2 _ l2).mono fun e w' h => ⟨h.1, h.2.symm⟩) | still_call ((small0_any x15 _ l15).mono fun e w' h => ⟨h.1, h.2.symm⟩) | still_step)
        refine wpStill_nil ?_
        change wpList _ _ _ _ _ wr.drew
        have hrow' : IsRow wr.drew _ _ _ := hrow
        have hres' : IsRow wr.drew _ _ _ := hres
        have hc' : wr.drew.cell? _ = _ := hc
        have hf' : wr.drew.frozen? _ = _ := hf
        have hb' : Below w.heap.size w wr.drew := below_drewN hb 1
        clear hrow hres hc hf hb c2 c7 c15 c16
        generalize wr.drew = w2 at *
        go_wp2
        go_roundw
        case rel => exact ⟨t + 1, by omega, by go_num, by rw [← HF.out]; exact hrow'.set _ _, hres'.other (Nat.succ_ne_self _) _, hb'.setCell (Nat.le_succ _) _⟩
        case measure => simp [intOf]; omega
    · have ht64 : t = 64 := by omega
      have hend : Hid (Ending.returned (.agg (wordsV (schedN s.data.toList 64)).toArray) = Ending.returned (.agg (wordsV (schedN s.data.toList t)).toArray)) := Lib.hid (by rw [ht64])
      generalize schedN s.data.toList t = S at *
      have hS : S.length = 64 := by omega
      have hV : (wordsV S).toArray.size = 64 := by rw [List.size_toArray, wordsV_len, hS]
      have hone : (wordsV S).toArray.all (·.oneCell') = true := by simp [wordsV, u32V, Value.oneCell']
      have hk : wordsV (S ++ List.replicate (64 - t) 0) = wordsV S := by rw [show 64 - t = 0 by omega]; simp
      rw [hk] at hrow
      have hi71 : (Tryz.prog.info? 239).map (·.size) = some 64 := by kernel_rfl
      have hbl : Below w.heap.size w (wr.setRow w.heap.size (wordsV S).toArray) := below_setRow hb (Nat.le_refl _) hb.size _
      have hrow2 : (wr.setRow w.heap.size (wordsV S).toArray).heap[w.heap.size]? = _ := setRow_heap wr w.heap.size _ (wordsV S).toArray _ _ hres
      have hV71 : (Tryz.prog.info? 239).map (·.size) = some (wordsV S).toArray.size := by rw [hi71, hV]
      have hold : (wordsV (List.replicate 64 0)).toArray.size = (wordsV S).toArray.size := by rw [hV]; simp [wordsV]
      have h64' : 64 ≤ t := by omega
      clear hk hS hi71 hV hlen h64 ht64 ht
      unfold IsRow at hrow hres
      generalize (wordsV S).toArray = V at *
      go_upto_region 9 with fail
      go_wp2_with (first | (refine wpList_load_row rfl 239 _ rfl (w.heap.size + 1) rfl _ _ _ _ hrow Tryz.underlying239 rfl hV71 ?_) | (refine wpList_store_row rfl 239 _ _ rfl w.heap.size V rfl rfl _ _ hres hV71 hold hone ?_))
      refine bodyPost_ret (v := .agg V) ?_ rfl ⟨hend.out.symm, hbl⟩
      exact results_cell_row rfl _ _ w.heap.size _ _ _ _ rfl hrow2 Tryz.underlying239 rfl hV71
end Go.Proofs.YtkgnapojkijbgaaGreatDoor
/- The contract of package seal's mix: the words behind a block. -/
namespace Go.Proofs.YtkgnapojkijbgaaGreatDoor
open Go.RowKit

/-- the two tables, as they are laid -/
def Tabs (w : World) : Prop := (0 < w.heap.size ∧ 3 < w.heap.size) ∧ (∀ i, i < 8 → w.cell? ⟨0, i, none⟩ = some (.int .u32 ((HH.getD i 0 : Nat) : Int))) ∧ ∀ i, i < 64 → w.cell? ⟨3, i, none⟩ = some (.int .u32 ((KK.getD i 0 : Nat) : Int))
theorem Tabs.call {w w' : World} {B : Nat} (h : Tabs w) (hb : Below B w w') (hB : 0 < B ∧ 3 < B) (hs : B ≤ w'.heap.size) : Tabs w' :=
  ⟨by omega, fun i hi => (hb.cell (p := ⟨0, i, none⟩) (show 0 < B by omega)).trans (h.2.1 i hi), fun i hi => (hb.cell (p := ⟨3, i, none⟩) (show 3 < B by omega)).trans (h.2.2 i hi)⟩

theorem sum_front (d h c k x : Nat) : ((d : Int) + ((h : Int) + (c : Int) + (k : Int) + (x : Int))) % 4294967296 = ((add2 d (add2 (add2 (add2 h c) k) x) : Nat) : Int) := by
  unfold add2; omega
theorem sum_back (d h c k x : Nat) : ((h : Int) + (c : Int) + (k : Int) + (x : Int) + (d : Int)) % 4294967296 = ((add2 (add2 (add2 (add2 h c) k) x) d : Nat) : Int) := by
  unfold add2; omega

set_option maxHeartbeats 1600000 in
set_option maxRecDepth 100000 in
theorem mix_any (s : ByteArray) (st : List Nat) (w : World) (hs : s.size = 64) (hst : Eight st) (hT : Tabs w) :
    Calls Tryz.prog 188 #[.agg (wordsV st).toArray, .string s] w fun e w' => e = .returned (.agg (wordsV (blockN st s.data.toList)).toArray) ∧ Below w.heap.size w w' := by
  obtain ⟨W, hW⟩ : ∃ W, W = schedN s.data.toList 64 := ⟨_, rfl⟩
  have hWl : W.length = 64 := by rw [hW, schedN_len]
  have hWb : ∀ x ∈ W, x < 4294967296 := by rw [hW]; exact schedN_lt _ _
  have hsp := fun w => spread_any s w hs
  have hbl : blockN st s.data.toList = List.zipWith add2 st (rndsN st W 64) := by rw [blockN, hW]
  rw [hbl]
  rw [← hW] at hsp
  obtain ⟨V, hV⟩ : ∃ V, V = (wordsV W).toArray := ⟨_, rfl⟩
  rw [← hV] at hsp
  have hVi : ∀ i, i < 64 → V[i]? = some (.int .u32 ((W.getD i 0 : Nat) : Int)) := fun i hi => by
    rw [hV]; simpa using word_at W i (by omega)
  have hVs : V.size = 64 := by rw [hV]; simp [wordsV_len, hWl]
  clear hW hV hbl
  obtain ⟨a, b, c, d, e, f, g, y, rfl, ha, hb, hc, hd, he, hf, hg, hh⟩ := hst.parts
  have HSP := Lib.hid hsp
  have HVI := Lib.hid hVi
  have HVS := Lib.hid hVs
  have HWB := Lib.hid hWb
  have HT := Lib.hid hT
  clear hsp hVi hVs hWb hT hWl
  simp only [wordsV, u32V, List.map_cons, List.map_nil]
  go_enter Tryz.func188, Tryz.ntmps188
  go_wp2_with ((with_reducible refine (HSP.out _).mono ?_); rintro e w2 ⟨rfl, hb2⟩)
  have hz : w.heap.size + 1 + 1 < w2.heap.size := by have := hb2.size; simp at this; omega
  have r5 : IsRow w2 (w.heap.size + 1 + 1) 154 (wordsV [a, b, c, d, e, f, g, y]) := by
    refine IsRow.call ?_ hb2
    have := IsRow.new ((w.alloc (.cells (wordsV [a, b, c, d, e, f, g, y]).toArray 154)).alloc (.cells (wordsV [0, 0, 0, 0, 0, 0, 0, 0]).toArray 154)) 154 (wordsV [a, b, c, d, e, f, g, y])
    rw [World.size_alloc, World.size_alloc] at this
    exact this
  have r4 : IsRow w2 (w.heap.size + 1) 154 (wordsV [0, 0, 0, 0, 0, 0, 0, 0]) := by
    refine IsRow.call (IsRow.alloc ?_ _) hb2
    have := IsRow.new (w.alloc (.cells (wordsV [a, b, c, d, e, f, g, y]).toArray 154)) 154 (wordsV [0, 0, 0, 0, 0, 0, 0, 0])
    rw [World.size_alloc] at this
    exact this
  have r2 : IsRow w2 w.heap.size 154 (wordsV [a, b, c, d, e, f, g, y]) :=
    IsRow.call (((IsRow.new w _ (wordsV [a, b, c, d, e, f, g, y])).alloc _).alloc _) hb2
  have hB : Below w.heap.size w w2 := ((((Below.refl _ _).alloc (Nat.le_refl _) _).alloc (by simp) _).alloc (by simp; omega) _).trans (hb2.mono (by simp; omega))
  clear hb2 HSP
  go_loopw [21] (fun i wr => ∃ k : Nat, k ≤ 64 ∧ i = .int .i64 k ∧ IsRow wr (w.heap.size + 1 + 1) 154 (wordsV (rndsN [a, b, c, d, e, f, g, y] W k)) ∧ IsRow wr (w.heap.size + 1) 154 (wordsV [0, 0, 0, 0, 0, 0, 0, 0]) ∧ IsRow wr w.heap.size 154 (wordsV [a, b, c, d, e, f, g, y]) ∧ Below w.heap.size w wr ∧ w.heap.size + 1 + 1 < wr.heap.size) (fun i _ => 64 - (intOf i).toNat)
  case atStart => exact ⟨0, by omega, rfl, r5, r4, r2, hB, hz⟩
  case round =>
    clear r5 r4 r2 hB hz
    obtain ⟨k, hk, rfl, r5, r4, r2, hB, hz⟩ := hrel
    have h8 := rndsN_eight hst W k
    by_cases hlt : k < 64
    · have hx := fun wx => run_index_words (P := Tryz.prog) wx 239 122 64 V k _ Tryz.underlying239 Tryz.underlying122 (by kernel_rfl) hlt (HVI.out k hlt)
      have hxb := getD_lt HWB.out k
      have hKb := getD_lt KK_lt k
      have hnext : rndsN [a, b, c, d, e, f, g, y] W (k + 1) = rndL (rndsN [a, b, c, d, e, f, g, y] W k) (KK.getD k 0) (W.getD k 0) := rfl
      have hKc := (hB.cell (p := ⟨3, k, none⟩) (show 3 < w.heap.size by have := HT.out.1; omega)).trans (HT.out.2.2 k hlt)
      obtain ⟨A, B, C, D, E, F, G, H, hp, hA, hB', hC, hD, hE, hF, hG, hH⟩ := h8.parts
      rw [hp] at hnext r5
      rw [rndL] at hnext
      have c0 := r5.cell 0 _ (word_at _ 0 (by simp))
      have c1 := r5.cell 1 _ (word_at _ 1 (by simp))
      have c2 := r5.cell 2 _ (word_at _ 2 (by simp))
      have c3 := r5.cell 3 _ (word_at _ 3 (by simp))
      have c4 := r5.cell 4 _ (word_at _ 4 (by simp))
      have c5 := r5.cell 5 _ (word_at _ 5 (by simp))
      have c6 := r5.cell 6 _ (word_at _ 6 (by simp))
      have c7 := r5.cell 7 _ (word_at _ 7 (by simp))
      simp only [List.getD_cons_zero, List.getD_cons_succ] at c0 c1 c2 c3 c4 c5 c6 c7
      have HN := Lib.hid hnext
      clear hnext hp h8
      generalize W.getD k 0 = x at *
      generalize KK.getD k 0 = K at *
      have A2 := u32_add
      have M2 := u32_mod
      have hch := u32_ch hE hF hG
      have hma := u32_ma hA hB' hC
      have hb1 := bg1_lt hE
      have hb0 := bg0_lt hA
      go_wp2_with fail
      go_quiet (fail)
      go_wp2_with fail
      go_quiet (fail)
      go_wp2_with fail
      go_quiet ((go_at_call 258; first | exact quiet_add_left (great1_any _ _ hE) | exact quiet_left (great1_any _ _ hE)))
      go_wp2_with ((with_reducible refine (great0_any _ _ hA).mono ?_); rintro e w3 ⟨rfl, rfl⟩)
      clear hx hKc hch hma c0 c1 c2 c3 c4 c5 c6 c7
      go_still_tail 2, (by kernel_rfl)
      refine wpList_copy_own rfl (.tmp 72) (.tmp 73) 119 119 rfl 122 Tryz.underlying119 (by kernel_rfl) (w.heap.size + 1 + 1) 1 7 7 ⟨w.heap.size + 1 + 1, 0, none⟩ 7 8 rfl rfl _ _ r5 (wordsV [A, B, C, D, E, F, G]) rfl ?hsrc (by simp [wordsV]) (by simp [wordsV, u32V, Value.oneCell']) ?_
      case hsrc =>
        intro j v hv
        have e0 : (⟨w.heap.size + 1 + 1, 0, none⟩ : Addr).add j = ⟨w.heap.size + 1 + 1, j, none⟩ := by unfold Addr.add; split <;> simp_all
        rw [e0]
        refine IsRow.cell (w := wr) r5 j v ?_
        have hj : j < 7 := by simpa [wordsV] using (List.getElem?_eq_some_iff.1 hv).1
        rw [show wordsV [A, B, C, D, E, F, G, H] = wordsV [A, B, C, D, E, F, G] ++ [u32V H] from rfl, List.getElem?_append_left (by simpa [wordsV] using hj)]
        exact hv
      refine wpList_world (fun wx => IsRow wx (w.heap.size + 1 + 1) 154 (wordsV [A, A, B, C, D, E, F, G]) ∧ IsRow wx (w.heap.size + 1) 154 (wordsV [0, 0, 0, 0, 0, 0, 0, 0]) ∧ IsRow wx w.heap.size 154 (wordsV [a, b, c, d, e, f, g, y]) ∧ Below w.heap.size w wx ∧ w.heap.size + 1 + 1 < wx.heap.size) ?_ ?_
      · refine ⟨IsRow.rowSelf (w := wr) r5 (wordsV [A, A, B, C, D, E, F, G]), IsRow.rowOther (w := wr) r4 (by omega) _, IsRow.rowOther (w := wr) r2 (by omega) _, ?_, ?_⟩
        · exact below_setRow (w1 := World.drew _) (below_drewN (below_drewN hB _) 1) (by omega) (Nat.le_of_lt (Nat.lt_of_le_of_lt (by omega) hz)) _
        · simpa [World.setRow] using hz
      clear r5 r4 r2 hB hz
      rintro wx ⟨r5, r4, r2, hB, hz⟩
      have c4 := r5.cell 4 _ (word_at _ 4 (by simp))
      have c0 := r5.cell 0 _ (word_at _ 0 (by simp))
      simp only [List.getD_cons_zero, List.getD_cons_succ] at c0 c4
      have f4 := r5.free 4
      have f0 := r5.free 0
      go_wp2
      go_roundw
      case rel =>
        refine ⟨k + 1, by omega, by go_num, ?_, ?_, ?_, ?_, ?_⟩
        · rw [HN.out, sum_front, sum_back]; exact (r5.set 4 _).set 0 _
        · exact (r4.other (b := w.heap.size + 1 + 1) (by omega) _).other (b := w.heap.size + 1 + 1) (by omega) _
        · exact (r2.other (b := w.heap.size + 1 + 1) (by omega) _).other (b := w.heap.size + 1 + 1) (by omega) _
        · exact (hB.setCell (p := ⟨w.heap.size + 1 + 1, 4, none⟩) (show w.heap.size ≤ w.heap.size + 1 + 1 by omega) _).setCell (p := ⟨w.heap.size + 1 + 1, 0, none⟩) (show w.heap.size ≤ w.heap.size + 1 + 1 by omega) _
        · simpa using hz
      case measure => simp [intOf]; omega
    · have hk64 : 64 ≤ k := by omega
      obtain ⟨R, hR⟩ : ∃ R, R = rndsN [a, b, c, d, e, f, g, y] W k := ⟨_, rfl⟩
      rw [← hR] at h8 r5
      have HR : Hid (rndsN [a, b, c, d, e, f, g, y] W 64 = R) := Lib.hid (by rw [hR, show k = 64 by omega])
      clear hR hlt
      obtain ⟨A, B, C, D, E, F, G, H, rfl, hA, hB', hC, hD, hE, hF, hG, hH⟩ := h8.parts
      have M2 := u32_mod
      have A2 := u32_add
      go_wp2_with fail
      go_loopw [85] (fun i wx => ∃ (k : Nat) (T : List Nat), k ≤ 8 ∧ i = .int .i64 k ∧ T = List.zipWith add2 [a, b, c, d, e, f, g, y] [A, B, C, D, E, F, G, H] ∧ IsRow wx (w.heap.size + 1 + 1) 154 (wordsV [A, B, C, D, E, F, G, H]) ∧ IsRow wx (w.heap.size + 1) 154 (wordsV [0, 0, 0, 0, 0, 0, 0, 0]) ∧ IsRow wx w.heap.size 154 (wordsV (T.take k ++ [a, b, c, d, e, f, g, y].drop k)) ∧ Below w.heap.size w wx) (fun i _ => 8 - (intOf i).toNat)
      case atStart => exact ⟨0, _, by omega, rfl, rfl, r5, r4, r2, hB⟩
      case round =>
        clear r5 r4 r2 hB
        obtain ⟨k, T, hk8, rfl, hT8, r5, r4, r2, hB⟩ := hrel
        have hTl : T.length = 8 := by rw [hT8]; rfl
        have HT8 := Lib.hid hT8
        by_cases hk7 : k < 8
        · have hl2 : (T.take k ++ [a, b, c, d, e, f, g, y].drop k).length = 8 := by simp; omega
          have c2 := r2.cell k _ (word_at _ k (by rw [hl2]; exact hk7))
          have c5 := r5.cell k _ (word_at _ k (by simpa using hk7))
          have f2 := r2.free k
          have g2 : (T.take k ++ [a, b, c, d, e, f, g, y].drop k).getD k 0 = [a, b, c, d, e, f, g, y].getD k 0 := by
            rw [List.getD_eq_getElem?_getD, List.getD_eq_getElem?_getD, List.getElem?_append_right (by simp; omega), List.getElem?_drop]
            congr 2; simp; omega
          have hnx : (wordsV (T.take k ++ [a, b, c, d, e, f, g, y].drop k)).set k (.int .u32 ((add2 ([a, b, c, d, e, f, g, y].getD k 0) ([A, B, C, D, E, F, G, H].getD k 0) : Nat) : Int)) = wordsV (T.take (k + 1) ++ [a, b, c, d, e, f, g, y].drop (k + 1)) := by
            have hT8 := HT8.out
            clear HT8
            subst hT8
            match k, hk7 with
            | 0, _ => rfl
            | 1, _ => rfl
            | 2, _ => rfl
            | 3, _ => rfl
            | 4, _ => rfl
            | 5, _ => rfl
            | 6, _ => rfl
            | 7, _ => rfl
          rw [g2] at c2
          have HN := Lib.hid hnx
          clear hnx g2 hl2 hT8
          generalize [a, b, c, d, e, f, g, y].getD k 0 = u at *
          generalize [A, B, C, D, E, F, G, H].getD k 0 = v at *
          go_wp2_with fail
          go_still_tail 7, (by kernel_rfl)
          refine wpList_world (fun wz => IsRow wz (w.heap.size + 1 + 1) 154 (wordsV [A, B, C, D, E, F, G, H]) ∧ IsRow wz (w.heap.size + 1) 154 (wordsV [0, 0, 0, 0, 0, 0, 0, 0]) ∧ IsRow wz w.heap.size 154 (wordsV (T.take k ++ [a, b, c, d, e, f, g, y].drop k)) ∧ Below w.heap.size w wz ∧
            (∃ v, wz.cell? ⟨w.heap.size, k, none⟩ = some v) ∧ wz.frozen? ⟨w.heap.size, k, none⟩ = false) ⟨r5, r4, r2, below_drewN hB 1, ⟨_, c2⟩, f2⟩ ?_
          clear r5 r4 r2 hB c2 c5 f2
          rintro wz ⟨r5, r4, r2, hB, ⟨v9, c2⟩, f2⟩
          go_wp2
          go_roundw
          case rel =>
            refine ⟨k + 1, T, by omega, by go_num, HT8.out, ?_, ?_, ?_, ?_⟩
            · exact r5.other (b := w.heap.size) (by omega) _
            · exact r4.other (b := w.heap.size) (by omega) _
            · rw [← HN.out]; exact r2.set k _
            · exact hB.setCell (p := ⟨w.heap.size, k, none⟩) (Nat.le_refl _) _
          case measure => simp [intOf]; omega
        · obtain rfl : k = 8 := by omega
          have hfull : T.take 8 ++ [a, b, c, d, e, f, g, y].drop 8 = T := by
            rw [List.take_of_length_le (by omega)]; simp
          rw [hfull] at r2
          have hV8 : (Tryz.prog.info? 154).map (·.size) = some (wordsV T).toArray.size := by
            rw [List.size_toArray, wordsV_len, hTl]; kernel_rfl
          have hone : (wordsV T).toArray.all (·.oneCell') = true := by simp [wordsV, u32V, Value.oneCell']
          have hold : (wordsV [0, 0, 0, 0, 0, 0, 0, 0]).toArray.size = (wordsV T).toArray.size := by
            rw [List.size_toArray, List.size_toArray, wordsV_len, wordsV_len, hTl]; rfl
          have hrow2 := IsRow.rowSelf r4 (wordsV T)
          have hbl := below_setRow hB (Nat.le_succ w.heap.size) hB.size (wordsV T).toArray
          have HE : Hid (Ending.returned (.agg (List.map u32V (List.zipWith add2 [a, b, c, d, e, f, g, y] (rndsN [a, b, c, d, e, f, g, y] W 64))).toArray) = Ending.returned (.agg (wordsV T).toArray)) := Lib.hid (by rw [HR.out, ← HT8.out]; rfl)
          unfold IsRow at r2 r4 hrow2
          generalize (wordsV T).toArray = X at *
          go_upto_region 18 with fail
          go_wp2_with (first | (refine wpList_load_row rfl 154 _ rfl w.heap.size rfl _ _ _ _ r2 Tryz.underlying154 rfl hV8 ?_) | (refine wpList_store_row rfl 154 _ _ rfl (w.heap.size + 1) X rfl rfl _ _ r4 hV8 hold hone ?_))
          refine bodyPost_ret (v := .agg X) ?_ rfl ⟨HE.out.symm, hbl⟩
          exact results_cell_row rfl _ _ (w.heap.size + 1) _ _ _ _ rfl hrow2 Tryz.underlying154 rfl hV8
end Go.Proofs.YtkgnapojkijbgaaGreatDoor
/- A block of bytes that a text was turned into, which is read, written and turned into a text again. It speaks of no one program. -/
namespace Go.Proofs.YtkgnapojkijbgaaGreatDoor
open Go.RowKit

/-- block g holds the bytes l, none of them frozen -/
def HasBytes (w : World) (g : Nat) (l : List UInt8) : Prop :=
  ∃ (cur : Array Value) (e lo hi : Nat), w.heap[g]? = some (.cells cur e (lo, hi)) ∧ (l.length ≤ lo ∨ hi = 0) ∧ ∀ j (h : j < l.length), cur[j]? = some (.int .u8 (l[j].toNat : Int))

theorem HasBytes.lt {w : World} {g : Nat} {l : List UInt8} (h : HasBytes w g l) : g < w.heap.size := by
  obtain ⟨cur, e, lo, hi, hg, _⟩ := h
  exact lt_of_block hg
theorem HasBytes.cell {w : World} {g : Nat} {l : List UInt8} (h : HasBytes w g l) (j : Nat) (hj : j < l.length) : w.cell? ⟨g, j, none⟩ = some (.int .u8 (l[j].toNat : Int)) := by
  obtain ⟨cur, e, lo, hi, hg, _, hc⟩ := h
  simp [World.cell?, hg, hc j hj]
theorem HasBytes.free {w : World} {g : Nat} {l : List UInt8} (h : HasBytes w g l) (j : Nat) (hj : j < l.length) : w.frozen? ⟨g, j, none⟩ = false := by
  obtain ⟨cur, e, lo, hi, hg, hl, _⟩ := h
  simp [World.frozen?, hg]
  omega
theorem HasBytes.of_heap {w w' : World} {g : Nat} {l : List UInt8} (h : HasBytes w g l) (e : w'.heap[g]? = w.heap[g]?) : HasBytes w' g l := by
  obtain ⟨cur, t, lo, hi, hg, r⟩ := h
  exact ⟨cur, t, lo, hi, e.trans hg, r⟩
theorem HasBytes.drew {w : World} {g : Nat} {l : List UInt8} (h : HasBytes w g l) : HasBytes w.drew g l := h.of_heap rfl
theorem HasBytes.below {w w' : World} {g B : Nat} {l : List UInt8} (h : HasBytes w g l) (hb : Below B w w') (hg : g < B) : HasBytes w' g l := h.of_heap (hb.block g hg)
theorem HasBytes.call {w w' : World} {g : Nat} {l : List UInt8} (h : HasBytes w g l) (hb : Below w.heap.size w w') : HasBytes w' g l := h.below hb h.lt
theorem HasBytes.alloc {w : World} {g : Nat} {l : List UInt8} (h : HasBytes w g l) (o : Obj) : HasBytes (w.alloc o) g l := h.of_heap (Below.heap_alloc w o g h.lt)
theorem HasBytes.set {w : World} {g : Nat} {l : List UInt8} (h : HasBytes w g l) (i : Nat) (v : UInt8) : HasBytes (w.setCell ⟨g, i, none⟩ (.int .u8 (v.toNat : Int))) g (l.set i v) := by
  obtain ⟨cur, t, lo, hi, hg, hl, hc⟩ := h
  have hlt := lt_of_block hg
  have hg' : w.heap[g] = .cells cur t (lo, hi) := by simpa [Array.getElem?_eq_getElem hlt] using hg
  refine ⟨cur.setIfInBounds i (.int .u8 (v.toNat : Int)), t, lo, hi, ?_, by simpa using hl, ?_⟩
  · show (w.heap.modify g _)[g]? = _
    rw [Array.getElem?_eq_getElem (by simpa using hlt), Array.getElem_modify_self, hg']
    rfl
  · intro j hj
    have hj' : j < l.length := by simpa using hj
    have hcj := hc j hj'
    have hjc : j < cur.size := by
      rcases Nat.lt_or_ge j cur.size with h | h
      · exact h
      · simp [Array.getElem?_eq_none h] at hcj
    rw [Array.getElem?_setIfInBounds, List.getElem_set]
    by_cases e : i = j
    · subst e; simp [hjc]
    · simp [e, hcj]
theorem HasBytes.of_string (w : World) (s : ByteArray) (c t : Nat) (x : Nat) : HasBytes (w.alloc (.cells (bytesRow s c) t ((bytesRow s c).size, x))) w.heap.size s.data.toList := by
  refine ⟨bytesRow s c, t, (bytesRow s c).size, x, (by show (w.heap.push _)[w.heap.size]? = _; simp), .inl ?_, ?_⟩
  · simp [bytesRow]
  · intro j hj
    rw [bytesRow_at s c j (by simpa using hj)]
    simp
theorem HasBytes.str {P : Program} {w : World} {g src dst e cap : Nat} {l : List UInt8} (h : HasBytes w g l) (hs : P.underlying src = some (.slice e)) (he : P.underlying e = some (.int .u8)) (hd : P.underlying dst = some .string) :
    (convert src dst (.slice (some ⟨g, 0, none⟩) l.length cap)).run P w = .ok (.string ⟨l.toArray⟩) w := by
  refine run_convert_bytes_back w src dst e ⟨g, 0, none⟩ cap l hs he hd ?_
  intro j hj
  have e0 : (⟨g, 0, none⟩ : Addr).add j = ⟨g, j, none⟩ := by unfold Addr.add; split <;> simp_all
  rw [e0]
  exact h.cell j hj

/-- for a region that draws its order: what is known of a block of bytes is known behind a call, too -/
theorem held_bytes {w w1 : World} {g : Nat} {X : List UInt8} {C : World → Prop} (hv : ∀ W, HasBytes W g X → C W) (h : HasBytes w g X ∧ C w) (hb : Below w.heap.size w w1) : HasBytes w1 g X ∧ C w1 :=
  ⟨h.1.call hb, hv _ (h.1.call hb)⟩

end Go.Proofs.YtkgnapojkijbgaaGreatDoor
/- Rows of the call's own, whose block may bear the mark of a text that was turned into bytes (a frozen range behind its last cell): appends of whatever source, and the text that such a row is turned into. It speaks of no one program. -/
namespace Go.Proofs.YtkgnapojkijbgaaGreatDoor
open Go.RowKit

/-- 'ownsRow', where the block may bear a mark behind its cells -/
def OwnsM (w : World) (base e size : Nat) (v : Value) (n : Nat) (xs : List Value) : Prop :=
  xs.length = n * size ∧
  ((v = .slice none 0 0 ∧ n = 0) ∨
   ∃ g cap cur fz, v = .slice (some ⟨g, 0, none⟩) n cap ∧ base ≤ g ∧ w.heap[g]? = some (.cells cur e fz) ∧ (fz = (0, 0) ∨ cur.size ≤ fz.1) ∧ n ≤ cap ∧ cap ≤ maxLen ∧ cur.size = cap * size ∧ cur.toList.take (n * size) = xs)
section
variable {w : World} {base e size n : Nat} {v : Value} {xs : List Value}
theorem OwnsM.of (h : w.ownsRow base e size v n xs) : OwnsM w base e size v n xs := by
  refine ⟨h.1, ?_⟩
  rcases h.2 with hn | ⟨g, cap, cur, hv, hb, hg, r⟩
  · exact .inl hn
  · exact .inr ⟨g, cap, cur, (0, 0), hv, hb, hg, .inl rfl, r⟩
theorem OwnsM.nil (w : World) (base e size : Nat) : OwnsM w base e size (.slice none 0 0) 0 [] := ⟨by simp, .inl ⟨rfl, rfl⟩⟩
theorem OwnsM.lt (h : OwnsM w base e size v n xs) : ∀ k, v.ownBlock = some k → base ≤ k ∧ k < w.heap.size := by
  intro k hk
  rcases h.2 with ⟨rfl, _⟩ | ⟨g, cap, cur, fz, rfl, hb, hg, _⟩
  · simp [Value.ownBlock] at hk
  · simp [Value.ownBlock] at hk
    subst hk
    exact ⟨hb, (Array.getElem?_eq_some_iff.1 hg).1⟩
theorem OwnsM.kept {w' : World} {row : Option Nat} (h : OwnsM w base e size v n xs) (hg : w.grownBy w' row) (hne : v.ownBlock = none ∨ v.ownBlock ≠ row) : OwnsM w' base e size v n xs := by
  refine ⟨h.1, ?_⟩
  rcases h.2 with hn | ⟨g, cap, cur, fz, rfl, hb, hgg, r⟩
  · exact .inl hn
  · refine .inr ⟨g, cap, cur, fz, rfl, hb, ?_, r⟩
    rw [hg.block g (Array.getElem?_eq_some_iff.1 hgg).1 (by simpa [Value.ownBlock] using hne)]
    exact hgg
theorem OwnsM.call {w1 : World} (h : OwnsM w base e size v n xs) (hb : Below w.heap.size w w1) : OwnsM w1 base e size v n xs :=
  h.kept (row := none) ⟨hb.os, hb.tape, hb.output, hb.size, fun k hk _ => hb.block k hk⟩ (by cases v.ownBlock <;> simp)
theorem OwnsM.alloc (h : OwnsM w base e size v n xs) (o : Obj) : OwnsM (w.alloc o) base e size v n xs :=
  h.kept (row := none) ⟨rfl, rfl, rfl, by simp, fun k hk _ => Below.heap_alloc w o k hk⟩ (by cases v.ownBlock <;> simp)
theorem OwnsM.drew (h : OwnsM w base e size v n xs) : OwnsM w.drew base e size v n xs := h
theorem OwnsM.low (h : OwnsM w base e size v n xs) {base' : Nat} (hb : base' ≤ base) : OwnsM w base' e size v n xs := by
  refine ⟨h.1, ?_⟩
  rcases h.2 with hn | ⟨g, cap, cur, fz, hv, hbg, r⟩
  · exact .inl hn
  · exact .inr ⟨g, cap, cur, fz, hv, Nat.le_trans hb hbg, r⟩
theorem OwnsM.cells (h : OwnsM w base e size v n xs) {g : Nat} (hg : v.ownBlock = some g) : ∀ j u, xs[j]? = some u → w.cell? ((⟨g, 0, none⟩ : Addr).add j) = some u := by
  intro j u hu
  rcases h.2 with ⟨rfl, _⟩ | ⟨g', cap, cur, fz, rfl, _, hgg, _, _, _, _, htake⟩
  · simp [Value.ownBlock] at hg
  · simp [Value.ownBlock] at hg
    subst hg
    have hadd : (⟨g', 0, none⟩ : Addr).add j = ⟨g', j, none⟩ := by unfold Addr.add; split <;> simp_all
    rw [hadd, cell_of_row w g' j cur e fz hgg]
    rw [← htake, List.getElem?_take] at hu
    split at hu
    · simpa using hu
    · cases hu
end

theorem run_storeCells_atM (P : Program) (g o : Nat) (t : TypeId) (fz : Nat × Nat) : ∀ (vs : List Value) (i : Nat) (cur : Array Value) (w : World), w.heap[g]? = some (.cells cur t fz) → (fz = (0, 0) ∨ cur.size ≤ fz.1) → o + i + vs.length ≤ cur.size → (∀ v ∈ vs, v.oneCell' = true) →
    (storeCells ⟨g, o, none⟩ vs i).run P w = .ok () (w.setRow g (cur.toList.take (o + i) ++ vs ++ cur.toList.drop (o + i + vs.length)).toArray)
  | [], i, cur, w, hg, _, _, _ => by
    simp only [storeCells, List.append_nil, List.length_nil, Nat.add_zero, List.take_append_drop, Array.toArray_toList]
    rw [setRow_self w g cur t fz hg]
    rfl
  | v :: rest, i, cur, w, hg, hfz, hl, h1 => by
    have hi : o + i < cur.size := by simp at hl; omega
    have hadd : (⟨g, o, none⟩ : Addr).add i = ⟨g, o + i, none⟩ := by unfold Addr.add; split <;> simp_all
    have hcell : w.cell? ⟨g, o + i, none⟩ = some cur[o + i] := by simp [World.cell?, hg, hi]
    have hfro : w.frozen? ⟨g, o + i, none⟩ = false := by
      obtain ⟨lo, hi'⟩ := fz
      simp only [World.frozen?, hg, Bool.and_eq_false_iff, decide_eq_false_iff_not]
      rcases hfz with hfz | hfz
      · simp only [Prod.mk.injEq] at hfz
        right; omega
      · simp only at hfz
        left; omega
    have hst : (store ((⟨g, o, none⟩ : Addr).add i) v).run P w = .ok () (w.setRow g (cur.setIfInBounds (o + i) v)) := by
      rw [hadd, run_store P w _ v _ (h1 v (by simp)), hcell]
      simp [hfro, setCell_eq_setRow w g (o + i) cur t fz v hg]
    have ih := run_storeCells_atM P g o t fz rest (i + 1) (cur.setIfInBounds (o + i) v) (w.setRow g (cur.setIfInBounds (o + i) v)) (setRow_heap w g cur _ t _ hg) (by simpa using hfz) (by simp at hl ⊢; omega) (fun x hx => h1 x (by simp [hx]))
    simp only [storeCells, Sem.run_bind, hst, Result.andThen_ok, ih, setRow_setRow]
    congr 3
    have e := list_seg_step cur.toList (o + i) v rest (by simp at hl ⊢; omega)
    simpa [Array.toList_setIfInBounds, Nat.add_assoc] using e

theorem ownsM_room {w : World} {base g n m cap size e : Nat} {cur : Array Value} {fz : Nat × Nat} {xs news : List Value} (hg : w.heap[g]? = some (.cells cur e fz)) (hfz : fz = (0, 0) ∨ cur.size ≤ fz.1) (hb : base ≤ g) (hx : xs.length = n * size) (hn : news.length = m * size)
    (hroom : n + m ≤ cap) (hcm : cap ≤ maxLen) (hcs : cur.size = cap * size) (htake : cur.toList.take (n * size) = xs) :
    OwnsM (w.setRow g (cur.toList.take (n * size) ++ news ++ cur.toList.drop (n * size + news.length)).toArray) base e size (.slice (some ⟨g, 0, none⟩) (n + m) cap) (n + m) (xs ++ news) ∧
    w.grownBy (w.setRow g (cur.toList.take (n * size) ++ news ++ cur.toList.drop (n * size + news.length)).toArray) (some g) := by
  have hfit : n * size + news.length ≤ cur.size := by rw [hn, hcs, ← Nat.add_mul]; exact Nat.mul_le_mul_right _ hroom
  have hlen : (xs ++ news).length = (n + m) * size := by rw [List.length_append, hx, hn, Nat.add_mul]
  have hsize : (w.setRow g (cur.toList.take (n * size) ++ news ++ cur.toList.drop (n * size + news.length)).toArray).heap.size = w.heap.size := by simp [World.setRow]
  have hsame : (cur.toList.take (n * size) ++ news ++ cur.toList.drop (n * size + news.length)).toArray.size = cur.size := by
    rw [List.size_toArray, List.length_append, List.length_append, List.length_take, List.length_drop, Array.length_toList]; omega
  refine ⟨⟨hlen, .inr ⟨g, cap, _, fz, rfl, hb, setRow_heap w g cur _ e _ hg, by rw [hsame]; exact hfz, hroom, hcm, by rw [hsame]; exact hcs, ?_⟩⟩, ⟨rfl, rfl, rfl, by rw [hsize]; exact Nat.le_refl _, fun k _ hk => setRow_other w g k _ (fun h => hk (by rw [h]))⟩⟩
  rw [htake, ← hlen]; exact List.take_left

theorem run_append_srcM {P : Program} (w : World) (base : Nat) (t tx ty e : TypeId) (i : TypeInfo) (z : Value) (bytes : Nat) (ht : P.underlying t = some (.slice e)) (hi : P.info? e = some i) (hz : i.zero = some z)
    (hby : i.bytes = bytes) (hzs : z.cells.size = i.size) (v : Value) (n : Nat) (xs : List Value) (hown : OwnsM w base e i.size v n xs) (x : Value) (m : Nat) (news : List Value) (hs : Src P i.size tx x m news w)
    (h63 : n + m ≤ maxLen) (hbytes : (n + m) * bytes ≤ 140737488355328) (hbase : base ≤ w.heap.size) :
    ∃ v' w', (Builtin.append_ #[t, tx] ty #[v, x]).run P w = .ok v' w' ∧ OwnsM w' base e i.size v' (n + m) (xs ++ news) ∧ w.grownBy w' v.ownBlock := by
  rcases hown.2 with ⟨rfl, rfl⟩ | ⟨g, cap, cur, fz, rfl, hbg, hg, hfz, hnc, hcm, hcs, htake⟩
  · obtain ⟨v', w', h1, h2, h3⟩ := run_append_src w base t tx ty e i z bytes ht hi hz hby hzs (.slice none 0 0) 0 xs ⟨hown.1, .inl ⟨rfl, rfl⟩⟩ x m news hs h63 hbytes hbase
    exact ⟨v', w', h1, OwnsM.of h2, h3⟩
  · subst hby
    have h63' : ((n + m : Nat) : Int) ≤ 9223372036854775807 := by simp only [maxLen] at h63; omega
    by_cases hroom : n + m ≤ cap
    · have ho := ownsM_room (w := w) hg hfz hbg hown.1 hs.newsLen hroom hcm hcs htake
      have hfit : n * i.size + news.length ≤ cur.size := by rw [hs.newsLen, hcs, ← Nat.add_mul]; exact Nat.mul_le_mul_right _ hroom
      have hst := run_storeCells_atM P g (n * i.size) e fz news 0 cur w hg hfz (by simpa using hfit) hs.one
      simp only [Nat.add_zero] at hst
      refine ⟨_, _, ?_, ho.1, ho.2⟩
      rcases hs.kind with ⟨e', hk⟩ | hk <;> simp [Builtin.append_, run_underlying ht, run_underlying hk, sizeOf, typeInfo, hi, hs.len, hroom, hs.cells, Addr.add_lit, hst]
    · have holds : (Builtin.firstCells i.size n (.slice (some ⟨g, 0, none⟩) n cap)).run P w.drew = .ok xs.toArray w.drew :=
        run_firstCells_some w.drew i.size n ⟨g, 0, none⟩ n cap xs hown.1 (by simpa using hown.cells (g := g) rfl)
      have hr := run_append_grow_src (P := P) w t tx ty e i z ht hi hz (some ⟨g, 0, none⟩) n cap xs holds x m news hs (by omega) h63' (growslice_fits (by omega) hbytes)
      have ho := owns_grow (w := w) (base := base) (n := n) (m := m) (c := grownCap w (n + m) cap e) (e := e) hbase hown.1 hs.newsLen hzs (grownCap_ge w (n + m) cap e) (grownCap_le_maxLen w (n + m) cap e h63) (Value.ownBlock (.slice (some ⟨g, 0, none⟩) n cap))
      exact ⟨_, _, hr, OwnsM.of ho.1, ho.2⟩

theorem wpList_append_srcM {P : Program} (w : World) {ops : Array Oper} {rest : List Oper} {o : Oper} {a : Act} {Q : Exit → Act → World → Prop} (hgd : o.guard = none) (s x : Operand) (t tx : TypeId)
    (ho : o.op = .call { callee := .builtin .append, args := #[s, x], argTypes := #[t, tx] })
    (base : Nat) (e : TypeId) (i : TypeInfo) (z : Value) (size bytes : Nat) (ht : P.underlying t = some (.slice e)) (hi : P.info? e = some i) (hz : i.zero = some z) (hsize : i.size = size)
    (hby : i.bytes = bytes) (hzs : z.cells.size = size) (v : Value) (n : Nat) (xs : List Value) (hs : a.eval s = v) (hown : OwnsM w base e size v n xs) (xv : Value) (m : Nat) (news : List Value) (hx : a.eval x = xv) (hsrc : Src P size tx xv m news w)
    (h63 : n + m ≤ maxLen) (hbytes : (n + m) * bytes ≤ 140737488355328) (hbase : base ≤ w.heap.size)
    (h : ∀ v' w', OwnsM w' base e size v' (n + m) (xs ++ news) → w.grownBy w' v.ownBlock → wpList P ops Q rest (a.put o.dst v') w') : wpList P ops Q (o :: rest) a w := by
  subst hsize
  refine wpList_plain hgd fun K hK => ?_
  obtain ⟨v', w', hr, h2, h3⟩ := run_append_srcM (P := P) w base t tx o.type e i z bytes ht hi hz hby hzs v n xs hown xv m news hsrc h63 hbytes hbase
  unfold Oper.wp execOp
  simp only [ho, resolve, invoke, builtin, Sem.run_bind, Sem.run_pure, Result.andThen_ok, List.map_toArray, List.map_cons, List.map_nil, hs, hx, hr]
  exact hK _ _ (h v' w' h2 h3)

/-- a row that has just been laid in a block of its own, as what an append is handed -/
theorem src_new {P : Program} {tx e : TypeId} (W : World) (hk : P.underlying tx = some (.slice e)) (us : List Value) (h1 : ∀ u ∈ us, u.oneCell' = true) :
    Src P 1 tx (.slice (some ⟨W.heap.size, 0, none⟩) us.length us.length) us.length us (W.alloc (.cells us.toArray e)) := by
  refine Src.ofSlice _ hk ⟨W.heap.size, 0, none⟩ us.length us.length us (by simp) (fun j u hu => ?_) h1
  have e0 : (⟨W.heap.size, 0, none⟩ : Addr).add j = ⟨W.heap.size, j, none⟩ := by unfold Addr.add; split <;> simp_all
  rw [e0, World.cell?_alloc_mark W us.toArray e (0, 0) j]
  simpa using hu
/-- what was grown behind a new block, seen from ahead of it -/
theorem grown_new {w w' : World} {row : Option Nat} {o : Obj} (h : (w.alloc o).grownBy w' row) : w.grownBy w' row := by
  refine ⟨h.os, h.tape, h.output, ?_, fun k hk hne => ?_⟩
  · have := h.size; simp at this; omega
  · rw [h.block k (by simp; omega) hne]
    exact Below.heap_alloc w _ k hk
/-- an append of elements that have just been laid in a block of their own -/
theorem wpList_pushM {P : Program} (W : World) {ops : Array Oper} {rest : List Oper} {o : Oper} {a : Act} {Q : Exit → Act → World → Prop} (hgd : o.guard = none) (s x : Operand) (t : TypeId)
    (ho : o.op = .call { callee := .builtin .append, args := #[s, x], argTypes := #[t, t] })
    (base : Nat) (e : TypeId) (i : TypeInfo) (z : Value) (bytes : Nat) (ht : P.underlying t = some (.slice e)) (hi : P.info? e = some i) (hz : i.zero = some z)
    (hsize : i.size = 1) (hby : i.bytes = bytes) (hzs : z.cells.size = 1)
    (v : Value) (n : Nat) (xs : List Value) (hs : a.eval s = v) (hown : OwnsM W base e 1 v n xs) (us : List Value) (B : Nat)
    (hx : a.eval x = .slice (some ⟨B, 0, none⟩) us.length us.length) (hB : B = W.heap.size) (hu : ∀ u ∈ us, u.oneCell' = true)
    (h63 : n + us.length ≤ maxLen) (hbytes : (n + us.length) * bytes ≤ 140737488355328) (hbase : base ≤ W.heap.size)
    (h : ∀ (v' : Value) (w' : World), OwnsM w' base e 1 v' (n + us.length) (xs ++ us) → W.grownBy w' v.ownBlock → wpList P ops Q rest (a.put o.dst v') w') :
    wpList P ops Q (o :: rest) a (W.alloc (.cells us.toArray e)) := by
  subst hB
  refine wpList_append_srcM (W.alloc (.cells us.toArray e)) hgd s x t t ho base e i z 1 bytes ht hi hz hsize hby hzs v n xs hs (hown.alloc _) _ us.length us hx (src_new W ht us hu) h63 hbytes (by simp; omega) ?_
  intro v' w' h1 h2
  exact h v' w' h1 (grown_new h2)

/-- the same as one step of a region that draws its order -/
theorem step_pushM {P : Program} (W : World) {ops : Array Oper} {o : Oper} {a : Act} {K : Act → World → Prop} {Q : Exit → Act → World → Prop} {E : Prop} (hgd : o.guard = none) (s x : Operand) (t : TypeId)
    (ho : o.op = .call { callee := .builtin .append, args := #[s, x], argTypes := #[t, t] })
    (base : Nat) (e : TypeId) (i : TypeInfo) (z : Value) (bytes : Nat) (ht : P.underlying t = some (.slice e)) (hi : P.info? e = some i) (hz : i.zero = some z)
    (hsize : i.size = 1) (hby : i.bytes = bytes) (hzs : z.cells.size = 1)
    (v : Value) (n : Nat) (xs : List Value) (hs : a.eval s = v) (hown : OwnsM W base e 1 v n xs) (us : List Value) (B : Nat)
    (hx : a.eval x = .slice (some ⟨B, 0, none⟩) us.length us.length) (hB : B = W.heap.size) (hu : ∀ u ∈ us, u.oneCell' = true)
    (h63 : n + us.length ≤ maxLen) (hbytes : (n + us.length) * bytes ≤ 140737488355328) (hbase : base ≤ W.heap.size)
    (h : ∀ (v' : Value) (w' : World), OwnsM w' base e 1 v' (n + us.length) (xs ++ us) → W.grownBy w' v.ownBlock → K (a.put o.dst v') w') :
    if Region.wanted o (yielded ops a.tmps) = true then Oper.wp P o a (W.alloc (.cells us.toArray e)) K Q else E := by
  have hw : Region.wanted o (yielded ops a.tmps) = true := by simp [Region.wanted, hgd]
  rw [if_pos hw]
  subst hB
  have hsrc := src_new (P := P) W ht us hu
  rw [← hsize] at hown hsrc
  obtain ⟨v', w', hr, h2, h3⟩ := run_append_srcM (P := P) (W.alloc (.cells us.toArray e)) base t t o.type e i z bytes ht hi hz hby (by rw [hsize]; exact hzs) v n xs (hown.alloc _) _ us.length us hsrc h63 hbytes (by simp; omega)
  rw [hsize] at h2
  unfold Oper.wp execOp
  simp only [ho, resolve, invoke, builtin, Sem.run_bind, Sem.run_pure, Result.andThen_ok, List.map_toArray, List.map_cons, List.map_nil, hs, hx, hr]
  exact h v' w' h2 (grown_new h3)
theorem setRow_keep {w : World} {g N e : Nat} {cur : Array Value} {fz : Nat × Nat} {news : List Value} (hg : w.heap[g]? = some (.cells cur e fz)) (hN : N ≤ cur.size) (i : Nat) (hi : i < N) (rest : List Value) :
    (w.setRow g (cur.toList.take N ++ news ++ rest).toArray).cell? ⟨g, i, none⟩ = w.cell? ⟨g, i, none⟩ := by
  rw [cell_of_row _ g i _ e fz (setRow_heap w g cur _ e fz hg), cell_of_row w g i cur e fz hg]
  have hi2 : i < cur.toList.length := by simp; omega
  simp only [List.getElem?_toArray, List.append_assoc]
  rw [List.getElem?_append_left (by simp; omega), List.getElem?_take, if_pos hi]
  simp
/-- 'run_append_srcM', which tells besides that the cells that were there are as they were -/
theorem run_append_srcK {P : Program} (w : World) (base : Nat) (t tx ty e : TypeId) (i : TypeInfo) (z : Value) (bytes : Nat) (ht : P.underlying t = some (.slice e)) (hi : P.info? e = some i) (hz : i.zero = some z)
    (hby : i.bytes = bytes) (hzs : z.cells.size = i.size) (g cap : Nat) (n : Nat) (xs : List Value) (hown : OwnsM w base e i.size (.slice (some ⟨g, 0, none⟩) n cap) n xs) (x : Value) (m : Nat) (news : List Value) (hs : Src P i.size tx x m news w)
    (h63 : n + m ≤ maxLen) (hbytes : (n + m) * bytes ≤ 140737488355328) (hbase : base ≤ w.heap.size) :
    ∃ v' w', (Builtin.append_ #[t, tx] ty #[.slice (some ⟨g, 0, none⟩) n cap, x]).run P w = .ok v' w' ∧ OwnsM w' base e i.size v' (n + m) (xs ++ news) ∧ w.grownBy w' (some g) ∧ ∀ j, j < n * i.size → w'.cell? ⟨g, j, none⟩ = w.cell? ⟨g, j, none⟩ := by
  rcases hown.2 with ⟨h, _⟩ | ⟨g', cap', cur, fz, hv, hbg, hg, hfz, hnc, hcm, hcs, htake⟩
  · cases h
  · obtain ⟨rfl, rfl⟩ : g = g' ∧ cap = cap' := by simpa using hv
    subst hby
    have h63' : ((n + m : Nat) : Int) ≤ 9223372036854775807 := by simp only [maxLen] at h63; omega
    by_cases hroom : n + m ≤ cap
    · have ho := ownsM_room (w := w) hg hfz hbg hown.1 hs.newsLen hroom hcm hcs htake
      have hfit : n * i.size + news.length ≤ cur.size := by rw [hs.newsLen, hcs, ← Nat.add_mul]; exact Nat.mul_le_mul_right _ hroom
      have hst := run_storeCells_atM P g (n * i.size) e fz news 0 cur w hg hfz (by simpa using hfit) hs.one
      simp only [Nat.add_zero] at hst
      refine ⟨_, _, ?_, ho.1, ho.2, fun j hj => setRow_keep hg (by omega) j hj _⟩
      rcases hs.kind with ⟨e', hk⟩ | hk <;> simp [Builtin.append_, run_underlying ht, run_underlying hk, sizeOf, typeInfo, hi, hs.len, hroom, hs.cells, Addr.add_lit, hst]
    · have holds : (Builtin.firstCells i.size n (.slice (some ⟨g, 0, none⟩) n cap)).run P w.drew = .ok xs.toArray w.drew :=
        run_firstCells_some w.drew i.size n ⟨g, 0, none⟩ n cap xs hown.1 (by simpa using hown.cells (g := g) rfl)
      have hr := run_append_grow_src (P := P) w t tx ty e i z ht hi hz (some ⟨g, 0, none⟩) n cap xs holds x m news hs (by omega) h63' (growslice_fits (by omega) hbytes)
      have ho := owns_grow (w := w) (base := base) (n := n) (m := m) (c := grownCap w (n + m) cap e) (e := e) hbase hown.1 hs.newsLen hzs (grownCap_ge w (n + m) cap e) (grownCap_le_maxLen w (n + m) cap e h63) (Value.ownBlock (.slice (some ⟨g, 0, none⟩) n cap))
      exact ⟨_, _, hr, OwnsM.of ho.1, ho.2, fun j _ => World.cell?_of_block (Below.heap_alloc w.drew _ g (lt_of_block hg))⟩
/-- one step of a region that draws its order; the cells that were there are as they were -/
theorem step_pushK {P : Program} (W : World) {ops : Array Oper} {o : Oper} {a : Act} {K : Act → World → Prop} {Q : Exit → Act → World → Prop} {E : Prop} (hgd : o.guard = none) (s x : Operand) (t : TypeId)
    (ho : o.op = .call { callee := .builtin .append, args := #[s, x], argTypes := #[t, t] })
    (base : Nat) (e : TypeId) (i : TypeInfo) (z : Value) (bytes : Nat) (ht : P.underlying t = some (.slice e)) (hi : P.info? e = some i) (hz : i.zero = some z)
    (hsize : i.size = 1) (hby : i.bytes = bytes) (hzs : z.cells.size = 1)
    (g cap : Nat) (n : Nat) (xs : List Value) (hs : a.eval s = .slice (some ⟨g, 0, none⟩) n cap) (hown : OwnsM W base e 1 (.slice (some ⟨g, 0, none⟩) n cap) n xs) (us : List Value) (B : Nat)
    (hx : a.eval x = .slice (some ⟨B, 0, none⟩) us.length us.length) (hB : B = W.heap.size) (hu : ∀ u ∈ us, u.oneCell' = true)
    (h63 : n + us.length ≤ maxLen) (hbytes : (n + us.length) * bytes ≤ 140737488355328) (hbase : base ≤ W.heap.size)
    (h : ∀ (v' : Value) (w' : World), OwnsM w' base e 1 v' (n + us.length) (xs ++ us) → W.grownBy w' (some g) → (∀ j, j < n → w'.cell? ⟨g, j, none⟩ = W.cell? ⟨g, j, none⟩) → K (a.put o.dst v') w') :
    if Region.wanted o (yielded ops a.tmps) = true then Oper.wp P o a (W.alloc (.cells us.toArray e)) K Q else E := by
  have hw : Region.wanted o (yielded ops a.tmps) = true := by simp [Region.wanted, hgd]
  rw [if_pos hw]
  subst hB
  have hsrc := src_new (P := P) W ht us hu
  have hgl := (hown.lt g rfl).2
  rw [← hsize] at hown hsrc
  obtain ⟨v', w', hr, h2, h3, h4⟩ := run_append_srcK (P := P) (W.alloc (.cells us.toArray e)) base t t o.type e i z bytes ht hi hz hby (by rw [hsize]; exact hzs) g cap n xs (hown.alloc _) _ us.length us hsrc h63 hbytes (by simp; omega)
  rw [hsize] at h2 h4
  unfold Oper.wp execOp
  simp only [ho, resolve, invoke, builtin, Sem.run_bind, Sem.run_pure, Result.andThen_ok, List.map_toArray, List.map_cons, List.map_nil, hs, hx, hr]
  exact h v' w' h2 (grown_new h3) (fun j hj => (h4 j (by omega)).trans (World.cell?_of_block (Below.heap_alloc W _ g hgl)))
theorem OwnsM.new (W : World) (us : List Value) (e : Nat) (h : us.length ≤ maxLen) : OwnsM (W.alloc (.cells us.toArray e)) W.heap.size e 1 (.slice (some ⟨W.heap.size, 0, none⟩) us.length us.length) us.length us :=
  ⟨by simp, .inr ⟨W.heap.size, us.length, us.toArray, (0, 0), rfl, Nat.le_refl _, heap_alloc_new W _, .inl rfl, Nat.le_refl _, h, by simp, by simp⟩⟩
theorem OwnsM.form {w : World} {base e size n : Nat} {v : Value} {xs : List Value} (h : OwnsM w base e size v n xs) : ∃ a c, v = .slice a n c := by
  rcases h.2 with ⟨rfl, rfl⟩ | ⟨g, cap, cur, fz, rfl, _⟩
  · exact ⟨none, 0, rfl⟩
  · exact ⟨_, _, rfl⟩
/-- the row that a text is turned into -/
theorem OwnsM.of_text (w : World) (s : ByteArray) (c T x : Nat) (hc : s.size ≤ c) (hm : c ≤ maxLen) : OwnsM (w.alloc (.cells (bytesRow s c) T ((bytesRow s c).size, x))) w.heap.size T 1 (.slice (some ⟨w.heap.size, 0, none⟩) s.size c) s.size (bytesV s.data.toList) := by
  have hsz : (bytesRow s c).size = c := by simp [bytesRow, ByteArray.size_data]; omega
  refine ⟨by simp [bytesV], .inr ⟨w.heap.size, c, bytesRow s c, ((bytesRow s c).size, x), rfl, Nat.le_refl _, (by show (w.heap.push _)[w.heap.size]? = _; simp), .inr (Nat.le_refl _), hc, hm, by rw [hsz, Nat.mul_one], ?_⟩⟩
  apply List.ext_getElem?
  intro j
  rw [List.getElem?_take, Nat.mul_one]
  by_cases hj : j < s.size
  · rw [if_pos hj]
    have := bytesRow_at s c j (by simpa [ByteArray.size_data] using hj)
    simpa [bytesV, hj] using this
  · rw [if_neg hj, List.getElem?_eq_none]
    simp [bytesV]; omega
theorem OwnsM.str {P : Program} {w : World} {base src dst e : Nat} {v : Value} {l : List UInt8} (h : OwnsM w base e 1 v l.length (bytesV l)) (hs : P.underlying src = some (.slice e)) (he : P.underlying e = some (.int .u8)) (hd : P.underlying dst = some .string) :
    (convert src dst v).run P w = .ok (.string ⟨l.toArray⟩) w := by
  rcases h.2 with ⟨rfl, h0⟩ | ⟨g, cap, cur, fz, rfl, _⟩
  · obtain rfl : l = [] := List.eq_nil_of_length_eq_zero h0
    exact run_convert_bytes_nil w src e hs he 0 0 dst hd
  · refine run_convert_bytes_back w src dst e ⟨g, 0, none⟩ cap l hs he hd ?_
    intro j hj
    exact h.cells (g := g) rfl j _ (bytesV_get l j hj)
end Go.Proofs.YtkgnapojkijbgaaGreatDoor
/- The contracts of package seal's Sum and Mark, and of what they call. -/
namespace Go.Proofs.YtkgnapojkijbgaaGreatDoor
open Go.RowKit

theorem be4V {x : Nat} (h : x < 4294967296) : bytesV (be4 x) = [.int .u8 ((x : Int) / 16777216), .int .u8 ((x : Int) / 65536 % 256), .int .u8 ((x : Int) / 256 % 256), .int .u8 ((x : Int) % 256)] := by
  simp [bytesV, be4]; omega

def AppPost (base T n : Nat) (xs : List Value) (v : Value) (w : World) (e : Ending) (w' : World) : Prop :=
  ∃ v', e = .returned v' ∧ OwnsM w' base T 1 v' n xs ∧ w.grownBy w' v.ownBlock

set_option maxHeartbeats 800000 in
set_option maxRecDepth 100000 in
theorem appendWord_any (v : Value) (n x : Nat) (xs : List Value) (base : Nat) (w : World) (hx : x < 4294967296) (hown : OwnsM w base 5 1 v n xs) (hb : base ≤ w.heap.size) (hn : n ≤ 1000000000) :
    Calls Tryz.prog 144 #[v, .int .u32 x] w (AppPost base 5 (n + 4) (xs ++ bytesV (be4 x)) v w) := by
  obtain ⟨i0, hi, hz0, hz1, hz2⟩ := info_parts Tryz.infoB
  have hbe := be4V hx
  have HB := Lib.hid hbe
  clear hbe
  go_enter Tryz.func144, Tryz.ntmps144
  go_wp2_with (at_builtin; refine (wpList_pushM w rfl _ _ 79 rfl base 5 i0 (.int .u8 0) 1 Tryz.underlying79 hi hz0 hz1 hz2 rfl v n xs rfl hown [.int .u8 ((x : Int) / 16777216), .int .u8 ((x : Int) / 65536 % 256), .int .u8 ((x : Int) / 256 % 256), .int .u8 ((x : Int) % 256)] w.heap.size rfl rfl (by simp [Value.oneCell']) (by unfold maxLen; simp; omega) (by simp; omega) hb ?_))
  intro v' w' h1 h2
  go_wp2
  go_ret
  exact ⟨v', rfl, by rw [HB.out]; exact h1, h2⟩
theorem be4_mod (y : Nat) : be4 (y % 4294967296) = be4 y := by
  have h : ∀ a b : Nat, a % 256 = b % 256 → UInt8.ofNat a = UInt8.ofNat b := fun a b h => UInt8.toNat_inj.1 (by simp; omega)
  unfold be4
  rw [h (y % 4294967296 / 16777216) (y / 16777216) (by omega), h (y % 4294967296 / 65536) (y / 65536) (by omega), h (y % 4294967296 / 256) (y / 256) (by omega), h (y % 4294967296) y (by omega)]

theorem appendWord_int (v : Value) (n x : Nat) (y : Int) (xs : List Value) (base : Nat) (w : World) (hy : y = x) (hx : x < 4294967296) (hown : OwnsM w base 5 1 v n xs) (hb : base ≤ w.heap.size) (hn : n ≤ 1000000000) :
    Calls Tryz.prog 144 #[v, .int .u32 y] w (AppPost base 5 (n + 4) (xs ++ bytesV (be4 x)) v w) := by
  subst hy
  exact appendWord_any v n x xs base w hx hown hb hn

set_option maxHeartbeats 1600000 in
set_option maxRecDepth 100000 in
theorem ending_any (s : ByteArray) (size : Nat) (w : World) (hs : s.size ≤ 500000000) (hsz : size ≤ 500000000) :
    Calls Tryz.prog 143 #[.string s, .int .i64 size] w fun e w' => e = .returned (.string ⟨(endL s.data.toList size).toArray⟩) ∧ Below w.heap.size w w' := by
  obtain ⟨i0, hi, hz0, hz1, hz2⟩ := info_parts Tryz.infoB
  have hbs := run_bytes_of_string (P := Tryz.prog) w 9 79 5 s Tryz.underlying9 Tryz.underlying79 Tryz.underlying5
  have hc1 := grownCap_ge w s.size 0 5
  have hc2 := grownCap_le_maxLen w s.size 0 5 (by unfold maxLen; omega)
  generalize grownCap w s.size 0 5 = c at *
  have hown := OwnsM.of_text w.drew s c 5 ((bytesRow s c).size + 1) hc1 hc2
  have hB : Below w.heap.size w (w.drew.alloc (.cells (bytesRow s c) 5 ((bytesRow s c).size, (bytesRow s c).size + 1))) := (below_drewN (Below.refl _ _) 1).alloc (Nat.le_refl _) _
  have hsz2 : w.heap.size ≤ (w.drew.alloc (.cells (bytesRow s c) 5 ((bytesRow s c).size, (bytesRow s c).size + 1))).heap.size := hB.size
  obtain ⟨W, hW⟩ : ∃ W, W = w.drew.alloc (.cells (bytesRow s c) 5 ((bytesRow s c).size, (bytesRow s c).size + 1)) := ⟨_, rfl⟩
  rw [← hW] at hbs hown hB hsz2
  have hown : OwnsM W w.heap.size 5 1 (.slice (some ⟨w.heap.size, 0, none⟩) s.size c) s.size (bytesV s.data.toList) := hown
  clear hW hc1 hc2
  go_enter Tryz.func143, Tryz.ntmps143
  go_wp2_with (at_builtin; refine (wpList_pushM W rfl _ _ 79 rfl w.heap.size 5 i0 (.int .u8 0) 1 Tryz.underlying79 hi hz0 hz1 hz2 rfl (.slice (some ⟨w.heap.size, 0, none⟩) s.size c) s.size (bytesV s.data.toList) rfl hown [.int .u8 128] W.heap.size rfl rfl (by simp [Value.oneCell']) (by unfold maxLen; simp; omega) (by simp; omega) hsz2 ?_))
  intro v1 w1 hown1 hg1
  obtain ⟨a1, c1, rfl⟩ := hown1.form
  have hB1 : Below w.heap.size w w1 := hB.grown hg1 hsz2 (fun k hk => (hown.lt k hk).1)
  have hown1 : OwnsM w1 w.heap.size 5 1 (.slice a1 (s.size + 1) c1) (s.size + 1) (bytesV (s.data.toList ++ [128])) := by
    rw [bytesV_app]; exact hown1
  have hz1' := hB1.size
  clear hown hB hg1 hsz2 hbs
  go_wp2_with fail
  go_loopw [5] (fun v wr => ∃ (k N : Nat) (a : Option Addr) (c : Nat), k ≤ zerosN s.size ∧ N = s.size + 1 + k ∧ v = .slice a N c ∧ OwnsM wr w.heap.size 5 1 v N (bytesV (s.data.toList ++ [128] ++ List.replicate k 0)) ∧ Below w.heap.size w wr) (fun v _ => match v with | .slice _ n _ => zerosN s.size + s.size + 1 - n | _ => 0)
  case atStart => exact ⟨0, s.size + 1, a1, c1, Nat.zero_le _, rfl, rfl, by simpa using hown1, hB1⟩
  case round =>
    clear hown1 hB1 hz1'
    obtain ⟨k, N, a, c, hk, hN, rfl, hown1, hB1⟩ := hrel
    have hz1' := hB1.size
    have hz9 : zerosN s.size = (119 - s.size % 64) % 64 := rfl
    by_cases hlt : k < zerosN s.size
    · have ht : (((N : Int) + 8) % 64 == 0) = false := by rw [beq_eq_false_iff_ne]; omega
      have hNl : N ≤ 1000000000 := by omega
      have hrep : s.data.toList ++ [128] ++ List.replicate (k + 1) (0 : UInt8) = s.data.toList ++ [128] ++ List.replicate k 0 ++ [0] := by rw [List.replicate_succ', ← List.append_assoc]
      have HR := Lib.hid hrep
      have HN := Lib.hid hN
      clear hz9 hrep hN
      generalize s.data.toList ++ [128] ++ List.replicate k 0 = L at *
      go_wp2_with (at_builtin; refine (wpList_pushM wr rfl _ _ 79 rfl w.heap.size 5 i0 (.int .u8 0) 1 Tryz.underlying79 hi hz0 hz1 hz2 rfl (.slice a N c) N _ rfl hown1 [.int .u8 0] wr.heap.size rfl rfl (by simp [Value.oneCell']) (by unfold maxLen; simp; omega) (by simp; omega) hz1' ?_))
      intro v2 w2 hown2 hg2
      obtain ⟨a2, c2, rfl⟩ := hown2.form
      have hB2 : Below w.heap.size w w2 := hB1.grown hg2 hz1' (fun k hk => (hown1.lt k hk).1)
      go_wp2
      go_roundw
      case rel => exact ⟨k + 1, N + 1, a2, c2, by omega, by rw [HN.out]; omega, rfl, by rw [HR.out, bytesV_app]; exact hown2, hB2⟩
      case measure => have := HN.out; simp; omega
    · have ht : (((N : Int) + 8) % 64 == 0) = true := by rw [beq_iff_eq]; omega
      have hend : bytesV (s.data.toList ++ [128] ++ List.replicate k 0) ++ bytesV (be4 (8 * size / 4294967296)) ++ bytesV (be4 (8 * size)) = bytesV (endL s.data.toList size) := by
        rw [endL, show s.data.toList.length = s.size by simp, show zerosN s.size = k by omega]
        simp only [bytesV_app, List.append_assoc]
      have hel : N + 4 + 4 = (endL s.data.toList size).length := by rw [endL_len, show s.data.toList.length = s.size by simp]; omega
      have hNl : N ≤ 900000000 := by omega
      have HE := Lib.hid hend
      have HL := Lib.hid hel
      clear hz9 hN hend hel hk hlt
      generalize bytesV (s.data.toList ++ [128] ++ List.replicate k 0) = xs at *
      go_wp2_with (first
        | (go_at_call 144; refine (appendWord_int _ N (8 * size / 4294967296) _ xs w.heap.size _ (by omega) (by omega) (by assumption) (by assumption) (by omega)).mono ?_; rintro e w2 ⟨v2, rfl, hown2, hg2⟩; have hs2 : w.heap.size ≤ w2.heap.size := Nat.le_trans hz1' hg2.size)
        | (go_at_call 144; refine (appendWord_int _ (N + 4) (8 * size) _ _ w.heap.size _ (by omega) (by omega) hown2 hs2 (by omega)).mono ?_; rintro e w3 ⟨v3, rfl, hown3, hg3⟩; rw [HE.out, HL.out] at hown3; have hcv := OwnsM.str (P := Tryz.prog) (src := 79) (dst := 9) hown3 Tryz.underlying79 Tryz.underlying5 Tryz.underlying9))
      go_ret
      exact ⟨rfl, (hB1.grown hg2 hz1' (fun k hk => (hown1.lt k hk).1)).grown hg3 hs2 (fun k hk => (hown2.lt k hk).1)⟩
set_option maxHeartbeats 1600000 in
set_option maxRecDepth 100000 in
theorem mixAll_any (s : ByteArray) (st : List Nat) (w : World) (hm : s.size % 64 = 0) (hs : s.size ≤ maxLen) (hst : Eight st) (hT : Tabs w) :
    Calls Tryz.prog 142 #[.agg (wordsV st).toArray, .string s] w fun e w' => e = .returned (.agg (wordsV (blocksN (s.size / 64) st s.data.toList)).toArray) ∧ Below w.heap.size w w' := by
  unfold maxLen at hs
  have hm' : s.size = 64 * (s.size / 64) := by omega
  have HM := Lib.hid hm'
  have HST := Lib.hid hst
  have HT := Lib.hid hT
  obtain ⟨a, b, c, d, e, f, g, y, rfl, -⟩ := hst.parts
  clear hm hm'
  simp only [wordsV, u32V, List.map_cons, List.map_nil]
  go_enter Tryz.func142, Tryz.ntmps142
  go_wp2_with fail
  go_loopw [1] (fun r wr => ∃ (k : Nat) (t : ByteArray), k ≤ s.size / 64 ∧ r = .string t ∧ t.data.toList = s.data.toList.drop (64 * k) ∧ t.size = 64 * (s.size / 64 - k) ∧ IsRow wr w.heap.size 154 (wordsV (blocksN k [a, b, c, d, e, f, g, y] s.data.toList)) ∧ IsRow wr (w.heap.size + 1) 154 (wordsV [0, 0, 0, 0, 0, 0, 0, 0]) ∧ Below w.heap.size w wr) (fun r _ => match r with | .string t => t.size | _ => 0)
  case atStart =>
    refine ⟨0, s, Nat.zero_le _, rfl, by simp, HM.out, ?_, ?_, ?_⟩
    · exact (IsRow.new w _ (wordsV [a, b, c, d, e, f, g, y])).alloc _
    · have := IsRow.new (w.alloc (.cells (wordsV [a, b, c, d, e, f, g, y]).toArray 154)) 154 (wordsV [0, 0, 0, 0, 0, 0, 0, 0])
      rw [World.size_alloc] at this
      exact this
    · exact ((Below.refl _ _).alloc (Nat.le_refl _) _).alloc (by simp) _
  case round =>
    obtain ⟨k, t, hk, rfl, ht, htz, r2, r4, hB⟩ := hrel
    have h8 := blocksN_eight k HST.out s.data.toList
    have hw2 := HT.out.1
    have hTr : Tabs wr := HT.out.call hB hw2 hB.size
    have HTr := Lib.hid hTr
    clear hTr
    by_cases hlt : k < s.size / 64
    · have hmm := HM.out
      have ht1 : 64 ≤ t.size := by omega
      have hts : t.size ≤ 9223372036854775807 := by omega
      have htk : (t.extract 0 64).data.toList = (s.data.toList.drop (64 * k)).take 64 := by rw [extract_list, ht]; simp
      have htd : (t.extract 64 t.size).data.toList = s.data.toList.drop (64 * (k + 1)) := by
        rw [extract_list, ht, List.drop_drop, List.take_of_length_le (by rw [List.length_drop]; simp; omega), show 64 * k + 64 = 64 * (k + 1) by omega]
      have hn : blocksN (k + 1) [a, b, c, d, e, f, g, y] s.data.toList = blockN (blocksN k [a, b, c, d, e, f, g, y] s.data.toList) (t.extract 0 64).data.toList := by
        rw [htk]; exact blocksN_snoc k _ _ (by simp; omega)
      have h81 := blockN_eight h8 (t.extract 0 64).data.toList
      rw [← hn] at h81
      have hmx : ∀ W, Tabs W → _ := fun W hW => mix_any (t.extract 0 64) (blocksN k [a, b, c, d, e, f, g, y] s.data.toList) W (by simp [ByteArray.size_extract]; omega) h8 hW
      rw [← hn] at hmx
      have hex : (t.extract 64 t.size).size = 64 * (s.size / 64 - (k + 1)) := by simp [ByteArray.size_extract]; omega
      obtain ⟨A, B, C, D, E, F, G, H, hp, -⟩ := h8.parts
      rw [hp] at hmx r2
      have hmx : ∀ W, Tabs W → Calls Tryz.prog 188 #[.agg #[.int .u32 A, .int .u32 B, .int .u32 C, .int .u32 D, .int .u32 E, .int .u32 F, .int .u32 G, .int .u32 H], .string (t.extract 0 64)] W _ := hmx
      have c0 := r2.cell 0 _ (word_at _ 0 (by simp))
      have c1 := r2.cell 1 _ (word_at _ 1 (by simp))
      have c2 := r2.cell 2 _ (word_at _ 2 (by simp))
      have c3 := r2.cell 3 _ (word_at _ 3 (by simp))
      have c4 := r2.cell 4 _ (word_at _ 4 (by simp))
      have c5 := r2.cell 5 _ (word_at _ 5 (by simp))
      have c6 := r2.cell 6 _ (word_at _ 6 (by simp))
      have c7 := r2.cell 7 _ (word_at _ 7 (by simp))
      simp only [List.getD_cons_zero, List.getD_cons_succ] at c0 c1 c2 c3 c4 c5 c6 c7
      have HD := Lib.hid htd
      have HZ := Lib.hid hex
      obtain ⟨N, hN⟩ : ∃ N, blocksN (k + 1) [a, b, c, d, e, f, g, y] s.data.toList = N := ⟨_, rfl⟩
      rw [hN] at hmx h81
      have HX := Lib.hid hmx
      have HN := Lib.hid hN
      clear hN
      clear hmx htd hex htk hn hp h8 ht htz hmm
      go_wp2_with fail
      have ht1i : (64 : Int) ≤ (t.size : Int) := by omega
      go_still_tail 3, (by kernel_rfl)
      refine wpList_world (fun wd => IsRow wd w.heap.size 154 (wordsV [A, B, C, D, E, F, G, H]) ∧ IsRow wd (w.heap.size + 1) 154 (wordsV [0, 0, 0, 0, 0, 0, 0, 0]) ∧ Below w.heap.size w wd ∧ Tabs wd) ⟨r2, r4, below_drewN hB 1, HTr.out⟩ ?_
      clear r2 r4 hB HTr c0 c1 c2 c3 c4 c5 c6 c7
      rintro wd ⟨r2, r4, hB, hTd⟩
      have HTd := Lib.hid hTd
      clear hTd
      have hs8 : (wordsV N).toArray.size = 8 := by rw [List.size_toArray, wordsV_len]; exact h81.1
      have hV8 : (Tryz.prog.info? 154).map (·.size) = some (wordsV N).toArray.size := by rw [hs8]; kernel_rfl
      have hone : (wordsV N).toArray.all (·.oneCell') = true := by simp [wordsV, u32V, Value.oneCell']
      have hold : (wordsV [A, B, C, D, E, F, G, H]).toArray.size = (wordsV N).toArray.size := by rw [hs8]; rfl
      go_wp2_with (first
        | ((with_reducible refine (HX.out _ HTd.out).mono ?_); rintro e w2 ⟨rfl, hb2⟩; have r2' := r2.call hb2; have r4' := r4.call hb2; have hB2 := bthen hB hb2; have hR := IsRow.rowSelf r2' (wordsV N); have hR4 := r4'.rowOther (Nat.succ_ne_self _) (wordsV N).toArray; have hB3 := below_setRow hB2 (Nat.le_refl _) hB2.size (wordsV N).toArray; unfold IsRow at r2')
        | (refine wpList_store_row rfl 154 _ _ rfl w.heap.size (wordsV N).toArray rfl rfl _ _ r2' hV8 hold hone ?_))
      go_roundw
      case rel => exact ⟨k + 1, _, by omega, rfl, HD.out, HZ.out, by rw [HN.out]; exact hR, hR4, hB3⟩
      case measure => have := HZ.out; have := HM.out; simp; omega
    · have hk' : k = s.size / 64 := by omega
      have ht0 : ¬ 0 < t.size := by rw [hk'] at htz; omega
      have HE : Hid (Ending.returned (.agg (List.map u32V (blocksN (s.size / 64) [a, b, c, d, e, f, g, y] s.data.toList)).toArray) = Ending.returned (.agg (wordsV (blocksN k [a, b, c, d, e, f, g, y] s.data.toList)).toArray)) := Lib.hid (by rw [hk']; rfl)
      clear hk' htz ht hlt hk
      generalize blocksN k [a, b, c, d, e, f, g, y] s.data.toList = N at *
      have hs8 : (wordsV N).toArray.size = 8 := by rw [List.size_toArray, wordsV_len]; exact h8.1
      have hV8 : (Tryz.prog.info? 154).map (·.size) = some (wordsV N).toArray.size := by rw [hs8]; kernel_rfl
      have hone : (wordsV N).toArray.all (·.oneCell') = true := by simp [wordsV, u32V, Value.oneCell']
      have hold : (wordsV [0, 0, 0, 0, 0, 0, 0, 0]).toArray.size = (wordsV N).toArray.size := by rw [hs8]; rfl
      have hrow2 := IsRow.rowSelf r4 (wordsV N)
      have hbl := below_setRow hB (Nat.le_succ w.heap.size) hB.size (wordsV N).toArray
      unfold IsRow at r2 r4 hrow2
      generalize (wordsV N).toArray = X at *
      go_upto_region 4 with fail
      go_wp2_with (first | (refine wpList_load_row rfl 154 _ rfl w.heap.size rfl _ _ _ _ r2 Tryz.underlying154 rfl hV8 ?_) | (refine wpList_store_row rfl 154 _ _ rfl (w.heap.size + 1) X rfl rfl _ _ r4 hV8 hold hone ?_))
      refine bodyPost_ret (v := .agg X) ?_ rfl ⟨HE.out.symm, hbl⟩
      exact results_cell_row rfl _ _ (w.heap.size + 1) _ _ _ _ rfl hrow2 Tryz.underlying154 rfl hV8
end Go.Proofs.YtkgnapojkijbgaaGreatDoor
/- The contracts of package seal's Sum and Mark. -/
namespace Go.Proofs.YtkgnapojkijbgaaGreatDoor
open Go.RowKit

theorem IsRow.drew {w : World} {g T : Nat} {V : List Value} (h : IsRow w g T V) : IsRow w.drew g T V := h
theorem Tabs.drew {w : World} (h : Tabs w) : Tabs w.drew := h
theorem Tabs.alloc {w : World} (h : Tabs w) (o : Obj) : Tabs (w.alloc o) := by
  have hb : Below w.heap.size w (w.alloc o) := (Below.refl _ _).alloc (Nat.le_refl _) _
  exact h.call hb h.1 hb.size
theorem Tabs.after {w w' : World} (h : Tabs w) (hb : Below w.heap.size w w') : Tabs w' := h.call hb h.1 hb.size
theorem Tabs.setRow {w : World} (h : Tabs w) {g : Nat} (hg : 0 < g ∧ 3 < g) (X : Array Value) : Tabs (w.setRow g X) :=
  ⟨by simpa [World.setRow] using h.1, fun i hi => (World.cell?_of_block (setRow_other w g 0 X (by omega))).trans (h.2.1 i hi), fun i hi => (World.cell?_of_block (setRow_other w g 3 X (by omega))).trans (h.2.2 i hi)⟩
def Tabs8 (w : World) : Prop :=
  w.cell? ⟨0, 0, none⟩ = some (.int .u32 1779033703) ∧ w.cell? ⟨0, 1, none⟩ = some (.int .u32 3144134277) ∧ w.cell? ⟨0, 2, none⟩ = some (.int .u32 1013904242) ∧ w.cell? ⟨0, 3, none⟩ = some (.int .u32 2773480762) ∧
  w.cell? ⟨0, 4, none⟩ = some (.int .u32 1359893119) ∧ w.cell? ⟨0, 5, none⟩ = some (.int .u32 2600822924) ∧ w.cell? ⟨0, 6, none⟩ = some (.int .u32 528734635) ∧ w.cell? ⟨0, 7, none⟩ = some (.int .u32 1541459225)
theorem tabs8 {w : World} (h : Tabs w) : Tabs8 w :=
  ⟨h.2.1 0 (by omega), h.2.1 1 (by omega), h.2.1 2 (by omega), h.2.1 3 (by omega), h.2.1 4 (by omega), h.2.1 5 (by omega), h.2.1 6 (by omega), h.2.1 7 (by omega)⟩

theorem cells8 {w : World} {b T A B C D E F G H : Nat} (h : IsRow w b T (wordsV [A, B, C, D, E, F, G, H])) :
    w.cell? ⟨b, 0, none⟩ = some (.int .u32 A) ∧ w.cell? ⟨b, 1, none⟩ = some (.int .u32 B) ∧ w.cell? ⟨b, 2, none⟩ = some (.int .u32 C) ∧ w.cell? ⟨b, 3, none⟩ = some (.int .u32 D) ∧
    w.cell? ⟨b, 4, none⟩ = some (.int .u32 E) ∧ w.cell? ⟨b, 5, none⟩ = some (.int .u32 F) ∧ w.cell? ⟨b, 6, none⟩ = some (.int .u32 G) ∧ w.cell? ⟨b, 7, none⟩ = some (.int .u32 H) :=
  ⟨h.cell 0 _ rfl, h.cell 1 _ rfl, h.cell 2 _ rfl, h.cell 3 _ rfl, h.cell 4 _ rfl, h.cell 5 _ rfl, h.cell 6 _ rfl, h.cell 7 _ rfl⟩

set_option maxHeartbeats 1600000 in
set_option maxRecDepth 100000 in
theorem sum_any (s : ByteArray) (w : World) (hs : s.size ≤ 400000000) (hT : Tabs w) :
    Calls Tryz.prog 79 #[.string s] w fun e w' => e = .returned (.string ⟨(shaL s.data.toList).toArray⟩) ∧ Below w.heap.size w w' := by
  obtain ⟨Q, hQ⟩ : ∃ Q, Q = 64 * (s.size / 64) := ⟨_, rfl⟩
  have hq : (s.size : Int) - (s.size : Int) % 64 = (Q : Int) := by omega
  have hQs : Q ≤ s.size := by omega
  have HQ := Lib.hid hQ
  have HT := Lib.hid hT
  clear hQ
  go_enter Tryz.func79, Tryz.ntmps79
  have hl64 : (s.extract 0 Q).size % 64 = 0 := by have := HQ.out; simp [ByteArray.size_extract]; omega
  have hlm : (s.extract 0 Q).size ≤ maxLen := by unfold maxLen; simp [ByteArray.size_extract]; omega
  have hlq : (s.extract 0 Q).size / 64 = s.size / 64 := by have := HQ.out; simp [ByteArray.size_extract]; omega
  have hld : (s.extract 0 Q).data.toList = s.data.toList.take (64 * (s.size / 64)) := by rw [extract_list, ← HQ.out]; simp
  have hmx : ∀ W, Tabs W → Calls Tryz.prog 142 #[.agg (wordsV HH).toArray, .string (s.extract 0 Q)] W fun e w' => e = .returned (.agg (wordsV (blocksN (s.size / 64) HH (s.data.toList.take (64 * (s.size / 64))))).toArray) ∧ Below W.heap.size W w' := fun W hW => by
    have := mixAll_any (s.extract 0 Q) HH W hl64 hlm HH_eight hW
    rw [hlq, hld] at this
    exact this
  have h8 : Eight (blocksN (s.size / 64) HH (s.data.toList.take (64 * (s.size / 64)))) := blocksN_eight _ HH_eight _
  have hfin := shaW_parts s.data.toList (s.size / 64) (by simp)
  generalize blocksN (s.size / 64) HH (s.data.toList.take (64 * (s.size / 64))) = M at *
  obtain ⟨X, hX⟩ : ∃ X, X = (wordsV M).toArray := ⟨_, rfl⟩
  have hX8 : X.size = 8 := by rw [hX, List.size_toArray, wordsV_len]; exact h8.1
  have hone : X.all (·.oneCell') = true := by rw [hX]; simp [wordsV, u32V, Value.oneCell']
  rw [← hX] at hmx
  have hmx : ∀ W, Tabs W → Calls Tryz.prog 142 #[.agg #[.int .u32 1779033703, .int .u32 3144134277, .int .u32 1013904242, .int .u32 2773480762, .int .u32 1359893119, .int .u32 2600822924, .int .u32 528734635, .int .u32 1541459225], .string (s.extract 0 Q)] W fun e w' => e = .returned (.agg X) ∧ Below W.heap.size W w' := hmx
  have HX := Lib.hid hmx
  have HF := Lib.hid hfin
  have HXM := Lib.hid hX
  have HX8 := Lib.hid hX8
  have HI : Hid ((Tryz.prog.info? 154).map (·.size) = some X.size) := Lib.hid (by rw [hX8]; kernel_rfl)
  have HZ : Hid ((#[.int .u32 0, .int .u32 0, .int .u32 0, .int .u32 0, .int .u32 0, .int .u32 0, .int .u32 0, .int .u32 0] : Array Value).size = X.size) := Lib.hid (by rw [hX8]; rfl)
  clear hmx hfin hl64 hlm hlq hld hX hX8
  have hTd := tabs8 (hT.drew)
  have h2 : 0 < w.heap.size ∧ 3 < w.heap.size := HT.out.1
  go_wp2_with fail
  go_cut [4] (fun p wx => ∃ b, p = .pointer (some ⟨b, 0, none⟩) ∧ w.heap.size ≤ b ∧ IsRow wx b 154 X.toList ∧ Below w.heap.size w wx)
  case first =>
    go_region_held3 (fun w' => w'.cell? ⟨0, 0, none⟩ = some (.int .u32 1779033703) ∧ w'.cell? ⟨0, 1, none⟩ = some (.int .u32 3144134277) ∧ w'.cell? ⟨0, 2, none⟩ = some (.int .u32 1013904242) ∧ w'.cell? ⟨0, 3, none⟩ = some (.int .u32 2773480762) ∧
  w'.cell? ⟨0, 4, none⟩ = some (.int .u32 1359893119) ∧ w'.cell? ⟨0, 5, none⟩ = some (.int .u32 2600822924) ∧ w'.cell? ⟨0, 6, none⟩ = some (.int .u32 528734635) ∧ w'.cell? ⟨0, 7, none⟩ = some (.int .u32 1541459225))
      (first | exact tabs8 (by assumption) | exact tabs8 (Tabs.alloc (by assumption) _) | exact tabs8 (Tabs.drew HT.out) | exact tabs8 (Tabs.alloc (Tabs.drew HT.out) _) | exact tabs8 (Tabs.setRow (by assumption) h2 _))
      (first
        | (go_at_call 142; refine (HX.out _ (Tabs.drew HT.out)).mono ?_; rintro e w2 ⟨rfl, hb2⟩; have hT2 := Tabs.after (Tabs.drew HT.out) hb2; have hs1 := run_storeCells_new (P := Tryz.prog) w2 154 #[.int .u32 0, .int .u32 0, .int .u32 0, .int .u32 0, .int .u32 0, .int .u32 0, .int .u32 0, .int .u32 0] X HI.out HZ.out hone)
        | (go_at_call 142; refine (HX.out _ (Tabs.alloc (Tabs.drew HT.out) _)).mono ?_; rintro e w2 ⟨rfl, hb2⟩; have hT2 := Tabs.after (Tabs.alloc (Tabs.drew HT.out) _) hb2; have hs2 := run_storeCells_row (P := Tryz.prog) w2 w.heap.size 154 _ X (IsRow.call (IsRow.new w.drew 154 (wordsV [0, 0, 0, 0, 0, 0, 0, 0])) hb2) HZ.out hone))
    · go_wp2
      go_meet
      exact ⟨_, rfl, hb2.size, IsRow.new w2 154 X.toList, ((below_drewN (Below.refl _ _) 1).trans hb2).alloc hb2.size _⟩
    · go_wp2
      go_meet
      have hb3 : Below w.heap.size w w2 := ((below_drewN (Below.refl _ _) 1).alloc (Nat.le_refl _) _).trans (hb2.mono (by simp))
      exact ⟨_, rfl, Nat.le_refl _, IsRow.rowSelf (IsRow.call (IsRow.new w.drew 154 (wordsV [0, 0, 0, 0, 0, 0, 0, 0])) hb2) X.toList, below_setRow hb3 (Nat.le_refl _) hb3.size _⟩
  case rest =>
    clear hTd
    obtain ⟨b, rfl, hbb, hrow, hB⟩ := hcut
    obtain ⟨A, B, C, D, E, F, G, H, rfl, -⟩ := h8.parts
    rw [HXM.out] at hrow
    have hrow : IsRow wc b 154 (wordsV [A, B, C, D, E, F, G, H]) := hrow
    have hTx : Tabs wc := HT.out.call hB h2 hB.size
    have HTx := Lib.hid hTx
    obtain ⟨N, hN⟩ : ∃ N : ByteArray, N = ⟨(endL (s.data.toList.drop (64 * (s.size / 64))) s.size).toArray⟩ := ⟨_, rfl⟩
    have hend := fun W => ending_any (s.extract Q s.size) s.size W (by simp [ByteArray.size_extract]; omega) (by omega)
    have hxd : (s.extract Q s.size).data.toList = s.data.toList.drop (64 * (s.size / 64)) := by
      rw [extract_list, ← HQ.out, List.take_of_length_le (by simp)]
    rw [hxd, ← hN] at hend
    have hNl : N.data.toList = endL (s.data.toList.drop (64 * (s.size / 64))) s.size := by rw [hN]
    have hNs : N.size = (endL (s.data.toList.drop (64 * (s.size / 64))) s.size).length := by rw [size_list, hNl]
    have hzz : zerosN (s.data.toList.drop (64 * (s.size / 64))).length ≤ 63 := by unfold zerosN; omega
    have hmx := fun W hW => mixAll_any N [A, B, C, D, E, F, G, H] W (by rw [hNs]; exact endL_mod _ _) (by unfold maxLen; rw [hNs, endL_len]; simp at hzz ⊢; omega) h8 hW
    have hN8 := blocksN_eight (N.size / 64) h8 N.data.toList
    have hres : shaW s.data.toList = blocksN (N.size / 64) [A, B, C, D, E, F, G, H] N.data.toList := by rw [HF.out, hNs, hNl]; simp
    rw [← hres] at hmx hN8
    obtain ⟨Y, hY⟩ : ∃ Y, Y = (wordsV (shaW s.data.toList)).toArray := ⟨_, rfl⟩
    rw [← hY] at hmx
    have hmx : ∀ W, Tabs W → Calls Tryz.prog 142 #[.agg #[.int .u32 A, .int .u32 B, .int .u32 C, .int .u32 D, .int .u32 E, .int .u32 F, .int .u32 G, .int .u32 H], .string N] W fun e w' => e = .returned (.agg Y) ∧ Below W.heap.size W w' := hmx
    have hone2 : Y.all (·.oneCell') = true := by rw [hY]; simp [wordsV, u32V, Value.oneCell']
    have hY8 : Y.size = 8 := by rw [hY, List.size_toArray, wordsV_len]; exact hN8.1
    have HM := Lib.hid hmx
    have HEN := Lib.hid hend
    have HY := Lib.hid hY
    have HI2 : Hid ((Tryz.prog.info? 154).map (·.size) = some Y.size) := Lib.hid (by rw [hY8]; kernel_rfl)
    have HZ2 : Hid ((wordsV [A, B, C, D, E, F, G, H]).toArray.size = Y.size) := Lib.hid (by rw [hY8]; rfl)
    have HY8 := Lib.hid hY8
    have HROW := Lib.hid hrow
    clear hY hY8 hmx hend hxd hN hNl hNs hzz hres HX HF HXM HX8 HI HZ hone hrow
    go_wp2_with fail
    go_cut [4] (fun p wz => p = .pointer (some ⟨b, 0, none⟩) ∧ IsRow wz b 154 Y.toList ∧ Below w.heap.size w wz)
    case first =>
      have hcs := cells8 (IsRow.drew HROW.out)
      go_region_with (first
          | (go_at_call 143; refine (HEN.out _).mono ?_; rintro e w3 ⟨rfl, hb3⟩; have hT3 := Tabs.after (Tabs.drew HTx.out) hb3; have hr3 := IsRow.call (IsRow.drew HROW.out) hb3; have hcs3 := cells8 hr3)
          | (go_at_call 142; refine (HM.out _ hT3).mono ?_; rintro e w4 ⟨rfl, hb4⟩; have hr4 := IsRow.call hr3 hb4; have hs4 := run_storeCells_row (P := Tryz.prog) w4 b 154 _ Y hr4 HZ2.out hone2))
      all_goals
        go_wp2
        go_meet
        exact ⟨rfl, IsRow.rowSelf hr4 Y.toList, below_setRow (bthen (bthen (below_drewN hB 1) hb3) hb4) hbb (Nat.le_trans hB.size (Nat.le_trans hb3.size hb4.size)) _⟩
    case rest =>
      obtain ⟨rfl, hrow, hB⟩ := hcut
      have h8 := shaW_eight s.data.toList
      have hfin : shaL s.data.toList = (shaW s.data.toList).flatMap be4 := rfl
      have hYi : ∀ i, i < 8 → Y[i]? = some (.int .u32 (((shaW s.data.toList).getD i 0 : Nat) : Int)) := fun i hi => by
        rw [HY.out]; simpa using word_at (shaW s.data.toList) i (by rw [h8.1]; exact hi)
      have HY9 := Lib.hid hYi
      have HFIN := Lib.hid hfin
      clear hYi hfin HY HQ HZ2 hone2 HY8 HM HEN HROW HTx
      generalize shaW s.data.toList = W at *
      unfold IsRow at hrow
      have hI2 := HI2.out
      clear HI2
      go_upto_region 5 with fail
      go_wp2_with (refine wpList_load_row rfl 154 _ rfl b rfl _ _ _ _ hrow Tryz.underlying154 rfl hI2 ?_)
      go_loopw [5, 28] (fun v i wr => ∃ k : Nat, k ≤ 8 ∧ i = .int .i64 k ∧ OwnsM wr w.heap.size 5 1 v (4 * k) (bytesV ((W.take k).flatMap be4)) ∧ Below w.heap.size w wr) (fun _ i _ => 8 - (intOf i).toNat)
      case atStart => exact ⟨0, by omega, rfl, OwnsM.nil _ _ _ _, hB⟩
      case round =>
        clear hrow hB
        obtain ⟨k, hk, rfl, hown, hB⟩ := hrel
        by_cases hlt : k < 8
        · have hx := fun wx => run_index_words (P := Tryz.prog) wx 154 122 8 Y k _ Tryz.underlying154 Tryz.underlying122 (by kernel_rfl) hlt (HY9.out k hlt)
          have hxb := getD_lt h8.2 k
          have htk := be4_take W k (by rw [h8.1]; exact hlt)
          have HTK := Lib.hid htk
          clear htk
          generalize W.getD k 0 = x at *
          go_wp2_with ((with_reducible refine (appendWord_any _ (4 * k) x _ w.heap.size _ hxb hown hB.size (by omega)).mono ?_); rintro e w2 ⟨v2, rfl, hown2, hg2⟩)
          go_roundw
          case rel => exact ⟨k + 1, by omega, by go_num, by rw [HTK.out, bytesV_app]; exact hown2, hB.grown hg2 hB.size (fun k hk => (hown.lt k hk).1)⟩
          case measure => simp [intOf]; omega
        · have hk8 : k = 8 := by omega
          have hall : (W.take k).flatMap be4 = shaL s.data.toList := by rw [HFIN.out, List.take_of_length_le (by rw [h8.1]; omega)]
          have hlen : 4 * k = (shaL s.data.toList).length := by rw [shaL_len]; omega
          rw [hall, hlen] at hown
          have hcv := OwnsM.str (P := Tryz.prog) (src := 79) (dst := 9) hown Tryz.underlying79 Tryz.underlying5 Tryz.underlying9
          clear hall hlen hk8 hown HFIN
          go_wp2
          go_ret
          exact ⟨rfl, hB⟩
end Go.Proofs.YtkgnapojkijbgaaGreatDoor
/- The contracts of package seal's Mark, and of the laws' guard. -/
namespace Go.Proofs.YtkgnapojkijbgaaGreatDoor
open Go.RowKit

def digits : ByteArray := ⟨#[48, 49, 50, 51, 52, 53, 54, 55, 56, 57, 97, 98, 99, 100, 101, 102]⟩
theorem hex_index (d : Nat) (hd : d < 16) (w : World) :
    (Instr.index 9 (.string ⟨#[48, 49, 50, 51, 52, 53, 54, 55, 56, 57, 97, 98, 99, 100, 101, 102]⟩) (.int .u8 (d : Int))).run Tryz.prog w = .ok (.int .u8 ((hexD d).toNat : Int)) w := by
  rw [run_index_string _ _ _ _ _ Tryz.underlying9, dif_pos ⟨by omega, by show (d : Int) < 16; omega⟩]
  match d, hd with
  | 0, _ => rfl
  | 1, _ => rfl
  | 2, _ => rfl
  | 3, _ => rfl
  | 4, _ => rfl
  | 5, _ => rfl
  | 6, _ => rfl
  | 7, _ => rfl
  | 8, _ => rfl
  | 9, _ => rfl
  | 10, _ => rfl
  | 11, _ => rfl
  | 12, _ => rfl
  | 13, _ => rfl
  | 14, _ => rfl
  | 15, _ => rfl
  | n + 16, hd => exact absurd hd (by omega)
theorem and15 (x : Nat) (h : x < 256) : bits .and .u8 (x : Int) 15 = ((x % 16 : Nat) : Int) := by
  have := u8_and_nat x 15 (by omega) (by omega)
  rw [show (15 : Nat) = 2 ^ 4 - 1 by rfl, Nat.and_two_pow_sub_one_eq_mod] at this
  exact this

set_option maxHeartbeats 1600000 in
set_option maxRecDepth 100000 in
theorem mark_any (s : ByteArray) (w : World) (hs : s.size ≤ 400000000) (hT : Tabs w) :
    Calls Tryz.prog 25 #[.string s] w fun e w' => e = .returned (.string ⟨(markL s.data.toList).toArray⟩) ∧ Below w.heap.size w w' := by
  obtain ⟨i0, hi, hz0, hz1, hz2⟩ := info_parts Tryz.infoB
  have hsum := fun W hW => sum_any s W hs hW
  have hml := markL_len s.data.toList
  have hmd : markL s.data.toList = ((shaL s.data.toList).take 8).flatMap fun b => [hexD (b.toNat / 16), hexD (b.toNat % 16)] := rfl
  obtain ⟨S, hS⟩ : ∃ S : ByteArray, S = ⟨(shaL s.data.toList).toArray⟩ := ⟨_, rfl⟩
  have hS32 : S.size = 32 := by rw [hS]; show (shaL s.data.toList).toArray.size = 32; rw [List.size_toArray, shaL_len]
  have hSl : S.data.toList = shaL s.data.toList := by rw [hS]
  rw [← hS] at hsum
  rw [← hSl] at hmd
  have HSU := Lib.hid hsum
  have HMD := Lib.hid hmd
  have HML := Lib.hid hml
  have HT := Lib.hid hT
  have hs1 : 32 ≤ S.size := by omega
  have hs2 : S.size ≤ 32 := by omega
  clear hsum hml hmd hS hSl hS32
  go_enter Tryz.func25, Tryz.ntmps25
  go_wp2_with ((with_reducible refine (HSU.out _ HT.out).mono ?_); rintro e w1 ⟨rfl, hb1⟩)
  go_loopw [4, 8] (fun v i wr => ∃ k : Nat, k ≤ 8 ∧ i = .int .i64 k ∧ OwnsM wr w.heap.size 5 1 v (2 * k) (bytesV ((S.data.toList.take k).flatMap fun b => [hexD (b.toNat / 16), hexD (b.toNat % 16)])) ∧ Below w.heap.size w wr) (fun _ i _ => 8 - (intOf i).toNat)
  case atStart => exact ⟨0, by omega, rfl, OwnsM.nil _ _ _ _, hb1⟩
  case round =>
    clear hb1
    obtain ⟨k, hk, rfl, hown, hB⟩ := hrel
    by_cases hlt : k < 8
    · have hkS : k < S.size := by omega
      have htk : (S.data.toList.take (k + 1)).flatMap (fun b => [hexD (b.toNat / 16), hexD (b.toNat % 16)]) = (S.data.toList.take k).flatMap (fun b => [hexD (b.toNat / 16), hexD (b.toNat % 16)]) ++ [hexD (S[k].toNat / 16), hexD (S[k].toNat % 16)] := by
        rw [List.take_succ_eq_append_getElem (by simpa using hkS), List.flatMap_append]
        simp; exact ⟨rfl, rfl⟩
      have HTK := Lib.hid htk
      have hx := S[k].toNat_lt
      have h15 := and15 S[k].toNat hx
      have d1 := hex_index (S[k].toNat / 16) (by omega)
      have d2 := hex_index (S[k].toNat % 16) (by omega)
      rw [show ((S[k].toNat / 16 : Nat) : Int) = (S[k].toNat : Int) / 16 from rfl] at d1
      obtain ⟨m, hm⟩ : ∃ m, m = S[k].toNat % 16 := ⟨_, rfl⟩
      rw [← hm] at h15 d2
      have HMM := Lib.hid hm
      clear hm
      have hs := hB.size
      clear htk
      go_wp2_with fail
      go_region_law (refine step_pushM wr.drew rfl (.tmp 11) (.tmp 22) 79 rfl w.heap.size 5 i0 (.int .u8 0) 1 Tryz.underlying79 hi hz0 hz1 hz2 rfl u4 (2 * k) (bytesV ((S.data.toList.take k).flatMap fun b => [hexD (b.toNat / 16), hexD (b.toNat % 16)])) (by simp [Act.eval]) hown.drew [.int .u8 ((hexD (S[k].toNat / 16)).toNat : Int), .int .u8 ((hexD m).toNat : Int)] wr.heap.size (by simp [Act.eval]) rfl (by simp [Value.oneCell']) (by unfold maxLen; simp; omega) (by simp; omega) hs ?_; intro v2 w2 hown2 hg2)
      all_goals
       have hg3 : wr.grownBy w2 u4.ownBlock := ⟨hg2.os, hg2.tape, hg2.output, hg2.size, hg2.block⟩
       go_wp2
       go_roundw
       case rel => exact ⟨k + 1, by omega, by go_num, by rw [HTK.out, bytesV_app, ← HMM.out]; exact hown2, hB.grown hg3 hs (fun k hk => (hown.lt k hk).1)⟩
       case measure => simp [intOf]; omega
    · have hall : (S.data.toList.take k).flatMap (fun b => [hexD (b.toNat / 16), hexD (b.toNat % 16)]) = markL s.data.toList := by rw [HMD.out, show k = 8 by omega]
      have hlen : 2 * k = (markL s.data.toList).length := by rw [HML.out]; omega
      rw [hall, hlen] at hown
      have hcv := OwnsM.str (P := Tryz.prog) (src := 79) (dst := 9) hown Tryz.underlying79 Tryz.underlying5 Tryz.underlying9
      clear hall hlen hown
      go_wp2
      go_ret
      exact ⟨rfl, hB⟩
end Go.Proofs.YtkgnapojkijbgaaGreatDoor
/- The contract of config.Mark. -/
namespace Go.Proofs.YtkgnapojkijbgaaGreatDoor
open Go.RowKit

/-- a text's mark -/
def mkS (t : ByteArray) : ByteArray := ⟨(markL t.data.toList).toArray⟩
/-- what the tables of rules' words, of days' names and of the sum hold -/
def CfgW (w : World) : Prop := TabW w ∧ DayW w ∧ Tabs w
theorem CfgW.call {w w1 : World} (h : CfgW w) (hb : Below w.heap.size w w1) : CfgW w1 := ⟨h.1.call hb, h.2.1.call hb, h.2.2.after hb⟩
/-- a text, or a mark of it, and the error beside it: T tells what it is of the text -/
def TextR (T : ByteArray → ByteArray) (k : CfA) (w : World) (e : Ending) (w' : World) : Prop :=
  ∃ (S : ByteArray) (E : Int), e = .returned (.tuple #[.string S, .int .i64 E]) ∧ Below w.heap.size w w' ∧
    ((E = 0 ∧ cfgC k = true ∧ ∃ x, NormOf k x ∧ txK x = true ∧ S = T (txS x)) ∨ (E = 2 ∧ cfgC k = true ∧ (∃ x, NormOf k x ∧ txK x = false) ∧ S = ⟨#[]⟩) ∨ (E = 1 ∧ cfgC k = false ∧ S = ⟨#[]⟩))
theorem cfgTextR_any (k : CfA) (w : World) (hk : k.ok w) (hw : CfgW w) : Calls Tryz.prog 9 #[.agg (kCells k)] w (TextR id k w) := by
  refine (cfgText_any k w hk hw.1 hw.2.1).mono ?_
  rintro e w' ⟨hb, ⟨hc, x, hno, rfl⟩ | ⟨hc, rfl⟩⟩
  · cases hK : txK x with
    | true =>
      have : txE x = 0 := by unfold txE; rw [hK]; rfl
      exact ⟨_, _, rfl, hb, .inl ⟨this, hc, x, hno, hK, rfl⟩⟩
    | false =>
      have h1 : txE x = 2 := by unfold txE; rw [hK]; rfl
      have h2 : txS x = ⟨#[]⟩ := by unfold txS; rw [hK]; rfl
      exact ⟨_, _, rfl, hb, .inr (.inl ⟨h1, hc, ⟨x, hno, hK⟩, h2⟩)⟩
  · exact ⟨_, _, rfl, hb, .inr (.inr ⟨rfl, hc, rfl⟩)⟩
set_option maxHeartbeats 6400000 in
set_option maxRecDepth 100000 in
theorem cfgMark_any (k : CfA) (w : World) (hk : k.ok w) (hw : CfgW w) : Calls Tryz.prog 10 #[.agg (kCells k)] w (TextR mkS k w) := by
  have hb1 := (Below.refl w.heap.size w).alloc (Nat.le_refl _) (.cells (kCells k) 31)
  have hA := Blk.new w 31 (kCells k)
  have HTX := Lib.hid (fun W (hW : Below w.heap.size w W) => cfgTextR_any k W (hk.call hW) (hw.call hW))
  have HMK := Lib.hid (fun (S : ByteArray) (hS : S.size ≤ 400000000) W (hW : Below w.heap.size w W) => mark_any S W hS (hw.call hW).2.2)
  have HB := Lib.hid hb1
  simp only [kCells] at *
  clear hb1 hk hw
  go_enter Tryz.func10, Tryz.ntmps10
  go_upto_region 1 with fail
  obtain ⟨wx, hwx⟩ : ∃ wx, w.alloc (.cells #[.slice k.ua k.ru.length k.uc, .string k.rt.n.recv, .slice k.rt.ma k.rt.n.ms.length k.rt.mc, .slice k.rt.ba k.rt.n.bys.length k.rt.bc, .int .i64 k.rt.n.wait, .int .i64 k.rt.n.every, .int .i64 k.rt.n.rep, .slice k.rt.ua k.rt.n.mute.length k.rt.uc, .bool k.rt.n.on, .slice k.rt.ka k.rt.n.kids.length k.rt.kc, .slice k.ra k.re.length k.rc, .slice k.ia k.ih.length k.ic, .slice k.ha k.hr.length k.hc] 31) = wx := ⟨_, rfl⟩
  simp only [hwx] at *
  clear hwx
  obtain ⟨c0, c1, c2, c3, c4, c5, c6, c7, c8, c9, c10, c11, c12⟩ := hA.cells13
  clear hA
  go_upto_region 2 with (go_at_call 9; refine (HTX.out _ HB.out).mono ?_; rintro e w2 ⟨S, E, rfl, hb2, hq⟩; have hbe := bthen HB.out hb2)
  clear c0 c1 c2 c3 c4 c5 c6 c7 c8 c9 c10 c11 c12
  rcases hq with ⟨rfl, hc, x, hno, hK, hS⟩ | ⟨rfl, hc, hx, rfl⟩ | ⟨rfl, hc, rfl⟩
  · have hsz : S.size ≤ 400000000 := by rw [hS]; exact (txS_size hK).2
    have HF := Lib.hid (And.intro hc (And.intro hno (And.intro hK hS)))
    clear hc hno hK hS
    go_wp2_with (go_at_call 25; refine (HMK.out S hsz _ hbe).mono ?_; rintro e w3 ⟨rfl, hb3⟩)
    go_ret2
    exact ⟨_, _, rfl, bthen hbe hb3, .inl ⟨rfl, HF.out.1, x, HF.out.2.1, HF.out.2.2.1, by rw [HF.out.2.2.2]; rfl⟩⟩
  · have HF := Lib.hid (And.intro hc hx)
    clear hc hx
    go_wp2_with fail
    go_ret2
    exact ⟨_, _, rfl, hbe, .inr (.inl ⟨rfl, HF.out.1, HF.out.2, rfl⟩)⟩
  · have HF := Lib.hid hc
    clear hc
    go_wp2_with fail
    go_ret2
    exact ⟨_, _, rfl, hbe, .inr (.inr ⟨rfl, HF.out, rfl⟩)⟩
end Go.Proofs.YtkgnapojkijbgaaGreatDoor
/- The contract of config's statements' own count of routes. -/
namespace Go.Proofs.YtkgnapojkijbgaaGreatDoor
open Go.RowKit

def ManyP10 (q : RtAt) (m : Nat) (w : World) (e : Ending) (w' : World) : Prop :=
  ∃ z : Nat, e = .returned (.int .i64 (z : Int)) ∧ 1 ≤ z ∧ z ≤ m + 1 ∧ (z ≤ m → z = q.n.count) ∧ Below w.heap.size w w'

set_option maxHeartbeats 6400000 in
set_option maxRecDepth 100000 in
theorem many10_any {w0 : World} {q : RtAt} (h : q.ok w0) : ∀ (w : World) (m : Nat), Below w0.heap.size w0 w → m ≤ 1000 → Calls Tryz.prog 26 #[.agg (tCells q), .int .i64 (m : Int)] w (ManyP10 q m w) := by
  induction h with
  | flat q h0 h1 =>
    intro w m _ hm
    have hb := (Below.refl w.heap.size w).alloc (Nat.le_refl _) (.cells (tCells q) 27)
    have hB := Blk.new w 27 (tCells q)
    have hc : q.n.count = 1 := by rw [Rt.count_eq, h1]; rfl
    have hz : q.n.kids.length = 0 := by rw [h1]; rfl
    have HB := Lib.hid hb
    have HC := Lib.hid hc
    have HZ := Lib.hid hz
    clear hb hc h0 h1 hz
    obtain ⟨n, ma, mc, ba, bc, ua, uc, ka, kc⟩ := q
    simp only [tCells] at *
    go_enter Tryz.func26, Tryz.ntmps26
    go_upto_region 1 with fail
    generalize w.alloc (.cells #[.string n.recv, .slice ma n.ms.length mc, .slice ba n.bys.length bc, .int .i64 n.wait, .int .i64 n.every, .int .i64 n.rep, .slice ua n.mute.length uc, .bool n.on, .slice ka n.kids.length kc] 27) = wx at *
    obtain ⟨c0, c1, c2, c3, c4, c5, c6, c7, c8⟩ := hB.cells9
    have hz := HZ.out
    go_wp2_with fail
    refine wp_loop_rounds 1 ?_
    rw [rounds_succ]
    go_wp2_with fail
    go_ret
    exact ⟨1, rfl, by omega, by omega, fun _ => HC.out.symm, HB.out⟩
  | row q b off R h0 h1 h2 h3 h4 h5 ih =>
    intro w m hw hm
    have hb := (Below.refl w.heap.size w).alloc (Nat.le_refl _) (.cells (tCells q) 27)
    have hB := Blk.new w 27 (tCells q)
    have hl := h0.2
    have H3 := Lib.hid h3
    have H4 := Lib.hid h4
    have IH := Lib.hid ih
    have HB := Lib.hid hb
    have HW := Lib.hid hw
    have hcnt := Rt.count_eq q.n
    have HCN := Lib.hid hcnt
    clear h0 h2 h3 h4 h5 ih hw hcnt
    obtain ⟨n, ma, mc, ba, bc, ua, uc, ka, kc⟩ := q
    simp only [tCells] at *
    subst h1
    unfold maxLen at hl
    have lic := hl.1
    have lic2 := hl.2
    go_enter Tryz.func26, Tryz.ntmps26
    go_upto_region 1 with fail
    have HW1 := Lib.hid (HW.out.trans (hb.mono HW.out.size))
    generalize w.alloc (.cells #[.string n.recv, .slice ma n.ms.length mc, .slice ba n.bys.length bc, .int .i64 n.wait, .int .i64 n.every, .int .i64 n.rep, .slice ua n.mute.length uc, .bool n.on, .slice (some ⟨b, off, none⟩) n.kids.length kc] 27) = wx at *
    obtain ⟨c0, c1, c2, c3, c4, c5, c6, c7, c8⟩ := hB.cells9
    clear hb
    go_wp2_with fail
    go_loopg [11, 5, 7] n.kids.length (fun gg iv kv _ wr => ∃ k z : Nat, k + gg = n.kids.length ∧ iv = .int .i64 k ∧ kv = .int .i64 z ∧ 1 ≤ z ∧ z ≤ m + 1 ∧ (z ≤ m → z = 1 + countRs (n.kids.take k)) ∧ Below wx.heap.size wx wr)
    case atStart => exact ⟨0, 1, by omega, rfl, rfl, by omega, by omega, fun _ => by simp [countRs], Below.refl _ _⟩
    case round =>
      obtain ⟨k, z, hkg, rfl, rfl, hz1, hzm, hzc, hbr⟩ := hrel
      have HZ := Lib.hid hzc
      have HBR := Lib.hid hbr
      clear hzc hbr
      cases gk with
      | zero =>
        obtain rfl : k = n.kids.length := by omega
        go_wp2_with fail
        go_ret
        exact ⟨z, rfl, by omega, by omega, fun h => by rw [HCN.out, HZ.out h, List.take_length], bthen HB.out HBR.out⟩
      | succ gg =>
        have hkl : k < n.kids.length := by omega
        have hrn := H3.out k hkl
        have hrl := (H4.out k hkl).call (HW1.out)
        obtain ⟨e0, e1, e2, e3, e4, e5, e6, e7, e8⟩ := hrl.call HBR.out
        have hct := countRs_take n.kids k hkl
        rw [← hrn] at hct
        have hih := IH.out k hkl (wr.alloc (.cells (tCells (R k)) 27)) (m - z) (HW1.out.trans ((HBR.out.mono HW1.out.size).trans (((Below.refl wr.heap.size wr).alloc (Nat.le_refl _) _).mono (Nat.le_trans HW1.out.size HBR.out.size)))) (by omega)
        have hbn := (Below.refl wr.heap.size wr).alloc (Nat.le_refl _) (.cells (tCells (R k)) 27)
        obtain ⟨f0, f1, f2, f3, f4, f5, f6, f7, f8⟩ := (Blk.new wr 27 (tCells (R k))).cells9
        have HIH := Lib.hid hih
        have HBN := Lib.hid hbn
        have HCT := Lib.hid hct
        clear hrn hrl hct hih hbn H3 H4 IH
        generalize R k = r at *
        obtain ⟨r, ma', mc', ba', bc', ua', uc', ka', kc'⟩ := r
        simp only [tCells] at *
        by_cases hzm2 : z ≤ m
        case neg =>
          go_wp2_with fail
          go_ret
          exact ⟨z, rfl, by omega, by omega, fun h => by omega, bthen HB.out (bthen HBR.out HBN.out)⟩
        case pos =>
          have hsub : ((m - z : Nat) : Int) = (m : Int) - (z : Int) := by omega
          rw [hsub] at HIH
          clear hsub
          go_wp2_with (go_at_call 26; refine HIH.out.mono ?_; rintro e w3 ⟨y, rfl, hy1, hy2, hy3, hb3⟩)
          go_roundg gg
          case measure => omega
          case rel => exact ⟨k + 1, z + y, by omega, by go_num, by go_num, by omega, by omega, fun h => by rw [HCT.out, ← hy3 (by omega)]; have := HZ.out hzm2; omega, bthen HBR.out (bthen HBN.out hb3)⟩
end Go.Proofs.YtkgnapojkijbgaaGreatDoor
/- The contract of config's statements' own measure of a configuration. -/
namespace Go.Proofs.YtkgnapojkijbgaaGreatDoor
open Go.RowKit

/-- what is told of how much there is: where it is not too much, all of it is little -/
def BigP (k : CfA) (w : World) (e : Ending) (w' : World) : Prop := ∃ b : Bool, e = .returned (.bool b) ∧ Below w.heap.size w w' ∧ (b = false → k.rt.n.count ≤ 40 ∧ k.ru.length ≤ 18 ∧ k.re.length ≤ 18 ∧ k.ih.length ≤ 10 ∧ k.hr.length ≤ 10)
set_option maxHeartbeats 6400000 in
set_option maxRecDepth 100000 in
theorem big_any (k : CfA) (w : World) (h : k.ok w) : Calls Tryz.prog 7 #[.agg (kCells k)] w (BigP k w) := by
  have hb := (Below.refl w.heap.size w).alloc (Nat.le_refl _) (.cells (kCells k) 31)
  have hA := Blk.new w 31 (kCells k)
  have HM := Lib.hid (fun W (hW : Below w.heap.size w W) => many10_any h.2.1 W 40 hW (by omega))
  have HB := Lib.hid hb
  clear hb h
  obtain ⟨ru, ua, uc, ⟨n, ma, mc, ba, bc, ma2, mc2, ka, kc⟩, re, ra, rc, ih, ia, ic, hr, ha, hc⟩ := k
  simp only [tCells, kCells] at *
  obtain ⟨c0, c1, c2, c3, c4, c5, c6, c7, c8, c9, c10, c11, c12⟩ := hA.cells13
  go_enter Tryz.func7, Tryz.ntmps7
  go_upto_region 1 with fail
  generalize w.alloc (.cells #[.slice ua ru.length uc, .string n.recv, .slice ma n.ms.length mc, .slice ba n.bys.length bc, .int .i64 n.wait, .int .i64 n.every, .int .i64 n.rep, .slice ma2 n.mute.length mc2, .bool n.on, .slice ka n.kids.length kc, .slice ra re.length rc, .slice ia ih.length ic, .slice ha hr.length hc] 31) = wx at *
  obtain ⟨g, hg⟩ : ∃ g, w.heap.size = g := ⟨_, rfl⟩
  rw [hg] at hA c0 c1 c2 c3 c4 c5 c6 c7 c8 c9 c10 c11 c12 ⊢
  have HA := Lib.hid hA
  clear hA hg
  obtain ⟨R1, hR1⟩ : ∃ R, decide (18 < ru.length) = R := ⟨_, rfl⟩
  obtain ⟨R2, hR2⟩ : ∃ R, decide (18 < re.length) = R := ⟨_, rfl⟩
  obtain ⟨R3, hR3⟩ : ∃ R, decide (10 < ih.length) = R := ⟨_, rfl⟩
  obtain ⟨R4, hR4⟩ : ∃ R, decide (10 < hr.length) = R := ⟨_, rfl⟩
  have e1 : decide ((18 : Int) < (ru.length : Int)) = R1 := by rw [← hR1]; exact decide_eq_decide.2 (by omega)
  have e2 : decide ((18 : Int) < (re.length : Int)) = R2 := by rw [← hR2]; exact decide_eq_decide.2 (by omega)
  have e3 : decide ((10 : Int) < (ih.length : Int)) = R3 := by rw [← hR3]; exact decide_eq_decide.2 (by omega)
  have e4 : decide ((10 : Int) < (hr.length : Int)) = R4 := by rw [← hR4]; exact decide_eq_decide.2 (by omega)
  have HRR := Lib.hid (And.intro hR1 (And.intro hR2 (And.intro hR3 hR4)))
  clear hR1 hR2 hR3 hR4
  go_wp2_with (go_at_call 26; refine (HM.out _ HB.out).mono ?_; rintro e w2 ⟨z, rfl, hz1, hz2, hz3, hb2⟩; have hbe := bthen HB.out hb2; obtain ⟨d0, d1, d2, d3, d4, d5, d6, d7, d8, d9, d10, d11, d12⟩ := (HA.out.call hb2).cells13)
  all_goals
    go_ret
    refine ⟨_, rfl, hbe, fun hb => ?_⟩
    obtain ⟨q1, q2, q3, q4⟩ := HRR.out
    first
      | cases hb
      | (simp_all
         omega)
end Go.Proofs.YtkgnapojkijbgaaGreatDoor
/- The contract of config's statements' own sign of life. -/
namespace Go.Proofs.YtkgnapojkijbgaaGreatDoor
open Go.RowKit Go.Lib Go.Sort

def rtA : RtAt := ⟨.mk ⟨#[111, 112, 115]⟩ [] [] 0 1 1 [] false [], none, 0, none, 0, none, 0, none, 0⟩
def kA (re : List ByteArray) (a : Option Addr) (c : Nat) : CfA := ⟨[], none, 0, rtA, re, a, c, [], none, 0, [], none, 0⟩
theorem kA_sort : sortS [⟨#[111, 112, 115]⟩, ⟨#[100, 101, 118]⟩] = [⟨#[100, 101, 118]⟩, ⟨#[111, 112, 115]⟩] := by
  have h : srtB (bsOf [⟨#[111, 112, 115]⟩, ⟨#[100, 101, 118]⟩]) = [[100, 101, 118], [111, 112, 115]] := by
    simp [srtB, bsOf, List.mergeSort, List.merge, List.MergeSort.Internal.splitInTwo]
    rfl
  unfold sortS
  rw [h]
  rfl
theorem once_nil : onceS [] = true := (onceB_iff []).2 .nil
theorem once_od : onceS [⟨#[111, 112, 115]⟩, ⟨#[100, 101, 118]⟩] = true := (onceB_iff _).2 (by decide)
theorem once_do : onceS [⟨#[100, 101, 118]⟩, ⟨#[111, 112, 115]⟩] = true := (onceB_iff _).2 (by decide)
theorem kA_right (re : List ByteArray) (a : Option Addr) (c : Nat) (h1 : re = [⟨#[111, 112, 115]⟩, ⟨#[100, 101, 118]⟩] ∨ re = [⟨#[100, 101, 118]⟩, ⟨#[111, 112, 115]⟩]) : cfgC (kA re a c) = true := by
  rcases h1 with rfl | rfl
  · simp only [cfgC, kA, List.map_nil, once_nil, once_od]
    kernel_rfl
  · simp only [cfgC, kA, List.map_nil, once_nil, once_do]
    kernel_rfl
theorem right_of (k2 : CfA) (h1 : k2.ru = []) (h2 : k2.rt = rtA) (h3 : k2.re = [⟨#[100, 101, 118]⟩, ⟨#[111, 112, 115]⟩]) (h4 : k2.ih = []) (h5 : k2.hr = []) : cfgC k2 = true := by
  have h := kA_right k2.re k2.ra k2.rc (.inr h3)
  obtain ⟨ru, ua, uc, rt, re, ra, rc, ih, ia, ic, hr, ha, hc⟩ := k2
  simp only at *
  subst h1 h2 h4 h5
  exact h
theorem nil_row {A : Type} {sz : Nat} {enc : A → List Value} {ok : World → A → Prop} {w : World} : HasRow sz enc ok w none 0 ([] : List A) := ⟨Nat.le_refl _, by unfold maxLen; omega, (fun x hx => by cases hx), .inl rfl⟩
theorem nil_mats {w : World} : HasMats w none 0 [] := by
  refine ⟨Nat.le_refl _, by unfold maxLen; omega, .inl rfl⟩
theorem nil_strs {w : World} : HasStrs w none 0 [] := ⟨Nat.le_refl _, by unfold maxLen; omega, (fun x hx => by cases hx), .inl rfl⟩
theorem kA_ok (w : World) (re : List ByteArray) (a : Option Addr) (c : Nat) (h : HasStrs w a c re) : (kA re a c).ok w := by
  refine ⟨nil_row, .flat _ ⟨⟨nil_mats, nil_strs, nil_strs, ?_, ?_, ?_⟩, Nat.le_refl _, Nat.zero_le _⟩ rfl, h, nil_row, nil_row⟩
  · show (3 : Nat) ≤ 1048576
    omega
  · exact ⟨rfl, rfl, rfl⟩
  · exact ⟨Nat.zero_le _, Nat.zero_le _, Nat.zero_le _⟩
theorem kA_norm (w : World) (a : Option Addr) (c : Nat) (h : HasStrs w a c [⟨#[111, 112, 115]⟩, ⟨#[100, 101, 118]⟩]) :
    Calls Tryz.prog 22 #[.agg (kCells (kA [⟨#[111, 112, 115]⟩, ⟨#[100, 101, 118]⟩] a c))] w (fun e w' => ∃ (k2 : CfA) (b off : Nat), e = .returned (.tuple #[.agg (kCells k2), .int .i64 0]) ∧ Below w.heap.size w w' ∧ k2.ok w' ∧ k2.re = [⟨#[100, 101, 118]⟩, ⟨#[111, 112, 115]⟩] ∧ k2.ra = some ⟨b, off, none⟩ ∧ w'.cell? ⟨b, off, none⟩ = some (.string ⟨#[100, 101, 118]⟩) ∧ cfgC k2 = true) := by
  refine (cfgNormal_any _ w w.heap.size (Nat.le_refl _) (fun W hW => (kA_ok w _ a c h).call hW)).mono fun e w' ⟨hb, hh⟩ => ?_
  rcases hh with ⟨_, k2, he, hk0, h1, h2, h3, ⟨ys, h4, h5⟩, h6⟩ | ⟨hbad, _⟩
  · have hk := hk0 w' (Keep.refl (Nat.le_refl _) hb)
    have e1 : k2.ru = [] := List.Perm.eq_nil h2.1
    have e2 : ys = [] := List.Perm.eq_nil h4.1
    have e3 : k2.hr = [] := List.Perm.eq_nil h6.1
    have e4 : k2.ih = [] := by rw [h5, e2]; rfl
    have e5 : k2.re = [⟨#[100, 101, 118]⟩, ⟨#[111, 112, 115]⟩] := h3.trans kA_sort
    rcases hk.2.2.1.2.2.2 with h7 | ⟨b, off, h7, _, h8⟩
    · rw [e5] at h7
      cases h7
    · refine ⟨k2, b, off, he, hb, hk, e5, h7, ?_, right_of k2 e1 h1 e5 e4 e3⟩
      have h9 := h8 0 (by rw [e5]; simp)
      simpa [e5] using h9
  · rw [kA_right _ _ _ (.inl rfl)] at hbad
    cases hbad
set_option maxHeartbeats 6400000 in
set_option maxRecDepth 100000 in
theorem alive10_any (w : World) : Calls Tryz.prog 8 #[] w (fun e w' => e = .returned (.bool true) ∧ Below w.heap.size w w') := by
  have hb := (Below.refl w.heap.size w).alloc (Nat.le_refl _) (.cells #[.string ⟨#[111, 112, 115]⟩, .string ⟨#[100, 101, 118]⟩] 9)
  have hB := Blk.new w 9 #[.string ⟨#[111, 112, 115]⟩, .string ⟨#[100, 101, 118]⟩]
  have hn := kA_norm (w.alloc (.cells #[.string ⟨#[111, 112, 115]⟩, .string ⟨#[100, 101, 118]⟩] 9)) (some ⟨w.heap.size, 0, none⟩) 2 ⟨Nat.le_refl _, by unfold maxLen; omega, fun s hs => by
      simp at hs
      rcases hs with rfl | rfl <;> decide, .inr ⟨_, 0, rfl, hB.lt, fun i hi => by
      have : i = 0 ∨ i = 1 := by simp at hi; omega
      rcases this with rfl | rfl
      · exact hB.cell 0
      · exact hB.cell 1⟩⟩
  rw [show kCells (kA [⟨#[111, 112, 115]⟩, ⟨#[100, 101, 118]⟩] (some ⟨w.heap.size, 0, none⟩) 2) = #[.slice none 0 0, .string ⟨#[111, 112, 115]⟩, .slice none 0 0, .slice none 0 0, .int .i64 0, .int .i64 1, .int .i64 1, .slice none 0 0, .bool false, .slice none 0 0, .slice (some ⟨w.heap.size, 0, none⟩) 2 2, .slice none 0 0, .slice none 0 0] from rfl] at hn
  have HN := Lib.hid hn
  have HB := Lib.hid hb
  clear hn hb hB
  go_enter Tryz.func8, Tryz.ntmps8
  go_upto_region 2 with (go_at_call 22; refine HN.out.mono ?_; rintro e w2 ⟨⟨ru, ua, uc, ⟨n, ma, mc, ba, bc, ma2, mc2, ka, kc⟩, re, ra, rc, ih, ia, ic, hr, ha, hc⟩, b, off, rfl, hb2, hk2, hre, hra, hrc, hc2⟩; simp only at hre hra; subst hre hra)
  have hb3 := (Below.refl w2.heap.size w2).alloc (Nat.le_refl _) (.cells #[.slice ua ru.length uc, .string n.recv, .slice ma n.ms.length mc, .slice ba n.bys.length bc, .int .i64 n.wait, .int .i64 n.every, .int .i64 n.rep, .slice ma2 n.mute.length mc2, .bool n.on, .slice ka n.kids.length kc, .slice (some ⟨b, off, none⟩) 2 rc, .slice ia ih.length ic, .slice ha hr.length hc] 31)
  have hA := Blk.new w2 31 #[.slice ua ru.length uc, .string n.recv, .slice ma n.ms.length mc, .slice ba n.bys.length bc, .int .i64 n.wait, .int .i64 n.every, .int .i64 n.rep, .slice ma2 n.mute.length mc2, .bool n.on, .slice ka n.kids.length kc, .slice (some ⟨b, off, none⟩) 2 rc, .slice ia ih.length ic, .slice ha hr.length hc]
  have hr1 := (hb3.cell (World.block_lt_of_cell? _ _ hrc)).trans hrc
  have hr2 := hk2.2.2.1.1
  have HR : Hid (∀ W, (Below w2.heap.size w2 W) → Calls Tryz.prog 17 #[.agg (kCells ⟨ru, ua, uc, ⟨n, ma, mc, ba, bc, ma2, mc2, ka, kc⟩, [⟨#[100, 101, 118]⟩, ⟨#[111, 112, 115]⟩], some ⟨b, off, none⟩, rc, ih, ia, ic, hr, ha, hc⟩)] W (BoolB true W)) := fun W hW => by
    have := cfgRight_any ⟨ru, ua, uc, ⟨n, ma, mc, ba, bc, ma2, mc2, ka, kc⟩, [⟨#[100, 101, 118]⟩, ⟨#[111, 112, 115]⟩], some ⟨b, off, none⟩, rc, ih, ia, ic, hr, ha, hc⟩ W (hk2.call hW)
    rwa [hc2] at this
  have HB2 := Lib.hid (bthen HB.out hb2)
  have HB3 := Lib.hid hb3
  have hkc : kCells ⟨ru, ua, uc, ⟨n, ma, mc, ba, bc, ma2, mc2, ka, kc⟩, [⟨#[100, 101, 118]⟩, ⟨#[111, 112, 115]⟩], some ⟨b, off, none⟩, rc, ih, ia, ic, hr, ha, hc⟩ = #[.slice ua ru.length uc, .string n.recv, .slice ma n.ms.length mc, .slice ba n.bys.length bc, .int .i64 n.wait, .int .i64 n.every, .int .i64 n.rep, .slice ma2 n.mute.length mc2, .bool n.on, .slice ka n.kids.length kc, .slice (some ⟨b, off, none⟩) 2 rc, .slice ia ih.length ic, .slice ha hr.length hc] := rfl
  simp only [hkc] at HR ⊢
  clear hkc hk2 hc2 hb3 hb2 HN HB
  obtain ⟨c0, c1, c2, c3, c4, c5, c6, c7, c8, c9, c10, c11, c12⟩ := hA.cells13
  generalize w2.alloc (.cells #[.slice ua ru.length uc, .string n.recv, .slice ma n.ms.length mc, .slice ba n.bys.length bc, .int .i64 n.wait, .int .i64 n.every, .int .i64 n.rep, .slice ma2 n.mute.length mc2, .bool n.on, .slice ka n.kids.length kc, .slice (some ⟨b, off, none⟩) 2 rc, .slice ia ih.length ic, .slice ha hr.length hc] 31) = wx at *
  clear hA
  go_wp2_with (go_at_call 17; refine (HR.out _ HB3.out).mono ?_; rintro e w3 ⟨rfl, hb4⟩)
  go_ret
  exact ⟨rfl, HB2.out.trans ((HB3.out.trans (hb4.mono HB3.out.size)).mono HB2.out.size)⟩
end Go.Proofs.YtkgnapojkijbgaaGreatDoor
