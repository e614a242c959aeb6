/- Rows of things of the call's own that are appended to. It speaks of no one program. -/
import Derived.Test.YtmhekhilgllciaaGreatMg4
import Derived.Test.YtmhekhilgllciaaGreatMg10
import Derived.Test.YtmhekhilgllciaaGreatCfgM
import Derived.Test.YtmhekhilgllciaaGreatBlkM
import Derived.Test.YtmhekhilgllciaaGreatBlkA
import Derived.Test.YtmhekhilgllciaaGreatSlcS
import Derived.Test.YtmhekhilgllciaaGreatStrs
import Derived.Deep.QuietTactic
import Derived.BigQuiet
import Derived.Test.YtmhekhilgllciaaGreatRulB
import Derived.Test.YtmhekhilgllciaaGreatMg11
import Derived.Test.YtmhekhilgllciaaGreatHrsM
import Derived.Test.YtmhekhilgllciaaGreatOwnS
import Derived.Test.YtmhekhilgllciaaGreatOwn
namespace Go.Proofs.YtmhekhilgllciaaGreat
open Go.RowKit

section
variable {A : Type} {enc : A → List Value} {k : Nat}
theorem OwnX.grown {T : TypeId} {w w1 : World} {base : Nat} {v : Value} {xs : List A} (h : OwnX T k enc w base v xs) {w0 : World} {B : Nat} (hb : Below B w0 w) (hB : B ≤ base) (hz : B ≤ w.heap.size) (hg : w.grownBy w1 v.ownBlock) : Below B w0 w1 :=
  hb.grown hg hz (fun k hk => Nat.le_trans hB (World.ownsRow.lt h k hk).1)
theorem OwnX.ne {T : TypeId} {w : World} {base : Nat} {v : Value} {xs : List A} (h : OwnX T k enc w base v xs) {g : Nat} (hg : g < base) : some g ≠ v.ownBlock := fun e => by have := (World.ownsRow.lt h _ e.symm).1; omega
/-- a store into a block ahead -/
theorem OwnX.setAhead {T : TypeId} {w : World} {base : Nat} {v : Value} {xs : List A} (h : OwnX T k enc w base v xs) {g : Nat} (hg : g < base) (i : Nat) (u : Value) : OwnX T k enc (w.setCell ⟨g, i, none⟩ u) base v xs :=
  World.ownsRow.kept h (grown_setCell w g i u) (.inr fun e => h.ne hg e.symm)
theorem OwnX.made (T : TypeId) (w : World) : OwnX T k enc (w.alloc (.cells #[] T)) w.heap.size (.slice (some ⟨w.heap.size, 0, none⟩) 0 0) [] := by
  refine ⟨by simp [rowV], .inr ⟨w.heap.size, 0, #[], rfl, Nat.le_refl _, ?_, Nat.le_refl _, by unfold maxLen; omega, by simp, by simp [rowV]⟩⟩
  show (w.heap.push _)[w.heap.size]? = _; simp
theorem OwnX.form {T : TypeId} {w : World} {base : Nat} {v : Value} {xs : List A} (h : OwnX T k enc w base v xs) : ∃ a c, v = .slice a xs.length c ∧ xs.length ≤ c ∧ c ≤ maxLen := by
  rcases h.2 with ⟨rfl, h0⟩ | ⟨g, cap, cur, rfl, hb, hg, hn, hm, hcs, ht⟩
  · exact ⟨none, 0, by rw [h0], by omega, by unfold maxLen; omega⟩
  · exact ⟨_, cap, rfl, hn, hm⟩
/-- a row of things in memory, as what an append is handed -/
theorem src_rowX {P : Program} {t e : Nat} {ok : World → A → Prop} {w : World} {a : Option Addr} {c : Nat} {xs : List A} (hk : P.underlying t = some (.slice e)) (hl : ∀ x, (enc x).length = k) (k0 : 0 < k) (h1 : ∀ x, ∀ u ∈ enc x, u.oneCell' = true)
    (h : HasRow k enc ok w a c xs) : Src P k t (.slice a xs.length c) xs.length (rowV enc xs) w := by
  have hone : ∀ u ∈ rowV enc xs, u.oneCell' = true := fun u hu => by
    obtain ⟨x, _, hx⟩ := List.mem_flatMap.1 hu
    exact h1 x u hx
  obtain ⟨_, _, _, h4⟩ := h
  rcases h4 with rfl | ⟨b, off, rfl, hb, hc⟩
  · cases a with
    | none => exact Src.ofNil w hk c
    | some a => exact Src.ofSlice w hk a 0 c [] (by simp) (fun j u hu => by simp at hu) (fun u hu => by cases hu)
  · refine Src.ofSlice w hk ⟨b, off, none⟩ xs.length c (rowV enc xs) (by rw [rowV_len hl]) (fun j u hu => ?_) hone
    have e0 : (⟨b, off, none⟩ : Addr).add j = ⟨b, off + j, none⟩ := by unfold Addr.add; split <;> simp_all
    rw [e0]
    exact HasRow.flat (_ok := ok) (_c := c) hl k0 hc j u hu
/-- a thing that has just been laid in a block of its own, as what an append is handed -/
theorem src_oneX {P : Program} {t e : Nat} {w : World} {g : Nat} {x : A} {cs : Array Value} (hk : P.underlying t = some (.slice e)) (hl : ∀ x, (enc x).length = k) (h1 : ∀ x, ∀ u ∈ enc x, u.oneCell' = true)
    (h : Blk w g e cs) (hc : cs.toList = enc x) : Src P k t (.slice (some ⟨g, 0, none⟩) 1 1) 1 (rowV enc [x]) w := by
  have e1 : rowV enc [x] = enc x := by simp [rowV]
  rw [e1]
  refine Src.ofSlice w hk ⟨g, 0, none⟩ 1 1 (enc x) (by rw [hl]; omega) (fun j u hu => ?_) (h1 x)
  have e0 : (⟨g, 0, none⟩ : Addr).add j = ⟨g, j, none⟩ := by unfold Addr.add; split <;> simp_all
  rw [e0, h.cell j, ← hu, ← hc]
  simp
theorem wpList_appX {P : Program} (W : World) {ops : Array Oper} {rest : List Oper} {o : Oper} {a : Act} {Q : Exit → Act → World → Prop} (hgd : o.guard = none) (s x : Operand) (t : TypeId)
    (ho : o.op = .call { callee := .builtin .append, args := #[s, x], argTypes := #[t, t] })
    (base : Nat) (e : TypeId) (i : TypeInfo) (z : Value) (bytes : Nat) (ht : P.underlying t = some (.slice e)) (hi : P.info? e = some i) (hz : i.zero = some z) (hsize : i.size = k) (hby : i.bytes = bytes) (hzs : z.cells.size = k) (hb16 : bytes ≤ 1000)
    (v : Value) (xs : List A) (hs : a.eval s = v) (hown : OwnX e k enc W base v xs) (xv : Value) (m : Nat) (ms : List A) (hm : m = ms.length) (hx : a.eval x = xv) (hsrc : Src P k t xv m (rowV enc ms) W)
    (h63 : xs.length + ms.length ≤ 1000000) (hbase : base ≤ W.heap.size)
    (h : ∀ (na : Option Addr) (nn nc : Nat) (w' : World), nn = (xs ++ ms).length → OwnX e k enc w' base (.slice na nn nc) (xs ++ ms) → W.grownBy w' v.ownBlock → wpList P ops Q rest (a.put o.dst (.slice na nn nc)) w') :
    wpList P ops Q (o :: rest) a W := by
  subst hsize hm
  refine wpList_plain hgd fun K hK => ?_
  have hsz : (xs.length + ms.length) * bytes ≤ 140737488355328 := Nat.le_trans (Nat.mul_le_mul h63 hb16) (by decide)
  obtain ⟨v', w', hr, h2, h3⟩ := run_append_src (P := P) W base t t o.type e i z bytes ht hi hz hby hzs v xs.length (rowV enc xs) hown xv ms.length (rowV enc ms) hsrc (by unfold maxLen; omega) hsz hbase
  have h5 : OwnX e i.size enc w' base v' (xs ++ ms) := by
    unfold OwnX
    rw [rowV_app, List.length_append]
    exact h2
  obtain ⟨na, nc, rfl, _, _⟩ := h5.form
  unfold Oper.wp execOp
  simp only [ho, resolve, invoke, builtin, Sem.run_bind, Sem.run_pure, Result.andThen_ok, List.map_toArray, List.map_cons, List.map_nil, hs, hx, hr]
  exact hK _ _ (h na _ nc w' rfl h5 h3)
end
/-- a whole number in memory -/
def encN (n : Nat) : List Value := [.int .i64 (n : Int)]
theorem encN_len (n : Nat) : (encN n).length = 1 := rfl
theorem encN_one (n : Nat) : ∀ u ∈ encN n, u.oneCell' = true := by
  intro u hu
  simp only [encN, List.mem_cons, List.not_mem_nil, or_false] at hu
  rw [hu]
  rfl
theorem hasRow_takeX {A : Type} {sz : Nat} {enc : A → List Value} {ok : World → A → Prop} {w : World} {a : Option Addr} {c : Nat} {xs : List A} (h : HasRow sz enc ok w a c xs) (k : Nat) (hk : k ≤ xs.length) : HasRow sz enc ok w a c (xs.take k) := by
  obtain ⟨h1, h2, h3, h4⟩ := h
  refine ⟨by rw [List.length_take]; omega, h2, fun s hs => h3 s (List.mem_of_mem_take hs), ?_⟩
  rcases h4 with rfl | ⟨b, off, rfl, hb, hc⟩
  · exact .inl (by simp)
  · refine .inr ⟨b, off, rfl, hb, fun i hi j u hu => ?_⟩
    have hi' : i < xs.length := by rw [List.length_take] at hi; omega
    exact hc i hi' j u (by simpa using hu)
theorem hasRow_dropX {A : Type} {sz : Nat} {enc : A → List Value} {ok : World → A → Prop} {w : World} {b off c c' : Nat} {xs : List A} (h : HasRow sz enc ok w (some ⟨b, off, none⟩) c xs) (k : Nat) (hk : k ≤ xs.length) (hc : c' = c - k) :
    HasRow sz enc ok w (some ⟨b, off + k * sz, none⟩) c' (xs.drop k) := by
  obtain ⟨h1, h2, h3, h4⟩ := h
  refine ⟨by rw [List.length_drop]; omega, by omega, fun s hs => h3 s (List.mem_of_mem_drop hs), ?_⟩
  rcases h4 with rfl | ⟨b2, o2, e, hb, hcc⟩
  · exact .inl (by simp)
  · cases e
    refine .inr ⟨b, off + k * sz, rfl, hb, fun i hi j u hu => ?_⟩
    have hi' : k + i < xs.length := by rw [List.length_drop] at hi; omega
    have := hcc (k + i) hi' j u (by simpa using hu)
    rwa [Nat.add_mul, ← Nat.add_assoc] at this
end Go.Proofs.YtmhekhilgllciaaGreat
/- The mathematics of the document's own Places: the places of texts, in the order of the texts. It speaks of no program. -/
namespace Go.Proofs.YtmhekhilgllciaaGreat

/-- the text at a place -/
def txA (ss : List ByteArray) (i : Nat) : Bs := (ss.getD i ⟨#[]⟩).data.toList
/-- a place put into places, in the order of the texts -/
def insP (ss : List ByteArray) (out : List Nat) (n : Nat) : List Nat := out.takeWhile (fun j => lessB (txA ss j) (txA ss n)) ++ n :: out.dropWhile (fun j => lessB (txA ss j) (txA ss n))
/-- the places of the first n texts -/
def plcN (ss : List ByteArray) : Nat → List Nat
  | 0 => []
  | n + 1 => if memB (ss.getD n ⟨#[]⟩) (ss.take n) = true then plcN ss n else insP ss (plcN ss n) n
theorem insP_perm (ss : List ByteArray) (out : List Nat) (n : Nat) : (insP ss out n).Perm (n :: out) := by
  unfold insP
  refine List.perm_middle.trans ?_
  rw [List.takeWhile_append_dropWhile]
theorem plcN_lt (ss : List ByteArray) : ∀ n j, j ∈ plcN ss n → j < n
  | 0, j, h => by cases h
  | n + 1, j, h => by
    simp only [plcN] at h
    split at h
    · have := plcN_lt ss n j h; omega
    · rcases List.mem_cons.1 ((insP_perm ss _ n).mem_iff.1 h) with rfl | h
      · omega
      · have := plcN_lt ss n j h; omega
theorem plcN_len (ss : List ByteArray) : ∀ n, (plcN ss n).length ≤ n
  | 0 => Nat.le_refl _
  | n + 1 => by
    simp only [plcN]
    split
    · have := plcN_len ss n; omega
    · have := plcN_len ss n
      rw [(insP_perm ss _ n).length_eq, List.length_cons]; omega
theorem txA_lt {ss : List ByteArray} {i : Nat} (h : i < ss.length) : txA ss i = ss[i].data.toList := by
  simp [txA, h]
theorem bytes_of {a b : ByteArray} (h : a.data.toList = b.data.toList) : a = b := ByteArray.ext (Array.ext' h)
theorem mem_take_iff {ss : List ByteArray} {n : Nat} (hn : n < ss.length) : memB (ss.getD n ⟨#[]⟩) (ss.take n) = true ↔ ∃ i, i < n ∧ txA ss i = txA ss n := by
  rw [memB_iff]
  constructor
  · intro h
    obtain ⟨i, hi, e⟩ := List.getElem_of_mem h
    have hi' : i < n := by rw [List.length_take] at hi; omega
    refine ⟨i, hi', ?_⟩
    rw [txA_lt (by omega : i < ss.length), txA]
    rw [← e]
    simp
  · rintro ⟨i, hi, e⟩
    have hil : i < ss.length := by omega
    rw [txA_lt hil] at e
    have e2 : ss[i] = ss.getD n ⟨#[]⟩ := bytes_of e
    rw [← e2]
    exact List.mem_iff_getElem.2 ⟨i, by rw [List.length_take]; omega, by simp⟩
theorem plcN_set (ss : List ByteArray) : ∀ n, n ≤ ss.length → ∀ t, (∃ j, j ∈ plcN ss n ∧ txA ss j = t) ↔ ∃ i, i < n ∧ txA ss i = t
  | 0, _, t => by simp [plcN]
  | n + 1, hn, t => by
    have ih := plcN_set ss n (by omega) t
    simp only [plcN]
    split
    · rename_i hm
      obtain ⟨i, hi, e⟩ := (mem_take_iff (by omega)).1 hm
      rw [ih]
      constructor
      · rintro ⟨j, hj, e2⟩
        exact ⟨j, by omega, e2⟩
      · rintro ⟨j, hj, e2⟩
        rcases Nat.lt_or_ge j n with h | h
        · exact ⟨j, h, e2⟩
        · obtain rfl : j = n := by omega
          exact ⟨i, hi, e.trans e2⟩
    · constructor
      · rintro ⟨j, hj, e2⟩
        rcases List.mem_cons.1 ((insP_perm ss _ n).mem_iff.1 hj) with rfl | hj
        · exact ⟨j, by omega, e2⟩
        · obtain ⟨i, hi, e3⟩ := ih.1 ⟨j, hj, e2⟩
          exact ⟨i, by omega, e3⟩
      · rintro ⟨j, hj, e2⟩
        rcases Nat.lt_or_ge j n with h | h
        · obtain ⟨i, hi, e3⟩ := ih.2 ⟨j, h, e2⟩
          exact ⟨i, (insP_perm ss _ n).mem_iff.2 (List.mem_cons_of_mem _ hi), e3⟩
        · obtain rfl : j = n := by omega
          exact ⟨j, (insP_perm ss _ j).mem_iff.2 List.mem_cons_self, e2⟩
/-- a thing put into things in their order -/
theorem ins_sorted {ss : List ByteArray} {n : Nat} : ∀ {out : List Nat}, out.Pairwise (fun i j => lessB (txA ss i) (txA ss j) = true) → (∀ j ∈ out, txA ss j ≠ txA ss n) → (insP ss out n).Pairwise (fun i j => lessB (txA ss i) (txA ss j) = true)
  | [], _, _ => by simp [insP]
  | x :: out, hp, hne => by
    rw [List.pairwise_cons] at hp
    have ih := ins_sorted hp.2 (fun j hj => hne j (List.mem_cons_of_mem _ hj))
    cases hx : lessB (txA ss x) (txA ss n) with
    | true =>
      have e : insP ss (x :: out) n = x :: insP ss out n := by simp [insP, hx]
      rw [e, List.pairwise_cons]
      refine ⟨fun j hj => ?_, ih⟩
      rcases List.mem_cons.1 ((insP_perm ss out n).mem_iff.1 hj) with rfl | hj
      · exact hx
      · exact hp.1 j hj
    | false =>
      have e : insP ss (x :: out) n = n :: x :: out := by simp [insP, hx]
      have hnx : lessB (txA ss n) (txA ss x) = true := by
        cases h2 : lessB (txA ss n) (txA ss x) with
        | true => rfl
        | false => exact absurd (lessB_tri _ _ hx h2) (hne x List.mem_cons_self)
      rw [e, List.pairwise_cons]
      refine ⟨fun j hj => ?_, List.pairwise_cons.2 hp⟩
      rcases List.mem_cons.1 hj with rfl | hj
      · exact hnx
      · exact lessB_trans _ _ _ hnx (hp.1 j hj)
theorem plcN_sorted (ss : List ByteArray) : ∀ n, n ≤ ss.length → (plcN ss n).Pairwise (fun i j => lessB (txA ss i) (txA ss j) = true)
  | 0, _ => by simp [plcN]
  | n + 1, hn => by
    have ih := plcN_sorted ss n (by omega)
    simp only [plcN]
    split
    · exact ih
    · rename_i hm
      refine ins_sorted ih fun j hj e => hm ((mem_take_iff (by omega)).2 ?_)
      exact (plcN_set ss n (by omega) _).1 ⟨j, hj, e⟩
/-- texts of which none is there twice: all places -/
theorem plcN_perm (ss : List ByteArray) (hd : ss.Nodup) : ∀ n, n ≤ ss.length → (plcN ss n).Perm (List.range n)
  | 0, _ => by simp [plcN]
  | n + 1, hn => by
    have ih := plcN_perm ss hd n (by omega)
    have hm : ¬ memB (ss.getD n ⟨#[]⟩) (ss.take n) = true := by
      rw [mem_take_iff (by omega)]
      rintro ⟨i, hi, e⟩
      rw [txA_lt (by omega), txA_lt (by omega)] at e
      have := (List.nodup_iff_pairwise_ne.1 hd)
      exact List.pairwise_iff_getElem.1 this i n (by omega) (by omega) hi (bytes_of e)
    simp only [plcN]
    rw [if_neg hm, List.range_succ]
    exact (insP_perm ss _ n).trans ((List.Perm.cons n ih).trans (List.perm_append_singleton n _).symm)
/-- how far a walk over places goes ahead -/
theorem take_lead {p : Nat → Bool} {out : List Nat} {k : Nat} (hk : k ≤ out.length) (h1 : ∀ i (h : i < k), p (out[i]'(by omega)) = true) (h2 : ∀ h : k < out.length, p out[k] = false) : out.takeWhile p = out.take k ∧ out.dropWhile p = out.drop k := by
  induction out generalizing k with
  | nil => simp
  | cons x out ih =>
    cases k with
    | zero =>
      have := h2 (by simp)
      simp only [List.getElem_cons_zero] at this
      simp [this]
    | succ k =>
      have e := h1 0 (by omega)
      simp only [List.getElem_cons_zero] at e
      obtain ⟨a, b⟩ := ih (k := k) (by simpa using hk) (fun i hi => by have := h1 (i + 1) (by omega); simpa using this) (fun h => by have := h2 (by simpa using h); simpa using this)
      simp [e, a, b]
/-- the things at places -/
def pick {A : Type} (d : A) (xs : List A) (ps : List Nat) : List A := ps.map fun i => xs.getD i d
theorem pick_snoc {A : Type} (d : A) (xs : List A) (ps : List Nat) (i : Nat) (h : i < xs.length) : pick d xs (ps ++ [i]) = pick d xs ps ++ [xs[i]] := by
  simp [pick, h]
theorem pick_perm {A : Type} (d : A) (xs : List A) (ps : List Nat) (h : ps.Perm (List.range xs.length)) : (pick d xs ps).Perm xs := by
  unfold pick
  refine (h.map _).trans ?_
  have : (List.range xs.length).map (fun i => xs.getD i d) = xs := by
    apply List.ext_getElem
    · simp
    · intro i h1 h2
      simp [h2]
  rw [this]
theorem pick_mem {A : Type} (d : A) (xs : List A) (ps : List Nat) (h : ∀ i ∈ ps, i < xs.length) : ∀ x ∈ pick d xs ps, x ∈ xs := by
  intro x hx
  obtain ⟨i, hi, rfl⟩ := List.mem_map.1 hx
  have := h i hi
  simp [this]
end Go.Proofs.YtmhekhilgllciaaGreat
/- The contract of the document's own Word of layer 6. -/
namespace Go.Proofs.YtmhekhilgllciaaGreat
open Go.RowKit

set_option maxHeartbeats 3200000 in
theorem rbWord_any (s : ByteArray) (w : World) (hs : s.size ≤ maxLen) : Calls Tryz.prog 13 #[.string s] w (BoolS (bwC s.data.toList) w) := by
  unfold maxLen at hs
  have hl := lenB s
  by_cases hall : s.data.toList.all bwB = true
  · have hR : bwC s.data.toList = (decide (1 ≤ s.size) && decide (s.size ≤ 64)) := by unfold bwC; rw [hl, hall]; simp
    have HA := Lib.hid (bytesAll hall)
    rw [hR]
    clear hR hl hall
    by_cases h1 : 1 ≤ s.size <;> by_cases h2 : s.size ≤ 64 <;> (try omega)
    all_goals
      go_enter Tryz.func13, Tryz.ntmps13
      go_wp2
      go_loop [3, 4] (fun i _ => ∃ k : Nat, k ≤ s.size ∧ i = .int .i64 k) (fun i _ => s.size - (intOf i).toNat)
      case atStart => exact ⟨0, Nat.zero_le _, rfl⟩
      case round =>
        obtain ⟨k, hk, rfl⟩ := hrel
        by_cases hkl : k < s.size
        · have hw := HA.out k hkl
          obtain ⟨n, hn⟩ : ∃ n, s[k].toNat = n := ⟨_, rfl⟩
          simp only [bwB, decide_eq_true_eq] at hw
          rw [hn] at hw
          by_cases a1 : 97 ≤ n <;> by_cases a2 : n ≤ 122 <;> by_cases a5 : 48 ≤ n <;> by_cases a6 : n ≤ 57 <;> (try omega)
          all_goals first
            | (clear hw
               go_wp2
               go_round
               case rel => exact ⟨k + 1, by omega, by go_num⟩
               case measure => simp [intOf]; omega
               done)
            | (have h : n = 95 := by omega
               have f1 : ((n : Int) != 95) = false := by rw [h]; rfl
               clear h hw
               go_wp2
               go_round
               case rel => exact ⟨k + 1, by omega, by go_num⟩
               case measure => simp [intOf]; omega)
        · go_wp2
          go_ret
          exact ⟨by first | (simp_all; done) | (simp_all; omega), rfl⟩
  · obtain ⟨j, hj, hbad, hok⟩ := bytesNot s hall
    have hR : bwC s.data.toList = false := by unfold bwC; simp only [Bool.not_eq_true] at hall; rw [hall]; simp
    have HA := Lib.hid hok
    have HB := Lib.hid hbad
    rw [hR]
    clear hR hl hall hok hbad
    go_enter Tryz.func13, Tryz.ntmps13
    go_wp2
    go_loop [3, 4] (fun i _ => ∃ k : Nat, k ≤ j ∧ i = .int .i64 k) (fun i _ => s.size - (intOf i).toNat)
    case atStart => exact ⟨0, Nat.zero_le _, rfl⟩
    case round =>
      obtain ⟨k, hk, rfl⟩ := hrel
      by_cases hkl : k = j
      · subst hkl
        have hb := HB.out
        obtain ⟨n, hn⟩ : ∃ n, s[k].toNat = n := ⟨_, rfl⟩
        simp only [bwB, decide_eq_false_iff_not] at hb
        rw [hn] at hb
        have f1 : ((n : Int) != 95) = true := by rw [bne_iff_ne]; omega
        by_cases a1 : 97 ≤ n <;> by_cases a2 : n ≤ 122 <;> by_cases a5 : 48 ≤ n <;> by_cases a6 : n ≤ 57 <;> (try omega)
        all_goals
          clear hb
          go_wp2
          go_ret
          exact ⟨rfl, rfl⟩
      · have hw := HA.out k (by omega)
        have hkz : k < s.size := by omega
        obtain ⟨n, hn⟩ : ∃ n, (s[k]'hkz).toNat = n := ⟨_, rfl⟩
        simp only [bwB, decide_eq_true_eq] at hw
        rw [hn] at hw
        by_cases a1 : 97 ≤ n <;> by_cases a2 : n ≤ 122 <;> by_cases a5 : 48 ≤ n <;> by_cases a6 : n ≤ 57 <;> (try omega)
        all_goals first
          | (clear hw
             go_wp2
             go_round
             case rel => exact ⟨k + 1, by omega, by go_num⟩
             case measure => simp [intOf]; omega
             done)
          | (have h : n = 95 := by omega
             have f1 : ((n : Int) != 95) = false := by rw [h]; rfl
             clear h hw
             go_wp2
             go_round
             case rel => exact ⟨k + 1, by omega, by go_num⟩
             case measure => simp [intOf]; omega)

end Go.Proofs.YtmhekhilgllciaaGreat
/- The contracts of the document's own In and Right of layer 8. -/
namespace Go.Proofs.YtmhekhilgllciaaGreat
open Go.RowKit

theorem rIn_any (n : Int) (w : World) : Calls Tryz.prog 115 #[.int .i64 n] w (BoolS (inC n 0 1099511627776) w) := by
  unfold inC
  by_cases h : 0 ≤ n
  · have h1 : decide (0 ≤ n) = true := decide_eq_true h
    go_enter Tryz.func115, Tryz.ntmps115
    go_wp2
    go_ret
    exact ⟨by rw [h1, Bool.true_and]; rfl, rfl⟩
  · have h1 : decide (0 ≤ n) = false := decide_eq_false h
    go_enter Tryz.func115, Tryz.ntmps115
    go_wp2
    go_ret
    exact ⟨by simp, rfl⟩

/-- what is asked of a rule, test by test -/
theorem rulC_not (r : Rul) (h : hasN r.labels aName = true ∨ bwC r.name.data.toList = false ∨ bwC r.metric.data.toList = false ∨ r.how < 1 ∨ 5 < r.how ∨ r.tries < 1 ∨ 10 < r.tries ∨ r.limit < -1099511627776 ∨ 1099511627776 < r.limit ∨ inC r.fr 0 1099511627776 = false ∨ inC r.keep 0 1099511627776 = false ∨ ¬ r.labels.length ≤ 4) : rulC r = false := by
  rw [← Bool.not_eq_true, rulC_iff]
  rintro ⟨a, b, c, d, e, f, g, l⟩
  obtain ⟨l1, l2, l3⟩ := (rlabsC_iff _).1 l
  rcases h with h | h | h | h | h | h | h | h | h | h | h | h
  · rw [l3] at h; cases h
  · rw [a] at h; cases h
  · rw [b] at h; cases h
  · omega
  · omega
  · omega
  · omega
  · omega
  · omega
  · simp [inC] at h; omega
  · simp [inC] at h; omega
  · exact h l1
theorem rulC_yes (r : Rul) (h0 : hasN r.labels aName = false) (h1 : bwC r.name.data.toList = true) (h2 : bwC r.metric.data.toList = true) (h3 : ¬ r.how < 1) (h4 : ¬ 5 < r.how) (h5 : ¬ r.tries < 1) (h6 : ¬ 10 < r.tries)
    (h7 : ¬ r.limit < -1099511627776) (h8 : ¬ 1099511627776 < r.limit) (h9 : inC r.fr 0 1099511627776 = true) (h10 : inC r.keep 0 1099511627776 = true) (h11 : r.labels.length ≤ 4) : rulC r = rightC r.labels := by
  rw [Bool.eq_iff_iff, rulC_iff, rlabsC_iff]
  simp only [inC, Bool.and_eq_true, decide_eq_true_eq] at h9 h10
  exact ⟨fun h => h.2.2.2.2.2.2.2.2.1, fun h => ⟨h1, h2, ⟨by omega, by omega⟩, ⟨by omega, by omega⟩, h9, h10, ⟨by omega, by omega⟩, h11, h, h0⟩⟩

set_option maxHeartbeats 6400000 in
set_option maxRecDepth 100000 in
theorem rrRight_any (r : Rul) (a : Option Addr) (c : Nat) (w : World) (h : RulAt w r a c) : Calls Tryz.prog 73 #[.agg (rCells r a c)] w (BoolB (rulC r) w) := by
  obtain ⟨n, m, k, l, f, p, t, ls⟩ := r
  obtain ⟨hl, hn, hm⟩ := h
  have HNot := Lib.hid (rulC_not ⟨n, m, k, l, f, p, t, ls⟩)
  have HYes := Lib.hid (rulC_yes ⟨n, m, k, l, f, p, t, ls⟩)
  obtain ⟨R, hR⟩ : ∃ R, rulC ⟨n, m, k, l, f, p, t, ls⟩ = R := ⟨_, rfl⟩
  rw [hR] at HNot HYes ⊢
  clear hR
  simp only [rCells] at *
  have HN := Lib.hid (fun W => rbWord_any n W hn)
  have HM := Lib.hid (fun W => rbWord_any m W hm)
  have H5 := Lib.hid (fun W => rIn_any f W)
  have H6 := Lib.hid (fun W => rIn_any p W)
  have H8 := Lib.hid (fun W (h : HasLabs W a c ls) => rRight_any a c ls W h)
  have hb := (Below.refl w.heap.size w).alloc (Nat.le_refl _) (.cells #[.string n, .string m, .int .i64 k, .int .i64 l, .int .i64 f, .int .i64 p, .int .i64 t, .slice a ls.length c] 45)
  have hB := Blk.new w 45 #[.string n, .string m, .int .i64 k, .int .i64 l, .int .i64 f, .int .i64 p, .int .i64 t, .slice a ls.length c]
  have hl' := hl.call hb
  have hlc := hl.1
  have hcm := hl.2.1
  have hpl := hl'.2.2.2
  unfold maxLen at hcm
  obtain ⟨J, hJ, hok, hend⟩ := all_endB (fun l : Lab => !decide (l.1 = aName)) ls
  have HOK := Lib.hid hok
  have HE : Hid (J = ls.length ∧ hasN ls aName = false ∨ ∃ hj : J < ls.length, decide (ls[J].1 = aName) = true ∧ hasN ls aName = true) := Lib.hid (by
    rcases hend with ⟨e, hh⟩ | ⟨hj, hq, _⟩
    · refine .inl ⟨e, ?_⟩
      rw [← Bool.not_eq_true, hasN_iff]
      rintro ⟨m, hm, e2⟩
      have := List.all_eq_true.1 hh m hm
      rw [decide_eq_true e2] at this
      cases this
    · have hq' : decide (ls[J].1 = aName) = true := by simpa using hq
      exact .inr ⟨hj, hq', (hasN_iff _ _).2 ⟨_, List.getElem_mem hj, of_decide_eq_true hq'⟩⟩)
  clear hl hok hend
  have HL := Lib.hid hl'
  have HPL := Lib.hid hpl
  have HB := Lib.hid hb
  clear hl' hpl hb
  go_enter Tryz.func73, Tryz.ntmps73
  go_upto_region 1 with fail
  have hz : (w.alloc (.cells #[.string n, .string m, .int .i64 k, .int .i64 l, .int .i64 f, .int .i64 p, .int .i64 t, .slice a ls.length c] 45)).heap.size = w.heap.size + 1 := by simp
  generalize w.alloc (.cells #[.string n, .string m, .int .i64 k, .int .i64 l, .int .i64 f, .int .i64 p, .int .i64 t, .slice a ls.length c] 45) = wx at *
  obtain ⟨c0, c1, c2, c3, c4, c5, c6, c7⟩ := hB.cells8
  go_wp2_with fail
  go_loopg [8] ls.length (fun gg i wr => ∃ k : Nat, k + gg = ls.length ∧ k ≤ J ∧ i = .int .i64 k ∧ Below wx.heap.size wx wr)
  case atStart => exact ⟨0, by omega, Nat.zero_le _, rfl, Below.refl _ _⟩
  case round =>
    obtain ⟨i, hig, hiJ, rfl, hbr⟩ := hrel
    have hBr := hB.call hbr
    obtain ⟨c0, c1, c2, c3, c4, c5, c6, c7⟩ := hBr.cells8
    cases gk with
    | zero =>
      obtain rfl : i = ls.length := by omega
      have hno : hasN ls aName = false := by
        rcases HE.out with ⟨_, h⟩ | ⟨h, _⟩
        · exact h
        · omega
      have HL2 := Lib.hid (HL.out.call hbr)
      have HBB := Lib.hid (bthen HB.out hbr)
      clear hbr hB hBr
      have HNO := Lib.hid hno
      clear hno
      cases q1 : bwC n.data.toList with
      | false =>
        obtain rfl : R = false := HNot.out (.inr (.inl q1))
        rw [q1] at HN
        go_wp2_with (go_at_call 13; (with_reducible refine (HN.out _).mono ?_); rintro e w2 ⟨rfl, rfl⟩)
        go_ret
        exact ⟨rfl, HBB.out⟩
      | true =>
      have Q1 := Lib.hid q1
      rw [q1] at HN
      clear q1
      cases q2 : bwC m.data.toList with
      | false =>
        obtain rfl : R = false := HNot.out (.inr (.inr (.inl q2)))
        rw [q2] at HM
        clear q2
        go_wp2_with (first | (go_at_call 13; (with_reducible refine (HN.out _).mono ?_); rintro e w2 ⟨rfl, rfl⟩) | (go_at_call 13; (with_reducible refine (HM.out _).mono ?_); rintro e w2 ⟨rfl, rfl⟩))
        go_ret
        exact ⟨rfl, HBB.out⟩
      | true =>
      have Q2 := Lib.hid q2
      rw [q2] at HM
      clear q2
      by_cases q3 : k < 1
      · obtain rfl : R = false := HNot.out (.inr (.inr (.inr (.inl q3))))
        have d3 : decide (k < 1) = true := decide_eq_true q3
        clear q3
        go_wp2_with (first | (go_at_call 13; (with_reducible refine (HN.out _).mono ?_); rintro e w2 ⟨rfl, rfl⟩) | (go_at_call 13; (with_reducible refine (HM.out _).mono ?_); rintro e w2 ⟨rfl, rfl⟩))
        go_ret
        exact ⟨rfl, HBB.out⟩
      have d3 : decide (k < 1) = false := decide_eq_false q3
      have Q3 := Lib.hid q3
      clear q3
      by_cases q4 : 5 < k
      · obtain rfl : R = false := HNot.out (.inr (.inr (.inr (.inr (.inl q4)))))
        have d4 : decide (5 < k) = true := decide_eq_true q4
        clear q4
        go_wp2_with (first | (go_at_call 13; (with_reducible refine (HN.out _).mono ?_); rintro e w2 ⟨rfl, rfl⟩) | (go_at_call 13; (with_reducible refine (HM.out _).mono ?_); rintro e w2 ⟨rfl, rfl⟩))
        go_ret
        exact ⟨rfl, HBB.out⟩
      have d4 : decide (5 < k) = false := decide_eq_false q4
      have Q4 := Lib.hid q4
      clear q4
      by_cases q5 : t < 1
      · obtain rfl : R = false := HNot.out (.inr (.inr (.inr (.inr (.inr (.inl q5))))))
        have d5 : decide (t < 1) = true := decide_eq_true q5
        clear q5
        go_wp2_with (first | (go_at_call 13; (with_reducible refine (HN.out _).mono ?_); rintro e w2 ⟨rfl, rfl⟩) | (go_at_call 13; (with_reducible refine (HM.out _).mono ?_); rintro e w2 ⟨rfl, rfl⟩))
        go_ret
        exact ⟨rfl, HBB.out⟩
      have d5 : decide (t < 1) = false := decide_eq_false q5
      have Q5 := Lib.hid q5
      clear q5
      by_cases q6 : 10 < t
      · obtain rfl : R = false := HNot.out (.inr (.inr (.inr (.inr (.inr (.inr (.inl q6)))))))
        have d6 : decide (10 < t) = true := decide_eq_true q6
        clear q6
        go_wp2_with (first | (go_at_call 13; (with_reducible refine (HN.out _).mono ?_); rintro e w2 ⟨rfl, rfl⟩) | (go_at_call 13; (with_reducible refine (HM.out _).mono ?_); rintro e w2 ⟨rfl, rfl⟩))
        go_ret
        exact ⟨rfl, HBB.out⟩
      have d6 : decide (10 < t) = false := decide_eq_false q6
      have Q6 := Lib.hid q6
      clear q6
      by_cases q7 : l < -1099511627776
      · obtain rfl : R = false := HNot.out (.inr (.inr (.inr (.inr (.inr (.inr (.inr (.inl q7))))))))
        have d7 : decide (l < -1099511627776) = true := decide_eq_true q7
        clear q7
        go_wp2_with (first | (go_at_call 13; (with_reducible refine (HN.out _).mono ?_); rintro e w2 ⟨rfl, rfl⟩) | (go_at_call 13; (with_reducible refine (HM.out _).mono ?_); rintro e w2 ⟨rfl, rfl⟩))
        go_ret
        exact ⟨rfl, HBB.out⟩
      have d7 : decide (l < -1099511627776) = false := decide_eq_false q7
      have Q7 := Lib.hid q7
      clear q7
      by_cases q8 : 1099511627776 < l
      · obtain rfl : R = false := HNot.out (.inr (.inr (.inr (.inr (.inr (.inr (.inr (.inr (.inl q8)))))))))
        have d8 : decide (1099511627776 < l) = true := decide_eq_true q8
        clear q8
        go_wp2_with (first | (go_at_call 13; (with_reducible refine (HN.out _).mono ?_); rintro e w2 ⟨rfl, rfl⟩) | (go_at_call 13; (with_reducible refine (HM.out _).mono ?_); rintro e w2 ⟨rfl, rfl⟩))
        go_ret
        exact ⟨rfl, HBB.out⟩
      have d8 : decide (1099511627776 < l) = false := decide_eq_false q8
      have Q8 := Lib.hid q8
      clear q8
      go_upto_region 11 with (first | (go_at_call 13; (with_reducible refine (HN.out _).mono ?_); rintro e w2 ⟨rfl, rfl⟩) | (go_at_call 13; (with_reducible refine (HM.out _).mono ?_); rintro e w2 ⟨rfl, rfl⟩))
      cases q9 : inC f 0 1099511627776 with
      | false =>
        obtain rfl : R = false := HNot.out (.inr (.inr (.inr (.inr (.inr (.inr (.inr (.inr (.inr (.inl q9))))))))))
        rw [q9] at H5
        clear q9
        go_wp2_with (first | (go_at_call 115; (with_reducible refine (H5.out _).mono ?_); rintro e w2 ⟨rfl, rfl⟩))
        go_ret
        exact ⟨rfl, HBB.out⟩
      | true =>
      have Q9 := Lib.hid q9
      rw [q9] at H5
      clear q9
      cases q10 : inC p 0 1099511627776 with
      | false =>
        obtain rfl : R = false := HNot.out (.inr (.inr (.inr (.inr (.inr (.inr (.inr (.inr (.inr (.inr (.inl q10)))))))))))
        rw [q10] at H6
        clear q10
        go_wp2_with (first | (go_at_call 115; (with_reducible refine (H5.out _).mono ?_); rintro e w2 ⟨rfl, rfl⟩) | (go_at_call 115; (with_reducible refine (H6.out _).mono ?_); rintro e w2 ⟨rfl, rfl⟩))
        go_ret
        exact ⟨rfl, HBB.out⟩
      | true =>
      have Q10 := Lib.hid q10
      rw [q10] at H6
      clear q10
      by_cases q11 : ls.length ≤ 4
      · have d11 : decide ((ls.length : Int) ≤ 4) = true := decide_eq_true (by omega)
        obtain rfl : R = rightC ls := HYes.out HNO.out Q1.out Q2.out Q3.out Q4.out Q5.out Q6.out Q7.out Q8.out Q9.out Q10.out q11
        clear q11
        go_wp2_with (first | (go_at_call 115; (with_reducible refine (H5.out _).mono ?_); rintro e w2 ⟨rfl, rfl⟩) | (go_at_call 115; (with_reducible refine (H6.out _).mono ?_); rintro e w2 ⟨rfl, rfl⟩) | (go_at_call 116; refine (H8.out _ HL2.out).mono ?_; rintro e w3 ⟨rfl, hb3⟩))
        go_ret
        exact ⟨rfl, bthen HBB.out hb3⟩
      · have d11 : decide ((ls.length : Int) ≤ 4) = false := decide_eq_false (by omega)
        obtain rfl : R = false := HNot.out (.inr (.inr (.inr (.inr (.inr (.inr (.inr (.inr (.inr (.inr (.inr (q11))))))))))))
        clear q11
        go_wp2_with (first | (go_at_call 115; (with_reducible refine (H5.out _).mono ?_); rintro e w2 ⟨rfl, rfl⟩) | (go_at_call 115; (with_reducible refine (H6.out _).mono ?_); rintro e w2 ⟨rfl, rfl⟩))
        go_ret
        exact ⟨rfl, HBB.out⟩
    | succ gg =>
      have hkl : i < ls.length := by omega
      obtain ⟨b1, o1, rfl, hc1, hc2⟩ : ∃ b off, a = some ⟨b, off, none⟩ ∧ wx.cell? ⟨b, off + i * 2, none⟩ = some (.string ls[i].1) ∧ wx.cell? ⟨b, off + i * 2 + 1, none⟩ = some (.string ls[i].2) := by
        rcases HPL.out with rfl | ⟨b, off, e, _, hc⟩
        · simp at hkl
        · exact ⟨b, off, e, hc i hkl⟩
      have hc1 := cellL hbr hc1
      have hc2 := cellL hbr hc2
      have hbn := (Below.refl wr.heap.size wr).alloc (Nat.le_refl _) (.cells #[.string ls[i].1, .string ls[i].2] 124)
      have heq : (ls[i].1.toList == [97, 108, 101, 114, 116]) = decide (ls[i].1 = aName) := by
        have := toList_eq_iff ls[i].1 aName
        rwa [show aName.toList = [97, 108, 101, 114, 116] by rw [ByteArray.toList_eq]; rfl] at this
      by_cases hiJ2 : i = J
      · subst hiJ2
        rcases HE.out with ⟨h, _⟩ | ⟨_, hq, hyes⟩
        · omega
        obtain rfl : R = false := HNot.out (.inl hyes)
        rw [hq] at heq
        have HBN := Lib.hid hbn
        clear hq hyes hbn
        generalize ls[i] = X at *
        have hX := Blk.new wr 124 #[.string X.1, .string X.2]
        have x0 := hX.cell 0
        have x1 := hX.cell 1
        go_wp2_with fail
        go_ret
        exact ⟨rfl, bthen (bthen HB.out hbr) HBN.out⟩
      · have hq : decide (ls[i].1 = aName) = false := by have := HOK.out i (by omega) hkl; simpa using this
        rw [hq] at heq
        have HBN := Lib.hid hbn
        clear hq hbn
        generalize ls[i] = X at *
        have hX := Blk.new wr 124 #[.string X.1, .string X.2]
        have x0 := hX.cell 0
        have x1 := hX.cell 1
        go_wp2_with fail
        go_roundg gg
        case measure => omega
        case rel => exact ⟨i + 1, by omega, by omega, by go_num, bthen hbr HBN.out⟩
end Go.Proofs.YtmhekhilgllciaaGreat
/- The contract of the document's own Right of layer 7. -/

namespace Go.Proofs.YtmhekhilgllciaaGreat
open Go.RowKit

set_option maxHeartbeats 3200000 in
theorem rRight7_any (n : ByteArray) (d f t : Int) (w : World) (hn : n.size ≤ maxLen) :
    Calls Tryz.prog 74 #[.agg #[.string n, .int .i64 d, .int .i64 f, .int .i64 t]] w (BoolW (bwC n.data.toList && spanC d f t) w) := by
  have hN := fun W => rbWord_any n W hn
  generalize bwC n.data.toList = B at *
  have hz : spanC d f t = (decide (1 ≤ d) && (decide (d ≤ 127) && (decide (0 ≤ f) && (decide (f ≤ 1439) && (decide (f < t) && decide (t ≤ 1440)))))) := by
    unfold spanC
    rw [Bool.eq_iff_iff]
    simp only [Bool.and_eq_true, decide_eq_true_eq]
    omega
  rw [hz]
  clear hz
  cases B
  · go_enter Tryz.func74, Tryz.ntmps74
    go_wp2_with (go_at_call 13; refine (hN _).mono ?_; rintro e w2 ⟨rfl, rfl⟩)
    go_ret
    exact ⟨rfl, (Below.refl _ _).alloc (Nat.le_refl _) _⟩
  by_cases h1 : 1 ≤ d <;> by_cases h2 : d ≤ 127 <;> by_cases h3 : 0 ≤ f <;> by_cases h4 : f ≤ 1439 <;> by_cases h5 : f < t <;> by_cases h6 : t ≤ 1440 <;> (try omega)
  all_goals
    go_enter Tryz.func74, Tryz.ntmps74
    go_wp2_with (go_at_call 13; refine (hN _).mono ?_; rintro e w2 ⟨rfl, rfl⟩)
    go_ret
    exact ⟨by simp [h1, h2, h3, h4, h5, h6], (Below.refl _ _).alloc (Nat.le_refl _) _⟩

end Go.Proofs.YtmhekhilgllciaaGreat
/- What is known of a block of four cells. It speaks of no one program. -/
namespace Go.Proofs.YtmhekhilgllciaaGreat
open Go.RowKit

theorem Blk.cells4 {w : World} {g : Nat} {t : TypeId} {x y z u : Value} (h : Blk w g t #[x, y, z, u]) : w.cell? ⟨g, 0, none⟩ = some x ∧ w.cell? ⟨g, 1, none⟩ = some y ∧ w.cell? ⟨g, 2, none⟩ = some z ∧ w.cell? ⟨g, 3, none⟩ = some u :=
  ⟨h.cell 0, h.cell 1, h.cell 2, h.cell 3⟩
end Go.Proofs.YtmhekhilgllciaaGreat
/- The contracts of the document's own Rules, Hours and Places of layer 10. -/
namespace Go.Proofs.YtmhekhilgllciaaGreat
open Go.RowKit

/-- names, if all may be, and whether they may stand so -/
def Nms10P (ok B : Bool) (names : List ByteArray) (w : World) (e : Ending) (w' : World) : Prop := ∃ v, e = .returned (.tuple #[v, .bool B]) ∧ Below w.heap.size w w' ∧ (ok = true → OwnS 9 w' w.heap.size v names)
set_option maxHeartbeats 6400000 in
set_option maxRecDepth 100000 in
theorem rRules_any (a : Option Addr) (c : Nat) (xs : List RuA) (w : World) (h : HasRules w a c xs) (h8 : xs.length ≤ 1000000) :
    Calls Tryz.prog 25 #[.slice a xs.length c] w (Nms10P (xs.all RuA.good) (xs.all RuA.good && (decide (xs.length ≤ 16) && onceS (xs.map RuA.name))) (xs.map RuA.name) w) := by
  obtain ⟨i0, hi, hz0, hz1, hz2⟩ := info_parts Tryz.infoS
  obtain ⟨J, hJ, hgood, hend⟩ := all_endB RuA.good xs
  obtain ⟨Z, hZ⟩ : ∃ Z, decide (xs.length ≤ 16) = Z := ⟨_, rfl⟩
  have hZ2 : decide ((xs.length : Int) ≤ 16) = Z := by rw [← hZ, Bool.eq_iff_iff, decide_eq_true_iff, decide_eq_true_iff]; omega
  rw [hZ]
  generalize xs.all RuA.good = G at *
  have HH := Lib.hid h
  have HG := Lib.hid hgood
  have HE := Lib.hid hend
  have HSZ := Lib.hid (show ∀ s ∈ xs.map RuA.name, s.size ≤ maxLen from fun s hs => by obtain ⟨x, hx, rfl⟩ := List.mem_map.1 hs; exact (h.2.2.1 x hx).2.1)
  have HON := Lib.hid (fun W a c (hs : HasStrs W a c (xs.map RuA.name)) => rOnce10_any a c (xs.map RuA.name) W hs)
  obtain ⟨O, hO⟩ : ∃ O, onceS (xs.map RuA.name) = O := ⟨_, rfl⟩
  simp only [hO] at HON
  rw [hO]
  have h1 := h.1
  have h2 := h.2.1
  unfold maxLen at h2
  have hown := OwnS.made 9 w
  have hb := (Below.refl w.heap.size w).alloc (Nat.le_refl _) (.cells #[] 9)
  have hz : w.heap.size ≤ (w.alloc (.cells #[] 9)).heap.size := hb.size
  clear h hgood hend hO
  go_enter Tryz.func25, Tryz.ntmps25
  go_upto_region 2 with fail
  generalize w.alloc (.cells #[] 9) = wx at *
  go_wp2_with fail
  go_loopg [10, 4, 6] xs.length (fun gg iv v _ wr => ∃ (V : Value) (k : Nat), V = v ∧ k + gg = xs.length ∧ k ≤ J ∧ iv = .int .i64 (k : Int) ∧ OwnS 9 wr w.heap.size V ((xs.take k).map RuA.name) ∧ Below w.heap.size w wr ∧ w.heap.size ≤ wr.heap.size)
  case atStart => exact ⟨_, 0, rfl, by omega, Nat.zero_le _, rfl, by simpa using hown, hb, hz⟩
  case round =>
    obtain ⟨V, k, rfl, hkg, hkJ, rfl, hown, hbr, hzr⟩ := hrel
    cases gk with
    | zero =>
      obtain rfl : k = xs.length := by omega
      rw [List.take_length] at hown
      obtain rfl : G = true := by
        rcases HE.out with ⟨_, e⟩ | ⟨hj, _⟩
        · exact e
        · omega
      obtain ⟨ra, rc, rfl, hrs⟩ := hown.strs HSZ.out
      have hcall := HON.out wr ra rc hrs
      rw [List.length_map] at hcall
      have HCA := Lib.hid hcall
      have HBR := Lib.hid hbr
      have HOW := Lib.hid hown
      clear hown hbr hcall hrs hkJ
      simp only [List.length_map] at *
      cases Z
      case false =>
        go_wp2_with fail
        go_ret2
        exact ⟨_, rfl, HBR.out, fun _ => HOW.out⟩
      go_wp2_with (go_at_call 27; refine HCA.out.mono ?_; rintro e w3 ⟨rfl, rfl⟩)
      go_ret2
      exact ⟨_, rfl, HBR.out, fun _ => HOW.out⟩
    | succ gg =>
      have hkl : k < xs.length := by omega
      obtain ⟨b, off, rfl, _, hc⟩ := HasRow.place HH.out k hkl
      have e0 := cellL hbr (hc 0 _ rfl)
      have e1 := cellL hbr (hc 1 _ rfl)
      have e2 := cellL hbr (hc 2 _ rfl)
      have e3 := cellL hbr (hc 3 _ rfl)
      have e4 := cellL hbr (hc 4 _ rfl)
      have e5 := cellL hbr (hc 5 _ rfl)
      have e6 := cellL hbr (hc 6 _ rfl)
      have e7 := cellL hbr (hc 7 _ rfl)
      rw [Nat.add_zero] at e0
      clear hc
      have hts : (xs.take (k + 1)).map RuA.name = (xs.take k).map RuA.name ++ [xs[k].r.name] := by
        rw [List.take_succ_eq_append_getElem hkl, List.map_append]; rfl
      have hll : ((xs.take k).map RuA.name).length ≤ 1000000 := by simp; omega
      have hok := HH.out.2.2.1 xs[k] (List.getElem_mem _)
      have hst : k < J → RuA.good xs[k] = true := fun h => HG.out k h hkl
      have hstop : k = J → RuA.good xs[k] = false ∧ G = false := fun e => by
        rcases HE.out with ⟨h1, _⟩ | ⟨_, h3, h4⟩
        · omega
        · subst e
          exact ⟨h3, h4⟩
      have HTS := Lib.hid hts
      clear hts
      obtain ⟨x, hx⟩ : ∃ x, xs[k] = x := ⟨_, rfl⟩
      rw [hx] at HTS hok hst hstop
      simp only [hx] at e0 e1 e2 e3 e4 e5 e6 e7
      clear hx
      have hbn := (Below.refl wr.heap.size wr).alloc (Nat.le_refl _) (.cells #[.string x.r.name, .string x.r.metric, .int .i64 x.r.how, .int .i64 x.r.limit, .int .i64 x.r.fr, .int .i64 x.r.keep, .int .i64 x.r.tries, .slice x.a x.r.labels.length x.c] 45)
      have hN := Blk.new wr 45 #[.string x.r.name, .string x.r.metric, .int .i64 x.r.how, .int .i64 x.r.limit, .int .i64 x.r.fr, .int .i64 x.r.keep, .int .i64 x.r.tries, .slice x.a x.r.labels.length x.c]
      have f0 := hN.cell 0
      have f1 := hN.cell 1
      have f2 := hN.cell 2
      have f3 := hN.cell 3
      have f4 := hN.cell 4
      have f5 := hN.cell 5
      have f6 := hN.cell 6
      have f7 := hN.cell 7
      have hownn := hown.call hbn
      have hbrn := hbr.trans (hbn.mono hzr)
      have hzn := Nat.le_trans hzr hbn.size
      have hcall := show Calls Tryz.prog 73 #[.agg #[.string x.r.name, .string x.r.metric, .int .i64 x.r.how, .int .i64 x.r.limit, .int .i64 x.r.fr, .int .i64 x.r.keep, .int .i64 x.r.tries, .slice x.a x.r.labels.length x.c]] _ (BoolB (RuA.good x) _) from rrRight_any x.r x.a x.c (wr.alloc (.cells #[.string x.r.name, .string x.r.metric, .int .i64 x.r.how, .int .i64 x.r.limit, .int .i64 x.r.fr, .int .i64 x.r.keep, .int .i64 x.r.tries, .slice x.a x.r.labels.length x.c] 45)) (RulAt.call (show RulAt w x.r x.a x.c from hok) (bthen hbr hbn))
      have HN := Lib.hid hN
      obtain ⟨X, hX⟩ : ∃ X, RuA.good x = X := ⟨_, rfl⟩
      rw [hX] at hcall hst hstop
      have HCA := Lib.hid hcall
      generalize (xs.take k).map RuA.name = M at *
      clear hN hbn hown hbr hcall hX hok
      go_upto_region 5 with fail
      generalize wr.alloc (.cells #[.string x.r.name, .string x.r.metric, .int .i64 x.r.how, .int .i64 x.r.limit, .int .i64 x.r.fr, .int .i64 x.r.keep, .int .i64 x.r.tries, .slice x.a x.r.labels.length x.c] 45) = wn at *
      clear e0 e1 e2 e3 e4 e5 e6 e7
      by_cases hkj : k = J
      · obtain ⟨rfl, rfl⟩ := hstop hkj
        clear hst hstop hkj hkJ
        go_wp2_with (go_at_call 73; refine HCA.out.mono ?_; rintro e w3 ⟨rfl, hb3⟩)
        go_ret2
        exact ⟨_, rfl, hbrn.trans (hb3.mono hzn), fun h => by cases h⟩
      · obtain rfl := hst (by omega)
        clear hst hstop
        go_wp2_with (first
          | (go_at_call 73; refine HCA.out.mono ?_; rintro e w3 ⟨rfl, hb3⟩; have ho3 := hownn.call hb3; have hz3 := Nat.le_trans hzn hb3.size; have g0 := (HN.out.call hb3).cell 0)
          | (refine wpList_pushStr w3 (by rfl) (.tmp 17) (.tmp 20) 24 (by rfl) w.heap.size 9 i0 (.string ⟨#[]⟩) Tryz.underlying24 hi hz0 hz1 hz2 rfl V M x.r.name (by rfl) ho3 (by rfl) hll hz3 ?_; intro v4 w4 ho4 hg4))
        have hb4 := ho3.grown (hbrn.trans (hb3.mono hzn)) (Nat.le_refl _) hz3 hg4
        go_roundg gg
        case measure => omega
        case rel => exact ⟨v4, k + 1, rfl, by omega, by omega, by go_num, by rw [HTS.out]; exact ho4, hb4, Nat.le_trans hz3 hg4.size⟩
set_option maxHeartbeats 6400000 in
set_option maxRecDepth 100000 in
theorem rHours_any (a : Option Addr) (c : Nat) (xs : List HrA) (w : World) (h : HasHours w a c xs) (h8 : xs.length ≤ 1000000) :
    Calls Tryz.prog 26 #[.slice a xs.length c] w (Nms10P (xs.all HrA.good) (xs.all HrA.good && (decide (xs.length ≤ 8) && onceS (xs.map HrA.n))) (xs.map HrA.n) w) := by
  obtain ⟨i0, hi, hz0, hz1, hz2⟩ := info_parts Tryz.infoS
  obtain ⟨J, hJ, hgood, hend⟩ := all_endB HrA.good xs
  obtain ⟨Z, hZ⟩ : ∃ Z, decide (xs.length ≤ 8) = Z := ⟨_, rfl⟩
  have hZ2 : decide ((xs.length : Int) ≤ 8) = Z := by rw [← hZ, Bool.eq_iff_iff, decide_eq_true_iff, decide_eq_true_iff]; omega
  rw [hZ]
  generalize xs.all HrA.good = G at *
  have HH := Lib.hid h
  have HG := Lib.hid hgood
  have HE := Lib.hid hend
  have HSZ := Lib.hid (show ∀ s ∈ xs.map HrA.n, s.size ≤ maxLen from fun s hs => by obtain ⟨x, hx, rfl⟩ := List.mem_map.1 hs; exact (h.2.2.1 x hx).1)
  have HON := Lib.hid (fun W a c (hs : HasStrs W a c (xs.map HrA.n)) => rOnce10_any a c (xs.map HrA.n) W hs)
  obtain ⟨O, hO⟩ : ∃ O, onceS (xs.map HrA.n) = O := ⟨_, rfl⟩
  simp only [hO] at HON
  rw [hO]
  have h1 := h.1
  have h2 := h.2.1
  unfold maxLen at h2
  have hown := OwnS.made 9 w
  have hb := (Below.refl w.heap.size w).alloc (Nat.le_refl _) (.cells #[] 9)
  have hz : w.heap.size ≤ (w.alloc (.cells #[] 9)).heap.size := hb.size
  clear h hgood hend hO
  go_enter Tryz.func26, Tryz.ntmps26
  go_upto_region 2 with fail
  generalize w.alloc (.cells #[] 9) = wx at *
  go_wp2_with fail
  go_loopg [10, 4, 6] xs.length (fun gg iv v _ wr => ∃ (V : Value) (k : Nat), V = v ∧ k + gg = xs.length ∧ k ≤ J ∧ iv = .int .i64 (k : Int) ∧ OwnS 9 wr w.heap.size V ((xs.take k).map HrA.n) ∧ Below w.heap.size w wr ∧ w.heap.size ≤ wr.heap.size)
  case atStart => exact ⟨_, 0, rfl, by omega, Nat.zero_le _, rfl, by simpa using hown, hb, hz⟩
  case round =>
    obtain ⟨V, k, rfl, hkg, hkJ, rfl, hown, hbr, hzr⟩ := hrel
    cases gk with
    | zero =>
      obtain rfl : k = xs.length := by omega
      rw [List.take_length] at hown
      obtain rfl : G = true := by
        rcases HE.out with ⟨_, e⟩ | ⟨hj, _⟩
        · exact e
        · omega
      obtain ⟨ra, rc, rfl, hrs⟩ := hown.strs HSZ.out
      have hcall := HON.out wr ra rc hrs
      rw [List.length_map] at hcall
      have HCA := Lib.hid hcall
      have HBR := Lib.hid hbr
      have HOW := Lib.hid hown
      clear hown hbr hcall hrs hkJ
      simp only [List.length_map] at *
      cases Z
      case false =>
        go_wp2_with fail
        go_ret2
        exact ⟨_, rfl, HBR.out, fun _ => HOW.out⟩
      go_wp2_with (go_at_call 27; refine HCA.out.mono ?_; rintro e w3 ⟨rfl, rfl⟩)
      go_ret2
      exact ⟨_, rfl, HBR.out, fun _ => HOW.out⟩
    | succ gg =>
      have hkl : k < xs.length := by omega
      obtain ⟨b, off, rfl, _, hc⟩ := HasRow.place HH.out k hkl
      have e0 := cellL hbr (hc 0 _ rfl)
      have e1 := cellL hbr (hc 1 _ rfl)
      have e2 := cellL hbr (hc 2 _ rfl)
      have e3 := cellL hbr (hc 3 _ rfl)
      rw [Nat.add_zero] at e0
      clear hc
      have hts : (xs.take (k + 1)).map HrA.n = (xs.take k).map HrA.n ++ [xs[k].n] := by
        rw [List.take_succ_eq_append_getElem hkl, List.map_append]; rfl
      have hll : ((xs.take k).map HrA.n).length ≤ 1000000 := by simp; omega
      have hok := HH.out.2.2.1 xs[k] (List.getElem_mem _)
      have hst : k < J → HrA.good xs[k] = true := fun h => HG.out k h hkl
      have hstop : k = J → HrA.good xs[k] = false ∧ G = false := fun e => by
        rcases HE.out with ⟨h1, _⟩ | ⟨_, h3, h4⟩
        · omega
        · subst e
          exact ⟨h3, h4⟩
      have HTS := Lib.hid hts
      clear hts
      obtain ⟨x, hx⟩ : ∃ x, xs[k] = x := ⟨_, rfl⟩
      rw [hx] at HTS hok hst hstop
      simp only [hx] at e0 e1 e2 e3
      clear hx
      have hbn := (Below.refl wr.heap.size wr).alloc (Nat.le_refl _) (.cells #[.string x.n, .int .i64 x.d, .int .i64 x.f, .int .i64 x.t] 57)
      have hN := Blk.new wr 57 #[.string x.n, .int .i64 x.d, .int .i64 x.f, .int .i64 x.t]
      have f0 := hN.cell 0
      have f1 := hN.cell 1
      have f2 := hN.cell 2
      have f3 := hN.cell 3
      have hownn := hown.call hbn
      have hbrn := hbr.trans (hbn.mono hzr)
      have hzn := Nat.le_trans hzr hbn.size
      have hcall := show Calls Tryz.prog 74 #[.agg #[.string x.n, .int .i64 x.d, .int .i64 x.f, .int .i64 x.t]] _ (BoolB (HrA.good x) _) from rRight7_any x.n x.d x.f x.t (wr.alloc (.cells #[.string x.n, .int .i64 x.d, .int .i64 x.f, .int .i64 x.t] 57)) hok.1
      have HN := Lib.hid hN
      obtain ⟨X, hX⟩ : ∃ X, HrA.good x = X := ⟨_, rfl⟩
      rw [hX] at hcall hst hstop
      have HCA := Lib.hid hcall
      generalize (xs.take k).map HrA.n = M at *
      clear hN hbn hown hbr hcall hX hok
      go_upto_region 5 with fail
      generalize wr.alloc (.cells #[.string x.n, .int .i64 x.d, .int .i64 x.f, .int .i64 x.t] 57) = wn at *
      clear e0 e1 e2 e3
      by_cases hkj : k = J
      · obtain ⟨rfl, rfl⟩ := hstop hkj
        clear hst hstop hkj hkJ
        go_wp2_with (go_at_call 74; refine HCA.out.mono ?_; rintro e w3 ⟨rfl, hb3⟩)
        go_ret2
        exact ⟨_, rfl, hbrn.trans (hb3.mono hzn), fun h => by cases h⟩
      · obtain rfl := hst (by omega)
        clear hst hstop
        go_wp2_with (first
          | (go_at_call 74; refine HCA.out.mono ?_; rintro e w3 ⟨rfl, hb3⟩; have ho3 := hownn.call hb3; have hz3 := Nat.le_trans hzn hb3.size; have g0 := (HN.out.call hb3).cell 0)
          | (refine wpList_pushStr w3 (by rfl) (.tmp 17) (.tmp 20) 24 (by rfl) w.heap.size 9 i0 (.string ⟨#[]⟩) Tryz.underlying24 hi hz0 hz1 hz2 rfl V M x.n (by rfl) ho3 (by rfl) hll hz3 ?_; intro v4 w4 ho4 hg4))
        have hb4 := ho3.grown (hbrn.trans (hb3.mono hzn)) (Nat.le_refl _) hz3 hg4
        go_roundg gg
        case measure => omega
        case rel => exact ⟨v4, k + 1, rfl, by omega, by omega, by go_num, by rw [HTS.out]; exact ho4, hb4, Nat.le_trans hz3 hg4.size⟩
theorem Tryz.infoN : (Tryz.prog.info? 3).map (fun i => (i.zero, i.size, i.bytes)) = some (some (.int .i64 0), 1, 8) := by kernel_rfl
theorem info_partsN {x : Option TypeInfo} (h : x.map (fun i => (i.zero, i.size, i.bytes)) = some (some (.int .i64 0), 1, 8)) : ∃ i, x = some i ∧ i.zero = some (.int .i64 0) ∧ i.size = 1 ∧ i.bytes = 8 := by
  cases x with
  | none => cases h
  | some i => simp at h; exact ⟨i, rfl, h.1, h.2.1, h.2.2⟩
/-- the places of texts, in a row of the call's own -/
def PlcP (ss : List ByteArray) (w : World) (e : Ending) (w' : World) : Prop := ∃ v, e = .returned v ∧ OwnX 3 1 encN w' w.heap.size v (plcN ss ss.length) ∧ Below w.heap.size w w'
theorem ints_at {w : World} {base g c : Nat} {ps : List Nat} (h : OwnX 3 1 encN w base (.slice (some ⟨g, 0, none⟩) ps.length c) ps) (i : Nat) (hi : i < ps.length) : w.cell? ⟨g, i, none⟩ = some (.int .i64 (ps[i] : Int)) := by
  have := World.ownsRow.cellAt h i (by omega)
  rw [this]
  have e := rowV_get (enc := encN) encN_len ps i hi 0 (by omega)
  simpa [encN] using e
theorem row_int {w : World} {base g c : Nat} {ps : List Nat} (h : OwnX 3 1 encN w base (.slice (some ⟨g, 0, none⟩) ps.length c) ps) : HasRow 1 encN (fun _ _ => True) w (some ⟨g, 0, none⟩) c ps := by
  obtain ⟨a', c', e, hr⟩ := h.row (ok := fun _ _ => True) encN_len (fun _ _ => trivial)
  simp only [Value.slice.injEq] at e
  obtain ⟨rfl, _, rfl⟩ := e
  exact hr
theorem some_of {w : World} {base nn nc : Nat} {a : Option Addr} {ps : List Nat} (h : OwnX 3 1 encN w base (.slice a nn nc) ps) (hp : 0 < ps.length) : ∃ g, a = some ⟨g, 0, none⟩ := by
  rcases h.2 with ⟨e, h0⟩ | ⟨g, cap, cur, e, _⟩
  · omega
  · simp only [Value.slice.injEq] at e
    exact ⟨g, e.1⟩
set_option maxHeartbeats 12800000 in
set_option maxRecDepth 100000 in
theorem rPlaces_any (a : Option Addr) (c : Nat) (ss : List ByteArray) (w : World) (h : HasStrs w a c ss) (h8 : ss.length ≤ 100000) : Calls Tryz.prog 48 #[.slice a ss.length c] w (PlcP ss w) := by
  obtain ⟨i1, hi, hz0, hz1, hz2⟩ := info_partsN Tryz.infoN
  have hown : OwnX 3 1 encN (w.alloc (.cells #[] 3)) w.heap.size (.slice (some ⟨w.heap.size, 0, none⟩) 0 0) [] := OwnX.made _ _
  have hb := (Below.refl w.heap.size w).alloc (Nat.le_refl _) (.cells #[] 3)
  have hz : w.heap.size ≤ (w.alloc (.cells #[] 3)).heap.size := hb.size
  have HT := Lib.hid (fun W (hW : Below w.heap.size w W) k (hk : k ≤ ss.length) x => by
    have := rHas10_any a c (ss.take k) x W (hasStrs_take (h.call hW) k hk)
    rw [List.length_take, Nat.min_eq_left hk] at this
    exact this)
  obtain ⟨h1, h2, h3, h4⟩ := h
  unfold maxLen at h2
  have H3 := Lib.hid h3
  have H4 := Lib.hid h4
  clear h3 h4
  go_enter Tryz.func48, Tryz.ntmps48
  go_upto_region 2 with fail
  generalize w.alloc (.cells #[] 3) = w1 at *
  go_wp2_with fail
  go_loopg [11, 3, 4, 5, 6, 7] ss.length (fun gg iv v _ _ _ _ wr => ∃ (k g' rc : Nat), k + gg = ss.length ∧ iv = .int .i64 (k : Int) ∧ v = .slice (some ⟨g', 0, none⟩) (plcN ss k).length rc ∧ OwnX 3 1 encN wr w.heap.size v (plcN ss k) ∧ Below w.heap.size w wr)
  case atStart => exact ⟨0, _, _, by omega, rfl, rfl, hown, hb⟩
  case round =>
    obtain ⟨k, g', rc, hkg, rfl, rfl, hownk, hbk⟩ := hrel
    clear hown hb hz
    have hform := hownk.form
    obtain ⟨_, _, he, hrl, hrm⟩ := hform
    simp only [Value.slice.injEq] at he
    obtain ⟨rfl, _, rfl⟩ := he
    unfold maxLen at hrm
    have hplen := plcN_len ss k
    cases gk with
    | zero =>
      obtain rfl : k = ss.length := by omega
      have HOW := Lib.hid hownk
      have HB := Lib.hid hbk
      clear hownk hbk
      go_wp2_with fail
      go_ret
      exact ⟨_, rfl, HOW.out, HB.out⟩
    | succ gg =>
      have hkl : k < ss.length := by omega
      obtain ⟨b, off, rfl, hbl, hcell⟩ : ∃ b off, a = some ⟨b, off, none⟩ ∧ b < w.heap.size ∧ ∀ i (h : i < ss.length), w.cell? ⟨b, off + i, none⟩ = some (.string ss[i]) := by
        rcases H4.out with h | h
        · rw [h] at hkl; simp at hkl
        · exact h
      have HC := Lib.hid hcell
      have hck := cellL hbk (hcell k hkl)
      have hcall := HT.out wr hbk k (by omega) ss[k]
      obtain ⟨B, hB⟩ : ∃ B, memB ss[k] (ss.take k) = B := ⟨_, rfl⟩
      rw [hB] at hcall
      have hstep : plcN ss (k + 1) = if B = true then plcN ss k else insP ss (plcN ss k) k := by
        rw [← hB]
        simp only [plcN, show ss.getD k ⟨#[]⟩ = ss[k] by simp [hkl]]
      have HST := Lib.hid hstep
      have HCA := Lib.hid hcall
      have HBK := Lib.hid hbk
      have HOK := Lib.hid hownk
      have HLT := Lib.hid (fun j (hj : j ∈ plcN ss k) => plcN_lt ss k j hj)
      clear hB hstep hcall hcell hbk hownk
      cases B with
      | true =>
        have hstep : plcN ss (k + 1) = plcN ss k := by rw [HST.out, if_pos rfl]
        have HS2 := Lib.hid hstep
        clear hstep
        go_wp2_with (go_at_call 31; refine HCA.out.mono ?_; rintro e w3 ⟨rfl, rfl⟩)
        go_roundg gg
        case measure => omega
        case rel => exact ⟨k + 1, g', rc, by omega, by go_num, by rw [HS2.out], by rw [HS2.out]; exact HOK.out, HBK.out⟩
      | false =>
        have hstep : plcN ss (k + 1) = insP ss (plcN ss k) k := by rw [HST.out, if_neg (by decide)]
        have HS2 := Lib.hid hstep
        clear hstep HST
        obtain ⟨T, hT, hT1, hT2⟩ : ∃ T, T ≤ (plcN ss k).length ∧ (∀ i (h : i < T) (h2 : i < (plcN ss k).length), lessB (txA ss (plcN ss k)[i]) (txA ss k) = true) ∧ (∀ h : T < (plcN ss k).length, lessB (txA ss (plcN ss k)[T]) (txA ss k) = false) := by
          by_cases hall : ∀ i, i < (plcN ss k).length → (if h : i < (plcN ss k).length then lessB (txA ss (plcN ss k)[i]) (txA ss k) else true) = true
          · exact ⟨_, Nat.le_refl _, fun i _ h2 => by have := hall i h2; rwa [dif_pos h2] at this, fun h => absurd h (Nat.lt_irrefl _)⟩
          · obtain ⟨j, hj, hp, ha⟩ := first_not _ _ hall
            rw [dif_pos hj] at hp
            exact ⟨j, Nat.le_of_lt hj, fun i h1 h2 => by have := ha i h1; rwa [dif_pos h2] at this, fun _ => hp⟩
        have hlead := take_lead (p := fun j => lessB (txA ss j) (txA ss k)) hT (fun i h => hT1 i h (by omega)) hT2
        have HIN := Lib.hid (show plcN ss (k + 1) = (plcN ss k).take T ++ k :: (plcN ss k).drop T by rw [HS2.out, insP, hlead.1, hlead.2])
        have hpl : (plcN ss k).length ≤ 100000 := by omega
        have HT1 := Lib.hid hT1
        have HT2 := Lib.hid hT2
        have hsk := H3.out ss[k] (List.getElem_mem hkl)
        have htk : txA ss k = ss[k].data.toList := txA_lt hkl
        have HTK := Lib.hid htk
        clear hT1 hT2 hlead HS2 htk
        generalize plcN ss k = ps at *
        go_upto_block 2 with (go_at_call 31; refine HCA.out.mono ?_; rintro e w3 ⟨rfl, rfl⟩)
        clear hck
        go_cut [6] (fun v wy => v = .int .i64 (T : Int) ∧ ∃ n, wy = wr.drewN n)
        case first =>
          go_wp2_with fail
          go_loopg [6] (T + 1) (fun gg jv wy => ∃ (j : Nat), j ≤ T ∧ j + gg = T + 1 ∧ jv = .int .i64 (j : Int) ∧ ∃ n, wy = wr.drewN n)
          case atStart => exact ⟨0, Nat.zero_le _, by omega, rfl, 0, rfl⟩
          case round =>
            obtain ⟨j, hjT0, hjg, rfl, nd, rfl⟩ := hrel
            cases gk with
            | zero =>
              exact absurd hjg (by omega)
            | succ gi =>
              by_cases hjl : j < ps.length
              · have hpj := HLT.out ps[j] (List.getElem_mem hjl)
                have hcj := ints_at HOK.out j hjl
                have hcs := cellL HBK.out (HC.out ps[j] (by omega))
                have hlt : ps[j] < ss.length := by omega
                have hL := rLess_any ss[ps[j]] ss[k] (wr.drewN nd) (H3.out _ (List.getElem_mem hlt)) hsk
                have htj : txA ss ps[j] = ss[ps[j]].data.toList := txA_lt hlt
                rw [← htj, ← HTK.out] at hL
                have HL := Lib.hid hL
                have dlt : decide (j < ps.length) = true := decide_eq_true hjl
                have dlt2 : decide ((j : Int) < (ps.length : Int)) = true := decide_eq_true (by omega)
                by_cases hjT : j = T
                · have hf := HT2.out (by omega)
                  subst hjT
                  rw [hf] at HL
                  generalize ss[ps[j]] = sj at *
                  generalize ps[j] = pj at *
                  clear hf htj hL
                  go_wp2_with (go_at_call 76; refine HL.out.mono ?_; rintro e w4 ⟨rfl, nq, rfl⟩)
                  go_meet
                  exact ⟨rfl, _, rfl⟩
                · have hf := HT1.out j (by omega) hjl
                  rw [hf] at HL
                  generalize ss[ps[j]] = sj at *
                  generalize ps[j] = pj at *
                  clear hf htj hL
                  go_wp2_with (go_at_call 76; refine HL.out.mono ?_; rintro e w4 ⟨rfl, nq, rfl⟩)
                  go_roundg gi
                  case measure => omega
                  case rel => exact ⟨j + 1, by omega, by omega, by go_num, _, rfl⟩
              · obtain rfl : j = T := by omega
                have dlt : decide (j < ps.length) = false := decide_eq_false hjl
                have dlt2 : decide ((j : Int) < (ps.length : Int)) = false := decide_eq_false (by omega)
                go_wp2_with fail
                go_meet
                exact ⟨rfl, _, rfl⟩
        case rest =>
          obtain ⟨rfl, nd, rfl⟩ := hcut
          have hOK0 := HOK.out.call (below_drewN (Below.refl wr.heap.size wr) nd)
          have hBK0 := below_drewN HBK.out nd
          generalize wr.drewN nd = W0 at *
          have hz0' := hBK0.size
          have hn0 : OwnX 3 1 encN (W0.alloc (.cells #[] 3)) W0.heap.size (.slice (some ⟨W0.heap.size, 0, none⟩) 0 0) [] := OwnX.made _ _
          have hb1 := (Below.refl W0.heap.size W0).alloc (Nat.le_refl _) (.cells #[] 3)
          have hz1' := hb1.size
          have HS := Lib.hid (fun W (hW : Below W0.heap.size W0 W) => row_int (hOK0.call hW))
          have HSA := Lib.hid (fun W (hW : Below W0.heap.size W0 W) => show Src Tryz.prog 1 78 (.slice (some ⟨g', 0, none⟩) T rc) T (rowV encN (ps.take T)) W from by
            have := src_rowX (P := Tryz.prog) Tryz.underlying78 encN_len (by omega) encN_one (hasRow_takeX (HS.out W hW) T hT)
            rwa [List.length_take, Nat.min_eq_left hT] at this)
          obtain ⟨X, hX⟩ : ∃ X, (if rc = T then some (⟨g', 0, none⟩ : Addr) else some ⟨g', T, none⟩) = X := ⟨_, rfl⟩
          have hX2 : (if rc = T then some (⟨g', 0, none⟩ : Addr) else some ⟨g', 0 + T, none⟩) = X := by rw [Nat.zero_add]; exact hX
          have HSD := Lib.hid (fun W (hW : Below W0.heap.size W0 W) => show Src Tryz.prog 1 78 (.slice X (ps.length - T) (rc - T)) (ps.length - T) (rowV encN (ps.drop T)) W from by
            rw [← hX]
            split
            · rename_i hc
              have e : ps.length - T = 0 := by omega
              rw [e, List.drop_of_length_le (by omega)]
              exact Src.ofSlice W Tryz.underlying78 _ 0 _ [] (by simp) (fun j u hu => by simp at hu) (fun u hu => by cases hu)
            · have := src_rowX (P := Tryz.prog) Tryz.underlying78 encN_len (by omega) encN_one (hasRow_dropX (HS.out W hW) T hT rfl)
              rwa [List.length_drop, Nat.mul_one, Nat.zero_add] at this)
          have hlt1 : (ps.take T).length = T := by rw [List.length_take, Nat.min_eq_left hT]
          have hld1 : (ps.drop T).length = ps.length - T := List.length_drop
          have HBK0 := Lib.hid hBK0
          clear hOK0 hBK0
          go_upto_region 10 with fail
          go_upto_region 11 with (refine wpList_appX _ (by rfl) (.tmp 39) (.tmp 42) 78 (by rfl) W0.heap.size 3 i1 (.int .i64 0) 8 Tryz.underlying78 hi hz0 hz1 hz2 rfl (by omega) (.slice (some ⟨W0.heap.size, 0, none⟩) 0 0) [] (by rfl) hn0 (.slice (some ⟨g', 0, none⟩) T rc) T (ps.take T) hlt1.symm (by rfl) (HSA.out _ hb1) (by simp only [List.length_nil]; omega) hz1' ?_; intro na nn nc w5 hnn ho5 hg5; have hb5 := hn0.grown hb1 (Nat.le_refl _) hz1' hg5; have hz5 := hb5.size; rw [List.nil_append] at ho5 hnn; rw [hlt1] at hnn; subst nn)
          have hq5 := (Below.refl w5.heap.size w5).alloc (Nat.le_refl _) (.cells #[.int .i64 (k : Int)] 3)
          have hB5 := Blk.new w5 3 #[.int .i64 (k : Int)]
          have hs5 := src_oneX (P := Tryz.prog) (x := k) Tryz.underlying78 encN_len encN_one hB5 rfl
          have ho6 := ho5.call hq5
          have hb6 := bthen hb5 (hq5.mono (Nat.le_refl _))
          have hz6 := hb6.size
          have hl7 : (ps.take T ++ [k]).length = T + 1 := by rw [List.length_append, hlt1]; rfl
          go_upto_region 12 with (refine wpList_appX _ (by rfl) (.tmp 44) (.tmp 46) 78 (by rfl) W0.heap.size 3 i1 (.int .i64 0) 8 Tryz.underlying78 hi hz0 hz1 hz2 rfl (by omega) (.slice na T nc) (ps.take T) (by rfl) ho6 (.slice (some ⟨w5.heap.size, 0, none⟩) 1 1) 1 [k] rfl (by rfl) hs5 (by simp only [List.length_cons, List.length_nil]; omega) hz6 ?_; intro nb nn2 nc2 w7 hnn2 ho7 hg7; have hb7 := ho6.grown hb6 (Nat.le_refl _) hz6 hg7; have hz7 := hb7.size; rw [hl7] at hnn2; subst nn2)
          go_wp2_with (refine wpList_appX _ (by rfl) (.tmp 48) (.tmp 51) 78 (by rfl) W0.heap.size 3 i1 (.int .i64 0) 8 Tryz.underlying78 hi hz0 hz1 hz2 rfl (by omega) (.slice nb (T + 1) nc2) (ps.take T ++ [k]) (by rfl) ho7 (.slice X (ps.length - T) (rc - T)) (ps.length - T) (ps.drop T) hld1.symm (by rfl) (HSD.out _ hb7) (by rw [hl7, hld1]; omega) hz7 ?_; intro nc' nn3 nc3 w8 hnn3 ho8 hg8; have hb8 := ho7.grown hb7 (Nat.le_refl _) hz7 hg8; have HN3 := Lib.hid hnn3; clear hnn3)
          have hfin : plcN ss (k + 1) = ps.take T ++ [k] ++ ps.drop T := by rw [HIN.out]; simp
          have hnn3 := HN3.out
          rw [← hfin] at hnn3 ho8
          obtain ⟨g8, rfl⟩ := some_of ho8 (by rw [hfin]; simp; omega)
          have hB8 := HBK0.out.trans (hb8.mono hz0')
          have HF := Lib.hid (And.intro hnn3 (And.intro (ho8.base hz0') hB8))
          clear hnn3 ho8 hg8 hb8 hfin hB8
          go_roundg gg
          case measure => omega
          case rel => exact ⟨k + 1, g8, nc3, by omega, by go_num, by rw [HF.out.1], HF.out.2.1, HF.out.2.2⟩
end Go.Proofs.YtmhekhilgllciaaGreat
