/- A node in a map of one name, and in one of two: whether they may be, and how they are written; how they lie. -/
import Derived.Test.YtolbhhokpelchaaDoorZOtpN
import Derived.Test.YtolbhhokpelchaaDoorZOtlO
import Derived.Test.YtolbhhokpelchaaDoorMg6
import Derived.Test.YtolbhhokpelchaaDoorOutJ
namespace Go.Proofs.YtolbhhokpelchaaDoor
open Go.RowKit

def nmA : ByteArray := ⟨#[97]⟩
def nmB : ByteArray := ⟨#[98]⟩
def wdN (W : ByteArray) : Nd := .mk 1 W [] []
def inA (n : Nd) : Nd := .mk 3 ⟨#[]⟩ [nmA] [n]
def inAB (n : Nd) (W : ByteArray) : Nd := .mk 3 ⟨#[]⟩ [nmA, nmB] [n, wdN W]
theorem wd_right (r : Nat) (W : ByteArray) : rightD (r + 1) (wdN W) = owC W.data.toList := by
  simp [rightD, partsC, wdN, Nd.kind, Nd.word, Nd.names, Nd.items]
theorem partsA (n : Nd) : partsC (inA n) = true := by
  have h : namesC [nmA] = true := by decide +kernel
  simp [partsC, inA, Nd.kind, Nd.word, Nd.names, Nd.items, h, show ({ data := #[] } : ByteArray) = .empty from rfl]
theorem partsAB (n : Nd) (W : ByteArray) : partsC (inAB n W) = true := by
  have h : namesC [nmA, nmB] = true := by decide +kernel
  simp [partsC, inAB, Nd.kind, Nd.word, Nd.names, Nd.items, h, show ({ data := #[] } : ByteArray) = .empty from rfl]
theorem nodeA (n : Nd) : nodeC (inA n) = rightD 7 n := by
  unfold nodeC
  rw [rightD, partsA]
  simp [inA, Nd.items]
theorem nodeAB (n : Nd) (W : ByteArray) : nodeC (inAB n W) = (rightD 7 n && owC W.data.toList) := by
  unfold nodeC
  rw [rightD, partsAB]
  simp [inAB, Nd.items, wd_right 6]
theorem textA (n : Nd) : (inA n).linesT 0 = 97 :: 58 :: behT n 1 := by
  rw [linesT_eq]
  show linesLs 3 [nmA] [n] 0 = _
  rw [linesLs_cons, linesLs_nil]
  simp [itemT, hdNm, nmA]
theorem textAB (n : Nd) (W : ByteArray) : (inAB n W).linesT 0 = (97 :: 58 :: behT n 1) ++ (98 :: 58 :: 32 :: ((wordT W).data.toList ++ [10])) := by
  rw [linesT_eq]
  show linesLs 3 [nmA, nmB] [n, wdN W] 0 = _
  rw [linesLs_cons]
  simp only [List.tail_cons]
  rw [linesLs_cons, linesLs_nil]
  have e : behT (wdN W) 1 = 32 :: ((wordT W).data.toList ++ [10]) := rfl
  simp [itemT, hdNm, nmA, nmB, e]
/-- what the statement asks, where the map of one name is printed -/
theorem within_facts (n : Nd) (W : ByteArray) (h : printE (inA n) = 0) :
    rightD 7 n = true ∧ (n.linesT 1).length ≤ 8192 ∧ (n.items.length ≠ 0 → printS (inA n) = ⟨#[97, 58, 10]⟩ ++ bytesA (n.linesT 1)) ∧ (n.items.length = 0 → Lib.hasPrefix (printS (inA n)).data.toList [97, 58, 32] = true) ∧ (printS (inA n)).size ≤ 8192 ∧
      (printE (inAB n W) ≠ 0 → printE (inAB n W) = 2 ∨ printE (inAB n W) = 1 ∧ owC W.data.toList = false) ∧
      (printE (inAB n W) = 0 → Lib.hasPrefix (printS (inAB n W)).data.toList ((printS (inA n)) ++ ⟨#[98, 58, 32]⟩).data.toList = true) := by
  obtain ⟨h1, _, h3, h4⟩ := printE_ok h
  rw [nodeA] at h1
  have hie : n.items.isEmpty = decide (n.items.length = 0) := by cases n.items <;> simp
  have hs : (printS (inA n)).data.toList = 97 :: 58 :: behT n 1 := by rw [h4]; exact textA n
  rw [textA] at h3
  have hbl : (97 :: 58 :: behT n 1 : Bs).length = (behT n 1).length + 2 := by simp
  refine ⟨h1, ?_, fun hi => ?_, fun hi => ?_, ?_, fun h5 => ?_, fun h5 => ?_⟩
  · by_cases hi : n.items.length = 0
    · rw [linesT_eq, List.eq_nil_of_length_eq_zero hi, linesLs_nil]
      simp
    · rw [hbl, behT, hie, if_neg (by simp [hi]), List.length_cons] at h3
      omega
  · refine bytes_ext ?_
    rw [hs, behT, hie, if_neg (by simp [hi])]
    simp [ByteArray.data_append, bytesA]
  · rw [hs, behT, hie, if_pos (by simp [hi])]
    rfl
  · rw [← lenB, hs]
    exact h3
  · unfold printE at h5 ⊢
    by_cases ho : owC W.data.toList = true
    · rw [if_neg (by rw [nodeAB, h1, ho]; simp [inAB, Nd.items])] at h5 ⊢
      split at h5
      · exact absurd rfl h5
      · rw [if_neg (by assumption)]
        exact .inl rfl
    · rw [Bool.not_eq_true] at ho
      rw [if_pos (.inl (by rw [nodeAB, ho]; simp))]
      exact .inr ⟨rfl, ho⟩
  · obtain ⟨_, _, _, g4⟩ := printE_ok h5
    rw [g4]
    have e : (bytesA ((inAB n W).linesT 0)).data.toList = (97 :: 58 :: behT n 1) ++ (98 :: 58 :: 32 :: ((wordT W).data.toList ++ [10])) := textAB n W
    have e2 : (printS (inA n) ++ ⟨#[98, 58, 32]⟩).data.toList = (97 :: 58 :: behT n 1) ++ [98, 58, 32] := by
      rw [ByteArray.data_append, Array.toList_append, hs]
    rw [e, e2, Lib.hasPrefix, List.isPrefixOf_iff_prefix]
    exact ⟨(wordT W).data.toList ++ [10], by simp⟩
theorem within_not (n : Nd) (h : printE (inA n) ≠ 0) : printE (inA n) = 2 ∨ printE (inA n) = 1 ∧ nodeC (inA n) = false := by
  unfold printE at h ⊢
  by_cases hc : nodeC (inA n) = false
  · rw [if_pos (.inl hc)]
    exact .inr ⟨rfl, hc⟩
  · have hno : ¬ (nodeC (inA n) = false ∨ (inA n).items.length = 0) := fun h2 => h2.elim hc fun h3 => absurd h3 (Nat.succ_ne_zero 0)
    rw [if_neg hno] at h ⊢
    split at h
    · exact absurd rfl h
    · rw [if_neg (by assumption)]
      exact .inl rfl
theorem inA_ok (w : World) (q : NdAt) (hq : q.ok w) (g1 g2 : Nat) (h1 : Blk w g1 9 #[.string nmA]) (h2 : Blk w g2 25 (nCells q)) :
    NdAt.ok w ⟨inA q.n, some ⟨g1, 0, none⟩, 1, some ⟨g2, 0, none⟩, 1⟩ := by
  refine .of ⟨⟨Nat.le_refl 1, show (1 : Nat) ≤ maxLen by unfold maxLen; omega, ?_, .inr ⟨g1, 0, rfl, h1.lt, fun i hi => ?_⟩⟩, Nat.zero_le _, rfl, Nat.le_refl 1, by show (1 : Nat) ≤ maxLen; unfold maxLen; omega⟩ rfl h2.lt fun i hi => ?_
  · intro x hx
    obtain rfl : x = nmA := List.mem_singleton.mp (show x ∈ [nmA] from hx)
    show (1 : Nat) ≤ maxLen
    unfold maxLen
    omega
  · obtain rfl : i = 0 := by have : i < 1 := hi; omega
    exact h1.cell 0
  · obtain rfl : i = 0 := by have : i < 1 := hi; omega
    exact ⟨q, rfl, ⟨h2.cell 0, h2.cell 1, h2.cell 2, h2.cell 3⟩, hq⟩
theorem inAB_ok (w : World) (q : NdAt) (hq : q.ok w) (W : ByteArray) (hW : W.size ≤ maxLen) (g1 g2 : Nat) (h1 : Blk w g1 9 #[.string nmA, .string nmB])
    (h2 : Blk w g2 25 #[.int .i64 q.n.kind, .string q.n.word, .slice q.na q.n.names.length q.nc, .slice q.ia q.n.items.length q.ic, .int .i64 1, .string W, .slice none 0 0, .slice none 0 0]) :
    NdAt.ok w ⟨inAB q.n W, some ⟨g1, 0, none⟩, 2, some ⟨g2, 0, none⟩, 2⟩ := by
  refine .of ⟨⟨Nat.le_refl 2, show (2 : Nat) ≤ maxLen by unfold maxLen; omega, ?_, .inr ⟨g1, 0, rfl, h1.lt, fun i hi => ?_⟩⟩, Nat.zero_le _, rfl, Nat.le_refl 2, by show (2 : Nat) ≤ maxLen; unfold maxLen; omega⟩ rfl h2.lt fun i hi => ?_
  · intro x hx
    rcases List.mem_cons.mp (show x ∈ [nmA, nmB] from hx) with rfl | h
    · show (1 : Nat) ≤ maxLen
      unfold maxLen
      omega
    · rw [List.mem_singleton.mp h]
      show (1 : Nat) ≤ maxLen
      unfold maxLen
      omega
  · have hi2 : i < 2 := hi
    rcases (show i = 0 ∨ i = 1 by omega) with rfl | rfl
    · exact h1.cell 0
    · exact h1.cell 1
  · have hi2 : i < 2 := hi
    rcases (show i = 0 ∨ i = 1 by omega) with rfl | rfl
    · exact ⟨q, rfl, ⟨h2.cell 0, h2.cell 1, h2.cell 2, h2.cell 3⟩, hq⟩
    · exact ⟨⟨wdN W, none, 0, none, 0⟩, rfl, ⟨h2.cell 4, h2.cell 5, h2.cell 6, h2.cell 7⟩, .flat _ ⟨noStrs w, hW, rfl, Nat.le_refl 0, Nat.zero_le _⟩ rfl⟩
end Go.Proofs.YtolbhhokpelchaaDoor
/- The contracts of the document's own small, Word, Name, Plain and Quote of layer 5. -/
namespace Go.Proofs.YtolbhhokpelchaaDoor
open Go.RowKit

set_option maxHeartbeats 1600000 in
theorem rSmall_any (c : UInt8) (w : World) : Calls Tryd.prog 73 #[.int .u8 (c.toNat : Int)] w (BoolS (bwB c) w) := by
  have e : bwB c = decide (97 ≤ c.toNat ∧ c.toNat ≤ 122 ∨ 48 ≤ c.toNat ∧ c.toNat ≤ 57 ∨ c.toNat = 95) := rfl
  rw [e]
  clear e
  generalize c.toNat = n
  by_cases h5 : n = 95
  · subst h5
    go_enter Tryd.func73, Tryd.ntmps73
    go_wp2
    go_ret
    exact ⟨rfl, rfl⟩
  have f5 : ((n : Int) == 95) = false := beq_eq_false_iff_ne.2 (by omega)
  by_cases h1 : 97 ≤ n <;> by_cases h2 : n ≤ 122 <;> by_cases h3 : 48 ≤ n <;> by_cases h4 : n ≤ 57 <;> (try omega)
  all_goals
    obtain ⟨R, hR⟩ : ∃ R, decide (97 ≤ n ∧ n ≤ 122 ∨ 48 ≤ n ∧ n ≤ 57 ∨ n = 95) = R := ⟨_, rfl⟩
    have hR2 := hR
    simp only [h1, h2, h3, h4, h5, and_true, and_false, or_false, or_true, decide_true, decide_false] at hR2
    rw [hR]
    clear hR h5
    subst hR2
    have q1 : decide (97 ≤ (n : Int)) = decide (97 ≤ n) := decide_eq_decide.2 (by omega)
    have q2 : decide ((n : Int) ≤ 122) = decide (n ≤ 122) := decide_eq_decide.2 (by omega)
    have q3 : decide (48 ≤ (n : Int)) = decide (48 ≤ n) := decide_eq_decide.2 (by omega)
    have q4 : decide ((n : Int) ≤ 57) = decide (n ≤ 57) := decide_eq_decide.2 (by omega)
    simp only [h1, h2, h3, h4, decide_true, decide_false] at q1 q2 q3 q4
    go_enter Tryd.func73, Tryd.ntmps73
    go_wp2
    go_ret
    exact ⟨rfl, rfl⟩

set_option maxHeartbeats 1600000 in
theorem rWordN_any (s : ByteArray) (w : World) (hs : s.size ≤ maxLen) : Calls Tryd.prog 26 #[.string s] w (BoolS (owC s.data.toList) w) := by
  unfold maxLen at hs
  have hl := lenB s
  obtain ⟨J, hJ, hok, hend⟩ : ∃ J, J ≤ s.size ∧ (∀ k (h : k < s.size), k < J → owB s[k] = true) ∧ (J = s.size ∧ owC s.data.toList = decide (s.size ≤ 200) ∨ ∃ h : J < s.size, owB s[J] = false ∧ owC s.data.toList = false) := by
    by_cases hall : s.data.toList.all owB = true
    · exact ⟨s.size, Nat.le_refl _, fun k h _ => bytesAll hall k h, .inl ⟨rfl, by unfold owC; rw [hl, hall]; simp⟩⟩
    · obtain ⟨j, hj, hbad, hok⟩ := bytesNot s hall
      exact ⟨j, by omega, fun k _ hk => hok k hk, .inr ⟨hj, hbad, by unfold owC; simp only [Bool.not_eq_true] at hall; rw [hall]; simp⟩⟩
  obtain ⟨R, hR⟩ : ∃ R, owC s.data.toList = R := ⟨_, rfl⟩
  rw [hR] at hend ⊢
  have HA := Lib.hid hok
  have HE := Lib.hid hend
  clear hR hl hok hend
  go_enter Tryd.func26, Tryd.ntmps26
  go_wp2
  go_loop [3] (fun i => ∃ k : Nat, k ≤ J ∧ i = .int .i64 k) (fun i => s.size - (intOf i).toNat)
  case atStart => exact ⟨0, Nat.zero_le _, rfl⟩
  case round =>
    obtain ⟨k, hk, rfl⟩ := hrel
    by_cases hkl : k < s.size
    · by_cases hkJ : k = J
      · subst hkJ
        rcases HE.out with ⟨h, _⟩ | ⟨_, hbad, hR⟩
        · omega
        · subst hR
          simp only [owB, decide_eq_false_iff_not] at hbad
          obtain ⟨n, hn⟩ : ∃ n, s[k].toNat = n := ⟨_, rfl⟩
          rw [hn] at hbad
          by_cases a1 : 32 ≤ n
          · have a2 : ¬ n ≤ 126 := fun h => hbad ⟨a1, h⟩
            clear hbad
            go_wp2
            go_ret
            exact ⟨rfl, rfl⟩
          · clear hbad
            go_wp2
            go_ret
            exact ⟨rfl, rfl⟩
      · have hgood := HA.out k hkl (by omega)
        simp only [owB, decide_eq_true_eq] at hgood
        obtain ⟨a1, a2⟩ := hgood
        go_wp2
        go_round
        case rel => exact ⟨k + 1, by omega, by go_num⟩
        case measure => simp [intOf]; omega
    · rcases HE.out with ⟨_, hR⟩ | ⟨h, _⟩
      · have hd : decide ((s.size : Int) ≤ 200) = R := by rw [hR]; exact decide_eq_decide.2 (by omega)
        have hd2 : decide (s.size ≤ 200) = R := hR.symm
        clear hR
        go_wp2
        go_ret
        exact ⟨rfl, rfl⟩
      · omega

set_option maxHeartbeats 3200000 in
set_option maxRecDepth 100000 in
theorem rPlain_any (s : ByteArray) (w : World) (hs : s.size ≤ maxLen) : Calls Tryd.prog 58 #[.string s] w (BoolS (plC s.data.toList) w) := by
  unfold maxLen at hs
  have hl := lenB s
  obtain ⟨J, hJ, hok, hend⟩ : ∃ J, J ≤ s.size ∧ (∀ k (h : k < s.size), k < J → plB s[k] = true) ∧ (J = s.size ∧ s.data.toList.all plB = true ∨ ∃ h : J < s.size, plB s[J] = false ∧ s.data.toList.all plB = false) := by
    by_cases hall : s.data.toList.all plB = true
    · exact ⟨s.size, Nat.le_refl _, fun k h _ => bytesAll hall k h, .inl ⟨rfl, hall⟩⟩
    · obtain ⟨j, hj, hbad, hok⟩ := bytesNot s hall
      exact ⟨j, by omega, fun k _ hk => hok k hk, .inr ⟨hj, hbad, by simpa using hall⟩⟩
  have hR0 : plC s.data.toList = (s.data.toList.all plB && decide (1 ≤ s.size) && !decide ((s.data.toList.getD 0 0).toNat = 45)) := by rw [plC, hl]
  have h0 : ∀ h : 0 < s.size, (s.data.toList.getD 0 0).toNat = s[0].toNat := fun h => by
    have : (0 : Nat) < s.data.toList.length := by rw [hl]; exact h
    rw [List.getD_eq_getElem?_getD, List.getElem?_eq_getElem this]
    rfl
  obtain ⟨A, hA⟩ : ∃ A, s.data.toList.all plB = A := ⟨_, rfl⟩
  obtain ⟨R, hR⟩ : ∃ R, plC s.data.toList = R := ⟨_, rfl⟩
  rw [hR] at hR0 ⊢
  rw [hA] at hR0 hend
  have HA := Lib.hid hok
  have HE := Lib.hid hend
  have HR := Lib.hid hR0
  have H0 := Lib.hid h0
  clear hR hl hok hend hR0 hA h0
  go_enter Tryd.func58, Tryd.ntmps58
  go_wp2
  go_loop [3, 4] (fun i _ => ∃ k : Nat, k ≤ J ∧ i = .int .i64 k) (fun i _ => s.size - (intOf i).toNat)
  case atStart => exact ⟨0, Nat.zero_le _, rfl⟩
  case round =>
    obtain ⟨k, hk, rfl⟩ := hrel
    by_cases hkl : k < s.size
    · have HS := Lib.hid (fun W => rSmall_any s[k] W)
      have hb : plB s[k] = decide (97 ≤ s[k].toNat ∧ s[k].toNat ≤ 122 ∨ 65 ≤ s[k].toNat ∧ s[k].toNat ≤ 90 ∨ 48 ≤ s[k].toNat ∧ s[k].toNat ≤ 57 ∨ s[k].toNat = 95 ∨ s[k].toNat = 45 ∨ s[k].toNat = 46 ∨ s[k].toNat = 47 ∨ s[k].toNat = 58) := rfl
      have hc : bwB s[k] = decide (97 ≤ s[k].toNat ∧ s[k].toNat ≤ 122 ∨ 48 ≤ s[k].toNat ∧ s[k].toNat ≤ 57 ∨ s[k].toNat = 95) := rfl
      have hgood0 : k ≠ J → plB s[k] = true := fun h => HA.out k hkl (by omega)
      have hbad0 : k = J → plB s[k] = false ∧ A = false := fun h => by
        rcases HE.out with ⟨h1, _⟩ | ⟨_, h2, h3⟩
        · omega
        · subst h; exact ⟨h2, h3⟩
      obtain ⟨B, hB⟩ : ∃ B, bwB s[k] = B := ⟨_, rfl⟩
      obtain ⟨P, hP⟩ : ∃ P, plB s[k] = P := ⟨_, rfl⟩
      rw [hB] at HS hc
      rw [hP] at hb hgood0 hbad0
      clear hB hP
      by_cases hkJ : k = J
      · obtain ⟨rfl, rfl⟩ := hbad0 hkJ
        obtain rfl : R = false := by rw [HR.out]; rfl
        have hq : ¬ (97 ≤ s[k].toNat ∧ s[k].toNat ≤ 122 ∨ 65 ≤ s[k].toNat ∧ s[k].toNat ≤ 90 ∨ 48 ≤ s[k].toNat ∧ s[k].toNat ≤ 57 ∨ s[k].toNat = 95 ∨ s[k].toNat = 45 ∨ s[k].toNat = 46 ∨ s[k].toNat = 47 ∨ s[k].toNat = 58) := of_decide_eq_false hb.symm
        obtain rfl : B = false := by rw [hc]; exact decide_eq_false (by omega)
        have f1 : ((s[k].toNat : Int) != 45) = true := bne_iff_ne.2 (by omega)
        have f2 : ((s[k].toNat : Int) != 46) = true := bne_iff_ne.2 (by omega)
        have f3 : ((s[k].toNat : Int) != 47) = true := bne_iff_ne.2 (by omega)
        have f4 : ((s[k].toNat : Int) != 58) = true := bne_iff_ne.2 (by omega)
        have g : s[k].toNat < 65 ∨ ¬ s[k].toNat < 65 ∧ 90 < s[k].toNat := by omega
        clear hq hb hc hgood0 hbad0 hkJ hk
        rcases g with g | ⟨g, g2⟩
        all_goals
          go_wp2_with (go_at_call 73; refine (HS.out _).mono ?_; rintro e w2 ⟨rfl, rfl⟩)
          go_ret
          exact ⟨rfl, rfl⟩
      · obtain rfl := hgood0 hkJ
        have hq : (97 ≤ s[k].toNat ∧ s[k].toNat ≤ 122 ∨ 65 ≤ s[k].toNat ∧ s[k].toNat ≤ 90 ∨ 48 ≤ s[k].toNat ∧ s[k].toNat ≤ 57 ∨ s[k].toNat = 95 ∨ s[k].toNat = 45 ∨ s[k].toNat = 46 ∨ s[k].toNat = 47 ∨ s[k].toNat = 58) := of_decide_eq_true hb.symm
        cases B with
        | true =>
          clear hq hb hc hgood0 hbad0
          go_wp2_with (go_at_call 73; refine (HS.out _).mono ?_; rintro e w2 ⟨rfl, rfl⟩)
          go_round
          case rel => exact ⟨k + 1, by omega, by go_num⟩
          case measure => simp [intOf]; omega
        | false =>
          have hc2 : ¬ (97 ≤ s[k].toNat ∧ s[k].toNat ≤ 122 ∨ 48 ≤ s[k].toNat ∧ s[k].toNat ≤ 57 ∨ s[k].toNat = 95) := of_decide_eq_false hc.symm
          have hq2 : 65 ≤ s[k].toNat ∧ s[k].toNat ≤ 90 ∨ s[k].toNat = 45 ∨ s[k].toNat = 46 ∨ s[k].toNat = 47 ∨ s[k].toNat = 58 := by omega
          clear hq hb hc hgood0 hbad0 hc2
          have g : (¬ s[k].toNat < 65 ∧ ¬ 90 < s[k].toNat) ∨ (s[k].toNat < 65 ∧ ((s[k].toNat : Int) != 45) = false) ∨ (s[k].toNat < 65 ∧ ((s[k].toNat : Int) != 45) = true ∧ ((s[k].toNat : Int) != 46) = false) ∨ (s[k].toNat < 65 ∧ ((s[k].toNat : Int) != 45) = true ∧ ((s[k].toNat : Int) != 46) = true ∧ ((s[k].toNat : Int) != 47) = false) ∨ (s[k].toNat < 65 ∧ ((s[k].toNat : Int) != 45) = true ∧ ((s[k].toNat : Int) != 46) = true ∧ ((s[k].toNat : Int) != 47) = true ∧ ((s[k].toNat : Int) != 58) = false) := by
            rcases hq2 with ⟨h1, h2⟩ | h | h | h | h
            · exact .inl ⟨by omega, by omega⟩
            · exact .inr (.inl ⟨by omega, by rw [h]; rfl⟩)
            · exact .inr (.inr (.inl ⟨by omega, by rw [h]; rfl, by rw [h]; rfl⟩))
            · exact .inr (.inr (.inr (.inl ⟨by omega, by rw [h]; rfl, by rw [h]; rfl, by rw [h]; rfl⟩)))
            · exact .inr (.inr (.inr (.inr ⟨by omega, by rw [h]; rfl, by rw [h]; rfl, by rw [h]; rfl, by rw [h]; rfl⟩)))
          clear hq2
          rcases g with ⟨g1, g2⟩ | ⟨g1, g2⟩ | ⟨g1, g2, g3⟩ | ⟨g1, g2, g3, g4⟩ | ⟨g1, g2, g3, g4, g5⟩
          all_goals
            go_wp2_with (go_at_call 73; refine (HS.out _).mono ?_; rintro e w2 ⟨rfl, rfl⟩)
            go_round
            case rel => exact ⟨k + 1, by omega, by go_num⟩
            case measure => simp [intOf]; omega
    · rcases HE.out with ⟨_, rfl⟩ | ⟨h, _⟩
      · by_cases hz : 0 < s.size
        · have h45 := H0.out hz
          obtain ⟨U, hU⟩ : ∃ U, decide (s[0].toNat = 45) = U := ⟨_, rfl⟩
          have hRU : R = !U := by rw [HR.out, h45, hU, decide_eq_true (by omega)]; rfl
          have hn45 : ((s[0].toNat : Int) != 45) = !U := by
            rw [← hU]
            by_cases h : s[0].toNat = 45
            · rw [h]; rfl
            · rw [decide_eq_false h, bne_iff_ne.2 (by omega)]; rfl
          have HRU := Lib.hid hRU
          clear hRU h45 hU
          cases U
          all_goals
            go_wp2
            go_ret
            exact ⟨by rw [HRU.out]; try rfl, rfl⟩
        · obtain rfl : R = false := by rw [HR.out, decide_eq_false (by omega)]; simp
          go_wp2
          go_ret
          exact ⟨rfl, rfl⟩
      · omega

set_option maxHeartbeats 1600000 in
set_option maxRecDepth 100000 in
theorem rQuote_any (s : ByteArray) (w : World) (hs : s.size ≤ 1000000) :
    Calls Tryd.prog 36 #[.string s] w (StrB (wordT s) w) := by
  have hpl := fun W => rPlain_any s W (by unfold maxLen; omega)
  by_cases hpc : plC s.data.toList = true
  · rw [hpc] at hpl
    rw [wordT, if_pos hpc]
    have HP := Lib.hid hpl
    clear hpl hpc
    go_enter Tryd.func36, Tryd.ntmps36
    go_wp2_with (go_at_call 58; refine (HP.out _).mono ?_; rintro e w2 ⟨rfl, rfl⟩)
    go_ret
    exact ⟨rfl, Below.refl _ _⟩
  rw [wordT, if_neg hpc]
  rw [Bool.not_eq_true] at hpc
  rw [hpc] at hpl
  have HP := Lib.hid hpl
  clear hpl hpc
  obtain ⟨i0, hi, hz0, hz1, hz2⟩ := info_partsQ Tryd.infoQ
  have hown1 := OwnB.made 5 w [34] (by simp)
  have hb1 : Below w.heap.size w (w.alloc (.cells (bytesV [34]).toArray 5)) := (Below.refl _ _).alloc (Nat.le_refl _) _
  have hz1' := hb1.size
  go_enter Tryd.func36, Tryd.ntmps36
  go_wp2_with (go_at_call 58; refine (HP.out _).mono ?_; rintro e w2 ⟨rfl, rfl⟩)
  go_loopw [3, 4] (fun u i wr => ∃ k : Nat, k ≤ s.size ∧ i = .int .i64 k ∧ OwnB 5 wr w.heap.size u ([34] ++ quoteL (s.data.toList.take k)) ∧ Below w.heap.size w wr ∧ w.heap.size ≤ wr.heap.size) (fun _ i _ => s.size - (intOf i).toNat)
  case atStart => exact ⟨0, Nat.zero_le _, rfl, by rw [show ([34] ++ quoteL (s.data.toList.take 0) : List UInt8) = [34] by simp [quoteL]]; exact hown1, hb1, hz1'⟩
  case round =>
    clear hown1 hb1 hz1'
    obtain ⟨k, hk, rfl, hown, hb, hz⟩ := hrel
    have hql := quoteL_len (s.data.toList.take k)
    have htl : (s.data.toList.take k).length ≤ k := List.length_take_le _ _
    have hlen : ([34] ++ quoteL (s.data.toList.take k)).length ≤ 4000000 := by simp only [List.length_append, List.length_cons, List.length_nil]; omega
    by_cases hks : k < s.size
    · have hq := quoteL_take s k hks
      obtain ⟨L, hL⟩ : ∃ L, [34] ++ quoteL (s.data.toList.take k) = L := ⟨_, rfl⟩
      rw [hL] at hown hlen
      by_cases h34 : s[k] = 34 ∨ s[k] = 92
      · rw [if_pos h34] at hq
        have h34b : s[k].toNat = 34 ∨ s[k].toNat = 92 := by rw [is34_iff, is92_iff] at h34; exact h34
        have HQ : Hid (L ++ [92] ++ [s[k]] = [34] ++ quoteL (s.data.toList.take (k + 1))) := Lib.hid (by rw [hq, ← hL]; simp)
        clear hq h34 hql htl hL
        have t1 : ((s[k].toNat : Int) == 34) = true ∨ ((s[k].toNat : Int) == 34) = false ∧ ((s[k].toNat : Int) == 92) = true := by
          rcases h34b with h | h
          · exact .inl (by rw [beq_iff_eq]; omega)
          · exact .inr ⟨by rw [beq_eq_false_iff_ne]; omega, by rw [beq_iff_eq]; omega⟩
        clear h34b
        rcases t1 with t1 | ⟨t1, t2⟩
        all_goals
          go_wp2_with (at_builtin; refine (wpList_pushB wr rfl _ _ 48 rfl w.heap.size 5 i0 (.int .u8 0) Tryd.underlying48 hi hz0 hz1 hz2 rfl _ L [92] rfl (by assumption) [.int .u8 92] 1 rfl rfl rfl (by simp; omega) (by assumption) ?_))
          intro v2 w2 hown2 hg2
          have hb2 : Below w.heap.size w w2 := hown.grown hb hz hg2
          have hz2' := Nat.le_trans hz hg2.size
          have hlen2 : (L ++ [92]).length ≤ 4000001 := by simp; omega
          clear hown hg2 hb hz
          go_wp2_with (at_builtin; refine (wpList_pushB w2 rfl _ _ 48 rfl w.heap.size 5 i0 (.int .u8 0) Tryd.underlying48 hi hz0 hz1 hz2 rfl _ (L ++ [92]) [s[k]] rfl (by assumption) [.int .u8 (s[k].toNat : Int)] 1 rfl rfl rfl (by simp; omega) (by assumption) ?_))
          intro v3 w3 hown3 hg3
          have hb3 : Below w.heap.size w w3 := hown2.grown hb2 hz2' hg3
          have hz3' := Nat.le_trans hz2' hg3.size
          clear hown2 hg3 hb2 hz2'
          go_wp2
          go_roundw
          case rel => exact ⟨k + 1, by omega, by go_num, by rw [← HQ.out]; simpa using hown3, hb3, hz3'⟩
          case measure => simp [intOf]; omega
      · rw [if_neg h34] at hq
        rw [is34_iff, is92_iff] at h34
        have t1 : ((s[k].toNat : Int) == 34) = false := by rw [beq_eq_false_iff_ne]; omega
        have t2 : ((s[k].toNat : Int) == 92) = false := by rw [beq_eq_false_iff_ne]; omega
        have HQ : Hid (L ++ [s[k]] = [34] ++ quoteL (s.data.toList.take (k + 1))) := Lib.hid (by rw [hq, ← hL]; simp)
        clear hq h34 hql htl hL
        go_wp2_with (at_builtin; refine (wpList_pushB wr rfl _ _ 48 rfl w.heap.size 5 i0 (.int .u8 0) Tryd.underlying48 hi hz0 hz1 hz2 rfl _ L [s[k]] rfl (by assumption) [.int .u8 (s[k].toNat : Int)] 1 rfl rfl rfl (by simp; omega) (by assumption) ?_))
        intro v3 w3 hown3 hg3
        have hb3 : Below w.heap.size w w3 := hown.grown hb hz hg3
        have hz3' := Nat.le_trans hz hg3.size
        clear hown hg3 hb hz
        go_wp2
        go_roundw
        case rel => exact ⟨k + 1, by omega, by go_num, by rw [← HQ.out]; exact hown3, hb3, hz3'⟩
        case measure => simp [intOf]; omega
    · have hq : s.data.toList.take k = s.data.toList := List.take_of_length_le (by simp; omega)
      obtain ⟨L, hL⟩ : ∃ L, [34] ++ quoteL (s.data.toList.take k) = L := ⟨_, rfl⟩
      rw [hL] at hown hlen
      have HQ : Hid (L ++ [34] = 34 :: (quoteL s.data.toList ++ [34])) := Lib.hid (by rw [← hL, hq]; simp)
      clear hq hL hql htl
      go_wp2_with (at_builtin; refine (wpList_pushB wr rfl _ _ 48 rfl w.heap.size 5 i0 (.int .u8 0) Tryd.underlying48 hi hz0 hz1 hz2 rfl _ L [34] rfl (by assumption) [.int .u8 34] 1 rfl rfl rfl (by simp; omega) (by assumption) ?_))
      intro v3 w3 hown3 hg3
      have hb3 : Below w.heap.size w w3 := hown.grown hb hz hg3
      have hst := OwnB.str hown3 Tryd.underlying48 Tryd.underlying5 Tryd.underlying9
      clear hown hg3 hb hz hown3
      go_wp2
      go_ret
      exact ⟨by rw [HQ.out]; rfl, hb3⟩
end Go.Proofs.YtolbhhokpelchaaDoor
