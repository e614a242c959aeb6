/- The contracts of the document's own Name, has, May and Right of layer 5. -/
import Derived.Test.YtolbhhokpelchaaDoorMg1
import Derived.Test.YtolbhhokpelchaaDoorOutF
import Derived.Test.YtolbhhokpelchaaDoorMg5
import Derived.Deep.CutBlock
import Derived.IntWalk
import Derived.Test.YtolbhhokpelchaaDoorOutC
import Derived.Test.YtolbhhokpelchaaDoorInfo
import Derived.Test.YtolbhhokpelchaaDoorLib2
import Derived.BigQuiet
import Derived.Deep.QuietTactic
import Derived.ProofKit
import Derived.Test.YtolbhhokpelchaaDoorLikN
namespace Go.Proofs.YtolbhhokpelchaaDoor
open Go.RowKit

set_option maxHeartbeats 1600000 in
theorem rHasN_any (a : Option Addr) (c : Nat) (ss : List ByteArray) (x : ByteArray) (w : World) (h : HasStrs w a c ss) : Calls Tryd.prog 57 #[.slice a ss.length c, .string x] w (BoolS (memB x ss) w) := by
  obtain ⟨h1, h2, h3, h4⟩ := h
  unfold maxLen at h2
  rcases h4 with rfl | ⟨b, off, rfl, hb, hcell⟩
  · go_enter Tryd.func57, Tryd.ntmps57
    go_wp2
    refine wp_loop_rounds 1 ?_
    rw [rounds_succ]
    go_wp2
    go_ret
    exact ⟨rfl, rfl⟩
  obtain ⟨J, hJ, hok, hend⟩ := seek_end ss x
  have HC := Lib.hid hcell
  have HOK := Lib.hid hok
  have HE := Lib.hid hend
  clear hcell h3 hok hend
  go_enter Tryd.func57, Tryd.ntmps57
  go_wp2
  go_loop [9, 6] (fun i _ => ∃ k : Nat, k ≤ J ∧ i = .int .i64 k) (fun i _ => ss.length - (intOf i).toNat)
  case atStart => exact ⟨0, Nat.zero_le _, rfl⟩
  case round =>
    obtain ⟨k, hk, rfl⟩ := hrel
    by_cases hkl : k < ss.length
    · have hc1 := HC.out k hkl
      by_cases hkJ : k = J
      · rcases HE.out with ⟨he, _⟩ | ⟨hj, hq1, hq2, _, hq3⟩
        · omega
        · subst hkJ
          have H3 := Lib.hid hq3
          clear hq3
          go_wp2
          go_ret
          exact ⟨by rw [H3.out]; rfl, rfl⟩
      · obtain ⟨q1, q2⟩ := HOK.out k (by omega) hkl
        go_wp2
        go_round
        case rel => exact ⟨k + 1, by omega, by go_num⟩
        case measure => simp [intOf]; omega
    · rcases HE.out with ⟨_, _, hq⟩ | ⟨hj, _⟩
      · have H3 := Lib.hid hq
        clear hq
        go_wp2
        go_ret
        exact ⟨by rw [H3.out]; rfl, rfl⟩
      · omega

set_option maxHeartbeats 1600000 in
theorem rNameN_any (s : ByteArray) (w : World) (hs : s.size ≤ maxLen) : Calls Tryd.prog 56 #[.string s] w (BoolS (bwC s.data.toList) w) := by
  unfold maxLen at hs
  have hl := lenB s
  obtain ⟨J, hJ, hok, hend⟩ : ∃ J, J ≤ s.size ∧ (∀ k (h : k < s.size), k < J → bwB s[k] = true) ∧ (J = s.size ∧ bwC s.data.toList = (decide (0 < s.size) && decide (s.size ≤ 64)) ∨ ∃ h : J < s.size, bwB s[J] = false ∧ bwC s.data.toList = false) := by
    by_cases hall : s.data.toList.all bwB = true
    · exact ⟨s.size, Nat.le_refl _, fun k h _ => bytesAll hall k h, .inl ⟨rfl, by unfold bwC; rw [hl, hall]; simp; rfl⟩⟩
    · obtain ⟨j, hj, hbad, hok⟩ := bytesNot s hall
      exact ⟨j, by omega, fun k _ hk => hok k hk, .inr ⟨hj, hbad, by unfold bwC; simp only [Bool.not_eq_true] at hall; rw [hall]; simp⟩⟩
  obtain ⟨R, hR⟩ : ∃ R, bwC s.data.toList = R := ⟨_, rfl⟩
  rw [hR] at hend ⊢
  have HA := Lib.hid hok
  have HE := Lib.hid hend
  clear hR hl hok hend
  go_enter Tryd.func56, Tryd.ntmps56
  go_wp2
  go_loop [3] (fun i => ∃ k : Nat, k ≤ J ∧ i = .int .i64 k) (fun i => s.size - (intOf i).toNat)
  case atStart => exact ⟨0, Nat.zero_le _, rfl⟩
  case round =>
    obtain ⟨k, hk, rfl⟩ := hrel
    by_cases hkl : k < s.size
    · have HS := Lib.hid (fun W => rSmall_any s[k] W)
      have hgood := fun h : k < J => HA.out k hkl h
      have hbad := fun h : k = J => (show bwB s[k] = false ∧ R = false by
        rcases HE.out with ⟨h1, _⟩ | ⟨_, h2, h3⟩
        · omega
        · subst h; exact ⟨h2, h3⟩)
      obtain ⟨B, hB⟩ : ∃ B, bwB s[k] = B := ⟨_, rfl⟩
      rw [hB] at HS hgood hbad
      clear hB
      by_cases hkJ : k = J
      · obtain ⟨rfl, rfl⟩ := hbad hkJ
        clear hkJ hk hgood hbad
        go_wp2_with (go_at_call 73; refine (HS.out _).mono ?_; rintro e w2 ⟨rfl, rfl⟩)
        go_ret
        exact ⟨rfl, rfl⟩
      · obtain rfl := hgood (by omega)
        clear hgood hbad
        go_wp2_with (go_at_call 73; refine (HS.out _).mono ?_; rintro e w2 ⟨rfl, rfl⟩)
        go_round
        case rel => exact ⟨k + 1, by omega, by go_num⟩
        case measure => simp [intOf]; omega
    · rcases HE.out with ⟨_, hR⟩ | ⟨h, _⟩
      · by_cases h0 : 0 < s.size
        · have hd : decide ((s.size : Int) ≤ 64) = R := by rw [hR, decide_eq_true h0, Bool.true_and]; exact decide_eq_decide.2 (by omega)
          have hd2 : decide (s.size ≤ 64) = R := by rw [hR, decide_eq_true h0, Bool.true_and]
          have h1 : decide ((0 : Int) < (s.size : Int)) = true := decide_eq_true (by omega)
          have h2 : decide (0 < s.size) = true := decide_eq_true h0
          clear hR
          go_wp2
          go_ret
          exact ⟨rfl, rfl⟩
        · obtain rfl : R = false := by rw [hR, decide_eq_false h0]; rfl
          have h1 : decide ((0 : Int) < (s.size : Int)) = false := decide_eq_false (by omega)
          have h2 : decide (0 < s.size) = false := decide_eq_false h0
          clear hR
          go_wp2
          go_ret
          exact ⟨rfl, rfl⟩
      · omega
theorem partsC_bounds {n : Nd} (h : partsC n = true) : 1 ≤ n.kind ∧ n.kind ≤ 3 ∧ n.items.length ≤ 64 := by
  have := partsC_items h
  simp only [partsC, Bool.or_eq_true, Bool.and_eq_true, decide_eq_true_eq] at h
  rcases h with (⟨h, _⟩ | ⟨h, _⟩) | ⟨h, _⟩ <;> omega
theorem partsC_one {n : Nd} (h : n.kind = 1) : partsC n = (owC n.word.data.toList && decide (n.names.length + n.items.length = 0)) := by
  have e : decide (n.names.length + n.items.length = 0) = (decide (n.names.length = 0) && decide (n.items.length = 0)) := by
    rw [Bool.eq_iff_iff]
    simp only [Bool.and_eq_true, decide_eq_true_eq]
    omega
  rw [e]
  simp [partsC, h, Bool.and_assoc]
theorem partsC_two {n : Nd} (h1 : n.kind ≠ 1) (h2 : 1 ≤ n.kind) (h3 : n.kind ≤ 3) (h4 : n.items.length ≤ 64) :
    partsC n = ((!decide (n.word ≠ ⟨#[]⟩) && !(decide (n.kind = 2) && decide (0 < n.names.length)) && !(decide (n.kind = 3) && decide (n.names.length ≠ n.items.length))) && namesC n.names) := by
  have he : ({ data := #[] } : ByteArray) = .empty := rfl
  rcases (show n.kind = 2 ∨ n.kind = 3 by omega) with h | h
  · by_cases hn : n.names.length = 0
    · have : namesC n.names = true := by rw [List.eq_nil_of_length_eq_zero hn]; decide +kernel
      simp [partsC, h, h4, hn, this, he]
    · have h0 : 0 < n.names.length := by omega
      have hne : n.names ≠ [] := fun e => hn (by rw [e]; rfl)
      simp [partsC, h, h4, h0, hne]
  · by_cases hn : n.names.length = n.items.length
    · simp [partsC, h, hn, he]
    · simp [partsC, h, hn]

set_option maxHeartbeats 12800000 in
set_option maxRecDepth 100000 in
theorem rMay_any (d : Nat) : ∀ (q : NdAt) (w : World), d ≤ 8 → q.ok w → Calls Tryd.prog 33 #[.agg (nCells q), .int .i64 (d : Int)] w (BoolW (rightD d q.n) w) := by
  induction d with
  | zero =>
    intro q w _ h
    go_enter Tryd.func33, Tryd.ntmps33
    go_wp2_with fail
    go_ret
    exact ⟨rfl, (Below.refl _ _).alloc (Nat.le_refl _) _⟩
  | succ d ih =>
    intro q w hd h
    have hb := (Below.refl w.heap.size w).alloc (Nat.le_refl _) (.cells (nCells q) 25)
    have hB := Blk.new w 25 (nCells q)
    have hok := h.call hb
    have hh := hok.head
    have hic := hh.2.2.2
    have hpl := hok.place
    have hws := hh.2.1
    have hss := hh.1
    have hlm1 := hh.1.1
    have hlm2 := hh.1.2.1
    obtain ⟨R, hR⟩ : ∃ R, rightD (d + 1) q.n = R := ⟨_, rfl⟩
    have hR0 : R = (partsC q.n && q.n.items.all (rightD d)) := by rw [← hR]; rfl
    rw [hR]
    obtain ⟨I, hI, hgood2, hend2⟩ := items_end d q.n.items
    have HB := Lib.hid hb
    have HPL := Lib.hid hpl
    have HR := Lib.hid hR0
    have HG := Lib.hid hgood2
    have HE := Lib.hid hend2
    have HSS := Lib.hid hss
    have HWD := Lib.hid (fun W => rWordN_any q.n.word W hws)
    have hnsz := hss.2.2.1
    have HNS := Lib.hid hnsz
    unfold maxLen at hic hlm2
    obtain ⟨hic1, hic2⟩ := hic
    clear h hb hok hh hpl hR0 hR hgood2 hend2 hss hws hnsz
    obtain ⟨n, na, nc, ia, ic⟩ := q
    simp only [nCells] at *
    have e0 : ((d : Int) + 1 == 0) = false := beq_eq_false_iff_ne.2 (by omega)
    go_enter Tryd.func33, Tryd.ntmps33
    go_upto_region 1 with fail
    generalize w.alloc (.cells #[.int .i64 n.kind, .string n.word, .slice na n.names.length nc, .slice ia n.items.length ic] 25) = wx at *
    obtain ⟨g1, hg1⟩ : ∃ g, w.heap.size = g := ⟨_, rfl⟩
    have HG1 := Lib.hid hg1
    rw [hg1] at hB ⊢
    clear hg1
    obtain ⟨c0, c1, c2, c3⟩ := hB.cells4
    by_cases k1 : n.kind < 1
    case pos =>
      obtain rfl : R = false := by
        rw [HR.out, Bool.and_eq_false_iff]
        left
        rw [← Bool.not_eq_true]
        exact fun h => by have := partsC_bounds h; omega
      go_wp2_with fail
      go_ret
      exact ⟨rfl, HB.out⟩
    by_cases k3 : 3 < n.kind
    case pos =>
      obtain rfl : R = false := by
        rw [HR.out, Bool.and_eq_false_iff]
        left
        rw [← Bool.not_eq_true]
        exact fun h => by have := partsC_bounds h; omega
      go_wp2_with fail
      go_ret
      exact ⟨rfl, HB.out⟩
    by_cases l64 : n.items.length ≤ 64
    case neg =>
      have f64 : decide ((64 : Int) < (n.items.length : Int)) = true := decide_eq_true (by omega)
      have f64' : decide (64 < n.items.length) = true := decide_eq_true (by omega)
      obtain rfl : R = false := by
        rw [HR.out, Bool.and_eq_false_iff]
        left
        rw [← Bool.not_eq_true]
        exact fun h => by have := partsC_bounds h; omega
      clear l64
      go_wp2_with fail
      go_ret
      exact ⟨rfl, HB.out⟩
    have f64 : decide ((64 : Int) < (n.items.length : Int)) = false := decide_eq_false (by omega)
    have f64' : decide (64 < n.items.length) = false := decide_eq_false (by omega)
    by_cases hk1 : n.kind = 1
    case pos =>
      have t1 : (n.kind == 1) = true := by rw [hk1]; rfl
      have hp := partsC_one hk1
      rw [hp] at HR
      obtain ⟨A, hA⟩ : ∃ A, owC n.word.data.toList = A := ⟨_, rfl⟩
      obtain ⟨Z, hZ⟩ : ∃ Z, decide (n.names.length + n.items.length = 0) = Z := ⟨_, rfl⟩
      have hz1 : ((n.names.length : Int) + (n.items.length : Int) == 0) = Z := by
        rw [← hZ]
        by_cases h : n.names.length + n.items.length = 0
        · rw [decide_eq_true h, beq_iff_eq]; omega
        · rw [decide_eq_false h, beq_eq_false_iff_ne]; omega
      have hw1 : IntKind.i64.wrap ((n.names.length : Int) + (n.items.length : Int)) = (n.names.length : Int) + (n.items.length : Int) ∨ True := .inr trivial
      rw [hA] at HWD HR
      rw [hZ] at HR
      have hRz : A = true → Z = true → R = true := fun h1 h2 => by
        rw [HR.out, h1, h2]
        have : n.items = [] := List.eq_nil_of_length_eq_zero (by rw [h2] at hZ; have := of_decide_eq_true hZ; omega)
        rw [this]
        rfl
      have hRz2 : A = false → R = false := fun h1 => by rw [HR.out, h1]; rfl
      have hRz3 : Z = false → R = false := fun h1 => by rw [HR.out, h1]; simp
      cases A with
      | false =>
        obtain rfl := hRz2 rfl
        clear hRz hRz3 hZ hp hk1 hw1
        go_wp2_with (go_at_call 26; refine (HWD.out _).mono ?_; rintro e w2 ⟨rfl, rfl⟩)
        go_ret
        exact ⟨rfl, HB.out⟩
      | true =>
        by_cases hbig : n.names.length + n.items.length ≤ 9223372036854775807
        · have hw2 : wrap64 ((n.names.length : Int) + (n.items.length : Int)) = (n.names.length : Int) + (n.items.length : Int) := by unfold wrap64; omega
          have hw3 : IntKind.i64.wrap ((n.names.length : Int) + (n.items.length : Int)) = (n.names.length : Int) + (n.items.length : Int) := IntWalk.i64_in _ (by omega)
          cases Z with
          | false =>
            obtain rfl := hRz3 rfl
            clear hRz hRz2 hZ hp hk1 hw1 hbig
            go_wp2_with (go_at_call 26; refine (HWD.out _).mono ?_; rintro e w2 ⟨rfl, rfl⟩)
            go_ret
            exact ⟨rfl, HB.out⟩
          | true =>
            obtain rfl := hRz rfl rfl
            clear hRz2 hRz3 hZ hp hk1 hw1 hbig
            go_wp2_with (go_at_call 26; refine (HWD.out _).mono ?_; rintro e w2 ⟨rfl, rfl⟩)
            go_ret
            exact ⟨rfl, HB.out⟩
        · obtain rfl : Z = false := by rw [← hZ]; exact decide_eq_false (by omega)
          obtain rfl := hRz3 rfl
          have hw2 : (wrap64 ((n.names.length : Int) + (n.items.length : Int)) == 0) = false := by
            rw [beq_eq_false_iff_ne]
            unfold wrap64
            omega
          have hw3 : (IntKind.i64.wrap ((n.names.length : Int) + (n.items.length : Int)) == 0) = false := by
            rw [beq_eq_false_iff_ne, IntKind.wrap_i64]
            omega
          clear hRz hRz2 hZ hp hk1 hw1 hbig hz1
          go_wp2_with (go_at_call 26; refine (HWD.out _).mono ?_; rintro e w2 ⟨rfl, rfl⟩)
          go_ret
          exact ⟨rfl, HB.out⟩
    case neg =>
    have t1 : (n.kind == 1) = false := beq_eq_false_iff_ne.2 hk1
    have hp := partsC_two hk1 (by omega) (by omega) l64
    rw [hp] at HR
    have he := emptyB n.word
    have hee : decide (n.word ≠ ⟨#[]⟩) = !decide (n.word = .empty) := by rw [show ({ data := #[] } : ByteArray) = .empty from rfl]; simp
    rw [hee] at HR
    obtain ⟨E, hE⟩ : ∃ E, decide (n.word = .empty) = E := ⟨_, rfl⟩
    rw [hE] at he HR
    clear hp hee hE HWD
    cases E with
    | false =>
      obtain rfl : R = false := by rw [HR.out]; rfl
      clear HR
      go_wp2_with fail
      go_ret
      exact ⟨rfl, HB.out⟩
    | true =>
    by_cases hk2 : n.kind = 2
    case pos =>
      have t2 : (n.kind == 2) = true := by rw [hk2]; rfl
      have t3 : (n.kind == 3) = false := by rw [hk2]; rfl
      by_cases hn0 : 0 < n.names.length
      case pos =>
        have n0 : decide ((0 : Int) < (n.names.length : Int)) = true := decide_eq_true (by omega)
        have n0' : decide (0 < n.names.length) = true := decide_eq_true hn0
        obtain rfl : R = false := by rw [HR.out, decide_eq_true hk2, n0']; rfl
        clear HR hk2 hk1 hn0
        go_wp2_with fail
        go_ret
        exact ⟨rfl, HB.out⟩
      case neg =>
        have n0 : decide ((0 : Int) < (n.names.length : Int)) = false := decide_eq_false (by omega)
        have n0' : decide (0 < n.names.length) = false := decide_eq_false hn0
        have HR2 : Hid (R = (namesC n.names && n.items.all (rightD d))) := Lib.hid (by rw [HR.out, n0', decide_eq_false (show ¬ n.kind = 3 by omega)]; simp)
        obtain ⟨J, hJ, hgj, hej⟩ := names_end n.names (by omega)
        have HGJ := Lib.hid hgj
        have HEJ := Lib.hid hej
        clear HR hk2 hk1 hn0 hgj hej

        go_upto_region 7 with fail
        clear e0 f64 f64' t1
        go_wp2_with fail
        go_loopg [74, 5, 6] n.names.length (fun gg iv _ _ wr => ∃ k : Nat, k + gg = n.names.length ∧ k ≤ J ∧ iv = .int .i64 k ∧ wx = wr)
        case atStart => exact ⟨0, by omega, Nat.zero_le _, rfl, rfl⟩
        case round =>
          obtain ⟨k, hkg, hkJ, rfl, rfl⟩ := hrel
          cases gk with
          | zero =>
            have hnc : namesC n.names = true := by
              rcases HEJ.out with ⟨_, h⟩ | ⟨h, _, _⟩
              · exact h
              · omega
            have HR3 : Hid (R = n.items.all (rightD d)) := Lib.hid (by rw [HR2.out, hnc]; rfl)
            obtain rfl : k = n.names.length := by omega
            clear hnc hkJ hkg
            go_wp2_with fail
            go_loopg [94, 8] n.items.length (fun gg iv _ wr => ∃ k : Nat, k + gg = n.items.length ∧ k ≤ I ∧ iv = .int .i64 k ∧ Below wx.heap.size wx wr)
            case atStart => exact ⟨0, by omega, Nat.zero_le _, rfl, Below.refl _ _⟩
            case round =>
              obtain ⟨k, hkg, hkI, rfl, hbr⟩ := hrel
              cases gk with
              | zero =>
                obtain rfl : R = true := by
                  rcases HE.out with ⟨_, h⟩ | ⟨h, _⟩
                  · rw [HR3.out, h]
                  · omega
                go_wp2_with fail
                go_ret
                exact ⟨rfl, bthen HB.out hbr⟩
              | succ gg =>
                have hkl : k < n.items.length := by omega
                obtain ⟨b1, o1, rfl, r, hrn, hrl, hro⟩ : ∃ b off, ia = some ⟨b, off, none⟩ ∧ ∃ r : NdAt, r.n = n.items[k] ∧ r.lies wx b (off + k * 4) ∧ r.ok wx := by
                  rcases HPL.out with h | ⟨b, off, h1, _, h3⟩
                  · rw [h] at hkl; simp at hkl
                  · exact ⟨b, off, h1, h3 k hkl⟩
                obtain ⟨e0, e1, e2, e3⟩ := hrl.call hbr
                have hro' := hro.call hbr
                have hbn := (Below.refl wr.heap.size wr).alloc (Nat.le_refl _) (.cells (nCells r) 25)
                have hih := ih r _ (by omega) (hro'.call hbn)
                obtain ⟨X, hX⟩ : ∃ X, rightD d r.n = X := ⟨_, rfl⟩
                have hXJ : X = rightD d n.items[k] := by rw [← hX, hrn]
                rw [hX] at hih
                obtain ⟨f0, f1, f2, f3⟩ := (Blk.new wr 25 (nCells r)).cells4
                have HIH := Lib.hid hih
                have HX := Lib.hid hXJ
                have HBN := Lib.hid hbn
                clear hX hrn hrl hro hro' hih hXJ hbn
                obtain ⟨m, ma, mc, ja, jc⟩ := r
                simp only [nCells] at *
                by_cases hkI2 : k = I
                · subst hkI2
                  rcases HE.out with ⟨h, _⟩ | ⟨_, hbad, hR⟩
                  · omega
                  · obtain rfl : R = false := by rw [HR3.out, hR]
                    obtain rfl : X = false := by rw [HX.out, hbad]
                    go_wp2_with (go_at_call 33; refine HIH.out.mono ?_; rintro e w3 ⟨rfl, hb3⟩)
                    go_ret
                    exact ⟨rfl, bthen HB.out (bthen hbr (bthen HBN.out hb3))⟩
                · obtain rfl : X = true := by rw [HX.out, HG.out k hkl (by omega)]
                  go_wp2_with (go_at_call 33; refine HIH.out.mono ?_; rintro e w3 ⟨rfl, hb3⟩)
                  go_roundg gg
                  case measure => omega
                  case rel => exact ⟨k + 1, by omega, by omega, by go_num, bthen hbr (bthen HBN.out hb3)⟩
          | succ gg =>
            have hkl : k < n.names.length := by omega
            obtain ⟨b2, o2, rfl⟩ : ∃ b off, na = some ⟨b, off, none⟩ := by
              rcases HSS.out.2.2.2 with h | ⟨b, off, h, _, _⟩
              · rw [h] at hkl; simp at hkl
              · exact ⟨b, off, h⟩
            have x1 := HSS.out.atN k hkl
            have hsz := HNS.out n.names[k] (List.getElem_mem hkl)
            have HNMK := Lib.hid (fun W => rNameN_any n.names[k] W hsz)
            have hhas := rHasN_any (some ⟨b2, o2, none⟩) nc (n.names.take k) n.names[k] wx (hasStrs_take HSS.out k (by omega))
            rw [show (n.names.take k).length = k by rw [List.length_take]; omega] at hhas
            have hon := onK_at n.names k hkl
            have hgd := fun h : k < J => HGJ.out k h
            have hbd := fun h : k = J => (show onK n.names k = false ∧ namesC n.names = false by
              rcases HEJ.out with ⟨h1, _⟩ | ⟨_, h2, h3⟩
              · omega
              · subst h; exact ⟨h2, h3⟩)
            obtain ⟨BW, hBW⟩ : ∃ B, bwC n.names[k].data.toList = B := ⟨_, rfl⟩
            obtain ⟨MB, hMB⟩ : ∃ B, memB n.names[k] (n.names.take k) = B := ⟨_, rfl⟩
            rw [hBW] at HNMK hon
            rw [hMB] at hhas hon
            have HHAS := Lib.hid hhas
            have HONK := Lib.hid hon
            generalize n.names[k] = s at *
            clear hBW hMB hhas hsz hon
            by_cases hkJ2 : k = J
            · obtain ⟨h1, h2⟩ := hbd hkJ2
              obtain rfl : R = false := by rw [HR2.out, h2]; rfl
              rw [HONK.out] at h1
              clear hgd hbd hkJ2 hkJ h2
              cases BW with
              | false =>
                clear h1
                go_wp2_with (go_at_call 56; refine (HNMK.out _).mono ?_; rintro e w2 ⟨rfl, rfl⟩)
                go_ret
                exact ⟨rfl, HB.out⟩
              | true =>
                obtain rfl : MB = true := by simpa using h1
                clear h1
                go_wp2_with (first
                  | (go_at_call 56; refine (HNMK.out _).mono ?_; rintro e w2 ⟨rfl, rfl⟩)
                  | (go_at_call 57; refine HHAS.out.mono ?_; rintro e w3 ⟨rfl, rfl⟩))
                go_ret
                exact ⟨rfl, HB.out⟩
            · have h1 := hgd (by omega)
              rw [HONK.out, Bool.and_eq_true] at h1
              obtain ⟨rfl, h2⟩ := h1
              obtain rfl : MB = false := by simpa using h2
              clear hgd hbd h2
              go_wp2_with (first
                | (go_at_call 56; refine (HNMK.out _).mono ?_; rintro e w2 ⟨rfl, rfl⟩)
                | (go_at_call 57; refine HHAS.out.mono ?_; rintro e w3 ⟨rfl, rfl⟩))
              go_roundg gg
              case measure => omega
              case rel => exact ⟨k + 1, by omega, by omega, by go_num, rfl⟩
    case neg =>
      have hk3 : n.kind = 3 := by omega
      have t2 : (n.kind == 2) = false := beq_eq_false_iff_ne.2 hk2
      have t3 : (n.kind == 3) = true := by rw [hk3]; rfl
      by_cases hne : n.names.length = n.items.length
      case neg =>
        have x0 : ((n.names.length : Int) != (n.items.length : Int)) = true := bne_iff_ne.2 (by omega)
        obtain rfl : R = false := by rw [HR.out, decide_eq_true hk3, decide_eq_true (show n.names.length ≠ n.items.length from hne)]; simp
        clear HR hk2 hk1 hk3 hne
        go_wp2_with fail
        go_ret
        exact ⟨rfl, HB.out⟩
      case pos =>
        have x0 : ((n.names.length : Int) != (n.items.length : Int)) = false := by rw [hne]; simp
        have HR2 : Hid (R = (namesC n.names && n.items.all (rightD d))) := Lib.hid (by rw [HR.out, decide_eq_false hk2, decide_eq_false (show ¬ n.names.length ≠ n.items.length from fun h => h hne)]; simp)
        obtain ⟨J, hJ, hgj, hej⟩ := names_end n.names (by omega)
        have HGJ := Lib.hid hgj
        have HEJ := Lib.hid hej
        have HNE := Lib.hid hne
        have hl64 : n.names.length ≤ 64 := by omega
        clear HR hk2 hk1 hk3 hgj hej hne

        go_upto_region 7 with fail
        clear e0 f64 f64' t1
        go_wp2_with fail
        go_loopg [74, 5, 6] n.names.length (fun gg iv _ _ wr => ∃ k : Nat, k + gg = n.names.length ∧ k ≤ J ∧ iv = .int .i64 k ∧ wx = wr)
        case atStart => exact ⟨0, by omega, Nat.zero_le _, rfl, rfl⟩
        case round =>
          obtain ⟨k, hkg, hkJ, rfl, rfl⟩ := hrel
          cases gk with
          | zero =>
            have hnc : namesC n.names = true := by
              rcases HEJ.out with ⟨_, h⟩ | ⟨h, _, _⟩
              · exact h
              · omega
            have HR3 : Hid (R = n.items.all (rightD d)) := Lib.hid (by rw [HR2.out, hnc]; rfl)
            obtain rfl : k = n.names.length := by omega
            clear hnc hkJ hkg
            go_wp2_with fail
            go_loopg [94, 8] n.items.length (fun gg iv _ wr => ∃ k : Nat, k + gg = n.items.length ∧ k ≤ I ∧ iv = .int .i64 k ∧ Below wx.heap.size wx wr)
            case atStart => exact ⟨0, by omega, Nat.zero_le _, rfl, Below.refl _ _⟩
            case round =>
              obtain ⟨k, hkg, hkI, rfl, hbr⟩ := hrel
              cases gk with
              | zero =>
                obtain rfl : R = true := by
                  rcases HE.out with ⟨_, h⟩ | ⟨h, _⟩
                  · rw [HR3.out, h]
                  · omega
                go_wp2_with fail
                go_ret
                exact ⟨rfl, bthen HB.out hbr⟩
              | succ gg =>
                have hkl : k < n.items.length := by omega
                obtain ⟨b1, o1, rfl, r, hrn, hrl, hro⟩ : ∃ b off, ia = some ⟨b, off, none⟩ ∧ ∃ r : NdAt, r.n = n.items[k] ∧ r.lies wx b (off + k * 4) ∧ r.ok wx := by
                  rcases HPL.out with h | ⟨b, off, h1, _, h3⟩
                  · rw [h] at hkl; simp at hkl
                  · exact ⟨b, off, h1, h3 k hkl⟩
                obtain ⟨e0, e1, e2, e3⟩ := hrl.call hbr
                have hro' := hro.call hbr
                have hbn := (Below.refl wr.heap.size wr).alloc (Nat.le_refl _) (.cells (nCells r) 25)
                have hih := ih r _ (by omega) (hro'.call hbn)
                obtain ⟨X, hX⟩ : ∃ X, rightD d r.n = X := ⟨_, rfl⟩
                have hXJ : X = rightD d n.items[k] := by rw [← hX, hrn]
                rw [hX] at hih
                obtain ⟨f0, f1, f2, f3⟩ := (Blk.new wr 25 (nCells r)).cells4
                have HIH := Lib.hid hih
                have HX := Lib.hid hXJ
                have HBN := Lib.hid hbn
                clear hX hrn hrl hro hro' hih hXJ hbn
                obtain ⟨m, ma, mc, ja, jc⟩ := r
                simp only [nCells] at *
                by_cases hkI2 : k = I
                · subst hkI2
                  rcases HE.out with ⟨h, _⟩ | ⟨_, hbad, hR⟩
                  · omega
                  · obtain rfl : R = false := by rw [HR3.out, hR]
                    obtain rfl : X = false := by rw [HX.out, hbad]
                    go_wp2_with (go_at_call 33; refine HIH.out.mono ?_; rintro e w3 ⟨rfl, hb3⟩)
                    go_ret
                    exact ⟨rfl, bthen HB.out (bthen hbr (bthen HBN.out hb3))⟩
                · obtain rfl : X = true := by rw [HX.out, HG.out k hkl (by omega)]
                  go_wp2_with (go_at_call 33; refine HIH.out.mono ?_; rintro e w3 ⟨rfl, hb3⟩)
                  go_roundg gg
                  case measure => omega
                  case rel => exact ⟨k + 1, by omega, by omega, by go_num, bthen hbr (bthen HBN.out hb3)⟩
          | succ gg =>
            have hkl : k < n.names.length := by omega
            obtain ⟨b2, o2, rfl⟩ : ∃ b off, na = some ⟨b, off, none⟩ := by
              rcases HSS.out.2.2.2 with h | ⟨b, off, h, _, _⟩
              · rw [h] at hkl; simp at hkl
              · exact ⟨b, off, h⟩
            have x1 := HSS.out.atN k hkl
            have hsz := HNS.out n.names[k] (List.getElem_mem hkl)
            have HNMK := Lib.hid (fun W => rNameN_any n.names[k] W hsz)
            have hhas := rHasN_any (some ⟨b2, o2, none⟩) nc (n.names.take k) n.names[k] wx (hasStrs_take HSS.out k (by omega))
            rw [show (n.names.take k).length = k by rw [List.length_take]; omega] at hhas
            have hon := onK_at n.names k hkl
            have hgd := fun h : k < J => HGJ.out k h
            have hbd := fun h : k = J => (show onK n.names k = false ∧ namesC n.names = false by
              rcases HEJ.out with ⟨h1, _⟩ | ⟨_, h2, h3⟩
              · omega
              · subst h; exact ⟨h2, h3⟩)
            obtain ⟨BW, hBW⟩ : ∃ B, bwC n.names[k].data.toList = B := ⟨_, rfl⟩
            obtain ⟨MB, hMB⟩ : ∃ B, memB n.names[k] (n.names.take k) = B := ⟨_, rfl⟩
            rw [hBW] at HNMK hon
            rw [hMB] at hhas hon
            have HHAS := Lib.hid hhas
            have HONK := Lib.hid hon
            generalize n.names[k] = s at *
            clear hBW hMB hhas hsz hon
            by_cases hkJ2 : k = J
            · obtain ⟨h1, h2⟩ := hbd hkJ2
              obtain rfl : R = false := by rw [HR2.out, h2]; rfl
              rw [HONK.out] at h1
              clear hgd hbd hkJ2 hkJ h2
              cases BW with
              | false =>
                clear h1
                go_wp2_with (go_at_call 56; refine (HNMK.out _).mono ?_; rintro e w2 ⟨rfl, rfl⟩)
                go_ret
                exact ⟨rfl, HB.out⟩
              | true =>
                obtain rfl : MB = true := by simpa using h1
                clear h1
                go_wp2_with (first
                  | (go_at_call 56; refine (HNMK.out _).mono ?_; rintro e w2 ⟨rfl, rfl⟩)
                  | (go_at_call 57; refine HHAS.out.mono ?_; rintro e w3 ⟨rfl, rfl⟩))
                go_ret
                exact ⟨rfl, HB.out⟩
            · have h1 := hgd (by omega)
              rw [HONK.out, Bool.and_eq_true] at h1
              obtain ⟨rfl, h2⟩ := h1
              obtain rfl : MB = false := by simpa using h2
              clear hgd hbd h2
              go_wp2_with (first
                | (go_at_call 56; refine (HNMK.out _).mono ?_; rintro e w2 ⟨rfl, rfl⟩)
                | (go_at_call 57; refine HHAS.out.mono ?_; rintro e w3 ⟨rfl, rfl⟩))
              go_roundg gg
              case measure => omega
              case rel => exact ⟨k + 1, by omega, by omega, by go_num, rfl⟩
set_option maxHeartbeats 1600000 in
set_option maxRecDepth 100000 in
theorem rRightN_any (q : NdAt) (w : World) (h : q.ok w) : Calls Tryd.prog 13 #[.agg (nCells q)] w (BoolW (nodeC q.n) w) := by
  have hb := (Below.refl w.heap.size w).alloc (Nat.le_refl _) (.cells (nCells q) 25)
  have hB := Blk.new w 25 (nCells q)
  have hr := rMay_any 8 q _ (Nat.le_refl _) (h.call hb)
  rw [show rightD 8 q.n = nodeC q.n from rfl] at hr
  generalize nodeC q.n = R at *
  have HB := Lib.hid hb
  have HR := Lib.hid hr
  clear hb hr h
  obtain ⟨n, na, nc, ia, ic⟩ := q
  simp only [nCells] at *
  obtain ⟨c0, c1, c2, c3⟩ := hB.cells4
  go_enter Tryd.func13, Tryd.ntmps13
  go_wp2_with (go_at_call 33; refine HR.out.mono ?_; rintro e w2 ⟨rfl, hb2⟩)
  go_ret
  exact ⟨rfl, bthen HB.out hb2⟩
end Go.Proofs.YtolbhhokpelchaaDoor
/- What is told of two rows of texts that are compared. -/
namespace Go.Proofs.YtolbhhokpelchaaDoor
open Go.RowKit

def SamePost (B : Bool) (w : World) (e : Ending) (w' : World) : Prop := e = .returned (.bool B) ∧ Below w.heap.size w w'
end Go.Proofs.YtolbhhokpelchaaDoor
/- The contract of the library's Equal of rows of texts. -/
namespace Go.Proofs.YtolbhhokpelchaaDoor
open Go.RowKit
open Go.WideShapes (bytes_inj)

set_option maxHeartbeats 800000 in
set_option maxRecDepth 100000 in
theorem equalD_some (b off c b' off' c' : Nat) (ss ts : List ByteArray) (w : World) (hlc : ss.length ≤ c) (hcm : c ≤ maxLen) (hlc' : ts.length ≤ c') (_hcm' : c' ≤ maxLen) (hb : b < w.heap.size) (hb' : b' < w.heap.size)
    (hcell : ∀ i (h : i < ss.length), w.cell? ⟨b, off + i, none⟩ = some (.string ss[i])) (hcell' : ∀ i (h : i < ts.length), w.cell? ⟨b', off' + i, none⟩ = some (.string ts[i])) (hl : ss.length = ts.length) :
    Calls Tryd.prog 34 #[.slice (some ⟨b, off, none⟩) ss.length c, .slice (some ⟨b', off', none⟩) ts.length c'] w (SamePost (decide (ss = ts)) w) := by
  unfold maxLen at hcm
  have HC := Lib.hid hcell
  have HC' := Lib.hid hcell'
  have hlen : ((ss.length : Int) != (ts.length : Int)) = false := by rw [hl]; simp
  have hlb : ts.length ≤ ss.length := by omega
  have hlb' : ss.length ≤ ts.length := by omega
  have HL := Lib.hid hl
  clear hcell hcell' hl
  go_enter Tryd.func34, Tryd.ntmps34
  go_wp2
  go_loopw [13] (fun i wr => ∃ k : Nat, k ≤ ss.length ∧ i = .int .i64 k ∧ ss.take k = ts.take k ∧ Below w.heap.size w wr) (fun i _ => ss.length - (intOf i).toNat)
  case atStart => exact ⟨0, Nat.zero_le _, rfl, rfl, Below.refl _ _⟩
  case round =>
    obtain ⟨k, hk, rfl, he, hbl⟩ := hrel
    have HE := Lib.hid he
    clear he
    by_cases hkl : k < ss.length
    · have hc := (hbl.cell (p := ⟨b, off + k, none⟩) hb).trans (HC.out k hkl)
      have hc' := (hbl.cell (p := ⟨b', off' + k, none⟩) hb').trans (HC'.out k (by omega))
      by_cases hq : ss[k] = ts[k]'(by omega)
      · have hq2 : (ss[k].toList == (ts[k]'(by omega)).toList) = true := by rw [hq]; simp
        have htk : ss.take (k + 1) = ts.take (k + 1) := by
          rw [List.take_succ_eq_append_getElem hkl, List.take_succ_eq_append_getElem (by omega), HE.out, hq]
        have HT := Lib.hid htk
        clear htk hq
        go_wp2_with fail
        go_quiet (fail)
        go_wp2
        go_roundw
        case rel => exact ⟨k + 1, by omega, by go_num, HT.out, below_drewN hbl _⟩
        case measure => simp [intOf]; omega
      · have hq2 : (ss[k].toList == (ts[k]'(by omega)).toList) = false := by
          rw [beq_eq_false_iff_ne, ne_eq, ByteArray.toList_eq, ByteArray.toList_eq]
          intro e
          exact hq (bytes_inj e)
        have hf : decide (ss = ts) = false := by
          rw [decide_eq_false_iff_not]
          intro e
          subst e
          exact hq rfl
        have HF := Lib.hid hf
        clear hq hf
        go_wp2_with fail
        go_quiet (fail)
        go_wp2
        go_ret
        rw [HF.out]
        exact ⟨rfl, below_drewN hbl _⟩
    · have ht : decide (ss = ts) = true := by
        have := HE.out
        rw [List.take_of_length_le (by omega), List.take_of_length_le (by omega)] at this
        rw [decide_eq_true_iff]; exact this
      go_wp2
      go_ret
      rw [ht]
      exact ⟨rfl, hbl⟩

theorem equalD_any (a a' : Option Addr) (c c' : Nat) (ss ts : List ByteArray) (w : World) (h : HasStrs w a c ss) (h' : HasStrs w a' c' ts) :
    Calls Tryd.prog 34 #[.slice a ss.length c, .slice a' ts.length c'] w (SamePost (decide (ss = ts)) w) := by
  obtain ⟨h1, h2, h3, h4⟩ := h
  obtain ⟨g1, g2, g3, g4⟩ := h'
  unfold maxLen at h2 g2
  by_cases hl : ss.length = ts.length
  · rcases h4 with rfl | ⟨b, off, rfl, hb, hc⟩
    · obtain rfl : ts = [] := List.eq_nil_of_length_eq_zero hl.symm
      go_enter Tryd.func34, Tryd.ntmps34
      go_wp2
      refine wp_loop_rounds 1 ?_
      rw [rounds_succ]
      go_wp2
      go_ret
      exact ⟨rfl, Below.refl _ _⟩
    · rcases g4 with rfl | ⟨b', off', rfl, hb', hc'⟩
      · obtain rfl : ss = [] := List.eq_nil_of_length_eq_zero hl
        go_enter Tryd.func34, Tryd.ntmps34
        go_wp2
        refine wp_loop_rounds 1 ?_
        rw [rounds_succ]
        go_wp2
        go_ret
        exact ⟨rfl, Below.refl _ _⟩
      · exact equalD_some b off c b' off' c' ss ts w h1 (by unfold maxLen; omega) g1 (by unfold maxLen; omega) hb hb' hc hc' hl
  · have hlen : ((ss.length : Int) != (ts.length : Int)) = true := by rw [bne_iff_ne]; omega
    have hf : decide (ss = ts) = false := by
      rw [decide_eq_false_iff_not]
      intro e
      exact hl (by rw [e])
    rw [hf]
    clear hl hf h3 h4 g3 g4
    go_enter Tryd.func34, Tryd.ntmps34
    go_wp2
    go_ret
    exact ⟨rfl, Below.refl _ _⟩
end Go.Proofs.YtolbhhokpelchaaDoor
/- The contracts of outline.Like and of slices.EqualFunc around it. -/

namespace Go.Proofs.YtolbhhokpelchaaDoor
open Go.RowKit

noncomputable def likeL (xs ys : List Nd) : Bool := @decide (xs = ys) (Classical.propDecidable _)
theorem likeL_yes {xs ys : List Nd} (h : xs = ys) : likeL xs ys = true := by unfold likeL; simp [h]
theorem likeL_no {xs ys : List Nd} (h : xs ≠ ys) : likeL xs ys = false := by unfold likeL; simp [h]
theorem below_al2 {w W : World} {o : Obj} (h : Below w.heap.size w W) : Below w.heap.size w (W.alloc o) := h.alloc h.size _
/-- what Like tells of a node that lies in w0 and any other -/
def LkM (w0 : World) (q : NdAt) : Prop := ∀ (p : NdAt) (w : World), p.ok w → Below w0.heap.size w0 w → Calls Tryd.prog 14 #[.agg (nCells q), .agg (nCells p)] w (BoolW (likeN q.n p.n) w)

set_option maxHeartbeats 6400000 in
set_option maxRecDepth 100000 in
theorem eqFunc_of {w0 : World} (q : NdAt) (hic : q.n.items.length ≤ q.ic ∧ q.ic ≤ maxLen) (hpl : q.n.items = [] ∨ ∃ b off, q.ia = some ⟨b, off, none⟩ ∧ b < w0.heap.size ∧ ∀ i (h : i < q.n.items.length), ∃ r : NdAt, r.n = q.n.items[i] ∧ r.lies w0 b (off + i * 4) ∧ r.ok w0 ∧ LkM w0 r)
    (p : NdAt) (w : World) (hp : p.ok w) (hw : Below w0.heap.size w0 w) :
    Calls Tryd.prog 35 #[.slice q.ia q.n.items.length q.ic, .slice p.ia p.n.items.length p.ic, .func (.func 14) #[] #[]] w (BoolW (likeL q.n.items p.n.items) w) := by
  have hjc := hp.head.2.2.2
  have hpp := hp.place
  obtain ⟨R, hR⟩ : ∃ R, likeL q.n.items p.n.items = R := ⟨_, rfl⟩
  rw [hR]
  have HR := Lib.hid hR
  have HPL := Lib.hid hpl
  have HPP := Lib.hid hpp
  have HW := Lib.hid hw
  unfold maxLen at hic hjc
  obtain ⟨hic1, hic2⟩ := hic
  obtain ⟨hjc1, hjc2⟩ := hjc
  clear hpl hpp hR hp hw
  obtain ⟨n, na, nc, ia, ic⟩ := q
  obtain ⟨m, ma, mc, ja, jc⟩ := p
  simp only at *
  go_enter Tryd.func35, Tryd.ntmps35
  by_cases hl : n.items.length = m.items.length
  case neg =>
    obtain rfl : R = false := by rw [← HR.out]; exact likeL_no (fun e => hl (by rw [e]))
    have f4 := natNe hl
    clear hl
    go_wp2_with fail
    go_ret
    exact ⟨rfl, Below.refl _ _⟩
  have f4 := natEq' hl
  obtain ⟨I, hI, hgood, hend⟩ := rows_part n.items m.items hl
  have HGI := Lib.hid hgood
  have HEI := Lib.hid hend
  have HIL := Lib.hid hl
  clear hgood hend hl
  go_wp2_with fail
  go_loopg [17, 7, 8, 9] n.items.length (fun gg iv _ _ _ wr => ∃ k : Nat, k + gg = n.items.length ∧ k ≤ I ∧ iv = .int .i64 k ∧ Below w.heap.size w wr)
  case atStart => exact ⟨0, by omega, Nat.zero_le _, rfl, Below.refl _ _⟩
  case round =>
    clear f4
    obtain ⟨k, hkg, hkI, rfl, hbr⟩ := hrel
    cases gk with
    | zero =>
      obtain rfl : k = n.items.length := by omega
      obtain rfl : R = true := by
        rcases HEI.out with ⟨_, e⟩ | ⟨h1, _, _, _⟩
        · rw [← HR.out]
          exact likeL_yes e
        · omega
      go_wp2_with fail
      go_ret
      exact ⟨rfl, hbr⟩
    | succ gg =>
      have hkl : k < n.items.length := by omega
      have hkm : k < m.items.length := by have := HIL.out; omega
      obtain ⟨b1, o1, rfl, r, hrn, hrl, _, hrM⟩ : ∃ b off, ia = some ⟨b, off, none⟩ ∧ ∃ r : NdAt, r.n = n.items[k] ∧ r.lies w0 b (off + k * 4) ∧ r.ok w0 ∧ LkM w0 r := by
        rcases HPL.out with h | ⟨b, off, h1, _, h3⟩
        · rw [h] at hkl; simp at hkl
        · exact ⟨b, off, h1, h3 k hkl⟩
      obtain ⟨b2, o2, rfl, s, hsn, hsl, hso⟩ : ∃ b off, ja = some ⟨b, off, none⟩ ∧ ∃ r : NdAt, r.n = m.items[k] ∧ r.lies w b (off + k * 4) ∧ r.ok w := by
        rcases HPP.out with h | ⟨b, off, h1, _, h3⟩
        · rw [h] at hkm; simp at hkm
        · exact ⟨b, off, h1, h3 k hkm⟩
      obtain ⟨x0, x1, x2, x3⟩ := hrl.call (bthen HW.out hbr)
      have hb1 := below_al2 (o := .cells (nCells r) 25) (Below.refl wr.heap.size wr)
      obtain ⟨y0, y1, y2, y3⟩ := hsl.call (bthen hbr hb1)
      have hb2 := below_al2 (o := .cells (nCells s) 25) hb1
      have hA := (Blk.new wr 25 (nCells r)).alloc (.cells (nCells s) 25)
      have hB := nbK wr (.cells (nCells r) 25) (nCells s) 25
      have hM := hrM s ((wr.alloc (.cells (nCells r) 25)).alloc (.cells (nCells s) 25)) (hso.call (bthen hbr hb2)) (bthen (bthen HW.out hbr) hb2)
      obtain ⟨X, hX⟩ : ∃ X, likeN r.n s.n = X := ⟨_, rfl⟩
      rw [hX] at hM
      rw [hrn, hsn] at hX
      have HM := Lib.hid hM
      have HB2 := Lib.hid (bthen hbr hb2)
      have hrr : k = I → X = false ∧ R = false := fun e => by
        rcases HEI.out with ⟨h1, _⟩ | ⟨_, _, h3, h4⟩
        · omega
        · subst e
          exact ⟨by rw [← hX]; exact likeN_no h3, by rw [← HR.out]; exact likeL_no h4⟩
      have hgg : k ≠ I → X = true := fun e => by rw [← hX]; exact likeN_yes (HGI.out k hkl hkm (by omega))
      obtain ⟨c0, c1, c2, c3⟩ := hA.cells4
      obtain ⟨d0, d1, d2, d3⟩ := hB.cells4
      clear hX hrn hsn hrl hsl hso hrM hM hb1 hb2 hA hB hbr
      obtain ⟨r, ra, rc, qa, qc⟩ := r
      obtain ⟨s, sa, sc, pa, pc⟩ := s
      simp only [nCells] at *
      by_cases hkI2 : k = I
      · obtain ⟨rfl, rfl⟩ := hrr hkI2
        clear hrr hgg hkI2 hkI
        go_wp2_with (go_at_call 14; refine HM.out.mono ?_; rintro e w3 ⟨rfl, hb3⟩)
        go_ret
        exact ⟨rfl, bthen HB2.out hb3⟩
      · obtain rfl := hgg hkI2
        clear hrr hgg
        go_wp2_with (go_at_call 14; refine HM.out.mono ?_; rintro e w3 ⟨rfl, hb3⟩)
        go_roundg gg
        case measure => omega
        case rel => exact ⟨k + 1, by omega, by omega, by go_num, bthen HB2.out hb3⟩

set_option maxHeartbeats 6400000 in
set_option maxRecDepth 100000 in
theorem oLikeN_any {w0 : World} {q : NdAt} (h : q.ok w0) : LkM w0 q := by
  refine NdAt.ok.ind (M := LkM w0) ?_ h
  intro q hq hpl p w hp hw
  have hb := below_al2 (o := .cells (nCells q) 25) (Below.refl w.heap.size w)
  have hb2 := below_al2 (o := .cells (nCells p) 25) hb
  have hB := (Blk.new w 25 (nCells q)).alloc (.cells (nCells p) 25)
  have hP := nbK w (.cells (nCells q) 25) (nCells p) 25
  obtain ⟨R, hR⟩ : ∃ R, likeN q.n p.n = R := ⟨_, rfl⟩
  rw [hR]
  have hqs := hq.head
  have hps := hp.head
  have HEQ := Lib.hid (fun W (h : Below w.heap.size w W) => equalD_any q.na p.na q.nc p.nc q.n.names p.n.names W ((hqs.1.call hw).call h) (hps.1.call h))
  have HEF := Lib.hid (fun W (h : Below w.heap.size w W) => eqFunc_of q hqs.2.2.2 hpl p W (hp.call h) (bthen hw h))
  have HR := Lib.hid hR
  have HB := Lib.hid hb2
  clear hq hpl hp hw hb hb2 hR hqs hps
  obtain ⟨n, na, nc, ia, ic⟩ := q
  obtain ⟨m, ma, mc, ja, jc⟩ := p
  simp only [nCells] at *
  go_enter Tryd.func14, Tryd.ntmps14
  go_upto_region 1 with fail
  obtain ⟨g, hg⟩ : ∃ g, w.heap.size = g := ⟨_, rfl⟩
  generalize (w.alloc (.cells #[.int .i64 n.kind, .string n.word, .slice na n.names.length nc, .slice ia n.items.length ic] 25)).alloc (.cells #[.int .i64 m.kind, .string m.word, .slice ma m.names.length mc, .slice ja m.items.length jc] 25) = wx at *
  rw [hg] at hB hP ⊢
  clear hg
  have HBQ := Lib.hid hB
  have HBP := Lib.hid hP
  obtain ⟨c0, c1, c2, c3⟩ := hB.cells4
  obtain ⟨d0, d1, d2, d3⟩ := hP.cells4
  clear hB hP
  by_cases hk : n.kind = m.kind
  case neg =>
    obtain rfl : R = false := by rw [← HR.out]; exact likeN_no (fun e => hk (by rw [e]))
    have f1 : (n.kind == m.kind) = false := beq_eq_false_iff_ne.2 hk
    clear hk
    go_wp2_with fail
    go_ret
    exact ⟨rfl, HB.out⟩
  have f1 : (n.kind == m.kind) = true := by rw [hk]; simp
  by_cases hwd : n.word = m.word
  case neg =>
    obtain rfl : R = false := by rw [← HR.out]; exact likeN_no (fun e => hwd (by rw [e]))
    have f2 : (n.word.toList == m.word.toList) = false := by rw [strEq]; simp [hwd]
    clear hwd hk
    go_wp2_with fail
    go_ret
    exact ⟨rfl, HB.out⟩
  have f2 : (n.word.toList == m.word.toList) = true := by rw [strEq]; simp [hwd]
  by_cases hnm : n.names = m.names
  case neg =>
    obtain rfl : R = false := by rw [← HR.out]; exact likeN_no (fun e => hnm (by rw [e]))
    have HQ2 := Lib.hid (HEQ.out wx HB.out)
    rw [decide_eq_false hnm] at HQ2
    clear hnm hwd hk HEQ
    go_wp2_with (go_at_call 34; refine HQ2.out.mono ?_; rintro e w2 ⟨rfl, hb2⟩)
    go_ret
    exact ⟨rfl, bthen HB.out hb2⟩
  have HQ2 := Lib.hid (HEQ.out wx HB.out)
  rw [decide_eq_true hnm] at HQ2
  have hR2 : R = likeL n.items m.items := by
    rw [← HR.out]
    by_cases hi : n.items = m.items
    · rw [likeN_yes (Nd.ext4 hk hwd hnm hi), likeL_yes hi]
    · rw [likeN_no (fun e => hi (by rw [e])), likeL_no hi]
  have HEF2 : Hid (∀ W, Below w.heap.size w W → Calls Tryd.prog 35 #[.slice ia n.items.length ic, .slice ja m.items.length jc, .func (.func 14) #[] #[]] W (BoolW R W)) := Lib.hid (fun W h => by rw [hR2]; exact HEF.out W h)
  clear hnm hwd hk HEQ HEF hR2
  cases R
  all_goals
    go_wp2_with (first
      | (go_at_call 34; refine HQ2.out.mono ?_; rintro e w2 ⟨rfl, hb2⟩; obtain ⟨_, _, _, x3⟩ := (HBQ.out.call hb2).cells4; obtain ⟨_, _, _, y3⟩ := (HBP.out.call hb2).cells4)
      | (go_at_call 35; refine (HEF2.out _ (bthen HB.out hb2)).mono ?_; rintro e w3 ⟨rfl, hb3⟩))
    go_ret
    exact ⟨rfl, bthen HB.out (bthen hb2 hb3)⟩
end Go.Proofs.YtolbhhokpelchaaDoor
