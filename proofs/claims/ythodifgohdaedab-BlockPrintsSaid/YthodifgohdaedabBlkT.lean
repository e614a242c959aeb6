/- The contracts of the document's own Text of layer 6, of block.Get, and of 'alive' of the statements of layer 6. -/
import Derived.Test.YthodifgohdaedabBlkP
import Derived.Deep.CutBlock
import Derived.Outline
namespace Go.Proofs.Ythodifgohdaedab
open Go.RowKit

theorem bytesE {a b : ByteArray} (h : a.data.toList = b.data.toList) : a = b := bytes_ext h
def TextP (ds : List Dfn) (w : World) (e : Ending) (w' : World) : Prop := e = .returned (.string ⟨(defsT ds).toArray⟩) ∧ Below w.heap.size w w'

set_option maxHeartbeats 6400000 in
set_option maxRecDepth 100000 in
theorem rText_any (a : Option Addr) (c : Nat) (ds : List Dfn) (w : World) (h : HasDefs w a c ds) (hd : defsC ds = true) : Calls Try.prog 12 #[.slice a ds.length c] w (TextP ds w) := by
  have h1 := h.1
  have h2 := h.2.1
  unfold maxLen at h2
  obtain ⟨h64, hall⟩ := (defsC_iff ds).1 hd
  have hlt : ∀ k, (defsT (ds.take k)).length ≤ 64 * 20000 := fun k => by
    have := defsT_len (ds.take k) (fun d hd => hall d (List.mem_of_mem_take hd))
    have h3 : (ds.take k).length ≤ 64 := by rw [List.length_take]; omega
    have : (ds.take k).length * 20000 ≤ 64 * 20000 := Nat.mul_le_mul_right _ h3
    omega
  have HLT := Lib.hid hlt
  have HA := Lib.hid hall
  have HD := Lib.hid h
  clear hlt hall h hd
  go_enter Try.func12, Try.ntmps12
  go_wp2_with fail
  go_loopg [3, 10, 5, 6, 7] ds.length (fun gg u iv _ _ _ wr => ∃ (k : Nat) (S : ByteArray), u = .string S ∧ k + gg = ds.length ∧ iv = .int .i64 (k : Int) ∧ S.data.toList = defsT (ds.take k) ∧ Below w.heap.size w wr)
  case atStart => exact ⟨0, _, rfl, by omega, rfl, by simp [defsT], Below.refl _ _⟩
  case round =>
    obtain ⟨k, S, rfl, hkg, rfl, hS, hb⟩ := hrel
    have HS := Lib.hid hS
    have hSl : S.size ≤ 1280000 := by have := HLT.out k; rw [← hS, lenB] at this; exact this
    clear hS
    cases gk with
    | zero =>
      obtain rfl : k = ds.length := by omega
      have hSS : S = ⟨(defsT ds).toArray⟩ := bytesE (by rw [HS.out, List.take_of_length_le (Nat.le_refl _)])
      have HSS := Lib.hid hSS
      have HB := Lib.hid hb
      clear hkg hSS hb
      go_wp2_with fail
      go_ret
      exact ⟨by rw [← HSS.out]; rfl, HB.out⟩
    | succ gg =>
      have hkl : k < ds.length := by omega
      obtain ⟨b, off, rfl⟩ : ∃ b off, a = some ⟨b, off, none⟩ := by
        rcases HD.out.place with h | h
        · rw [h] at hkl; simp at hkl
        · exact h
      obtain ⟨W0, rfl⟩ : ∃ W0, W0 = wr := ⟨_, rfl⟩
      obtain ⟨q, hq, ⟨c0, c1, c2⟩, hqo⟩ := (HD.out.call hb).at k hkl
      have hx := Blk.new W0 32 (dCells q)
      have hbx := (Below.refl W0.heap.size W0).alloc (Nat.le_refl _) (.cells (dCells q) 32)
      have hbb := bthen hb hbx
      have hqo2 := hqo.call hbx
      have hdc : defC q.d = true := by rw [hq]; exact HA.out _ (List.getElem_mem hkl)
      have hJ : defsT (ds.take (k + 1)) = defsT (ds.take k) ++ defT q.d := by rw [List.take_succ_eq_append_getElem hkl, defsT_snoc, hq]
      obtain ⟨d, ka, kc, va, vc⟩ := q
      obtain ⟨hk, hv, _⟩ := hqo2
      simp only at hk hv hdc hJ c0 c1 c2
      obtain ⟨g1, g2, g3, g4⟩ := (defC_iff d).1 hdc
      have hks := bwC_size g1
      obtain ⟨s1, s2⟩ := okD_sizes g3 g4
      have HJ := Lib.hid hJ
      have HX := Lib.hid hx.cells3
      have HK := Lib.hid hk
      have HV := Lib.hid hv
      have HB := Lib.hid hbb
      have HEQ := Lib.hid g3
      have HTK := Lib.hid (keysT_take d.keys d.vals)
      have hkT : ∀ k, k ≤ d.keys.length → (keysT (d.keys.take k) (d.vals.take k)).length ≤ 64 * 278 := fun k hk => by
        have := keysT_len (d.keys.take k) (d.vals.take k) (fun x hx => s1 x (List.mem_of_mem_take hx)) (fun x hx => s2 x (List.mem_of_mem_take hx))
        have h2 : (d.keys.take k).length ≤ 64 := by rw [List.length_take]; omega
        have : (d.keys.take k).length * 278 ≤ 64 * 278 := Nat.mul_le_mul_right _ h2
        omega
      have HKT := Lib.hid hkT
      have HS1 := Lib.hid (fun (i : Nat) (h : i < d.keys.length) => s1 _ (List.getElem_mem h))
      have HS2 := Lib.hid (fun (i : Nat) (h : i < d.vals.length) => s2 _ (List.getElem_mem h))
      have l1 : d.keys.length ≤ kc := hk.1
      have l2 := hk.2.1
      have l3 : d.vals.length ≤ vc := hv.1
      have l4 := hv.2.1
      unfold maxLen at l2 l4
      have p1 : ¬ 9223372036854775807 < S.size + 7 := by omega
      have p2 : ¬ 9223372036854775807 < S.size + 7 + d.kind.size := by omega
      have p3 : ¬ 9223372036854775807 < S.size + 7 + d.kind.size + 3 := by omega
      obtain ⟨N, hN⟩ : ∃ N : ByteArray, (S ++ ⟨#[100, 101, 102, 105, 110, 101, 32]⟩ ++ d.kind) ++ ⟨#[32, 123, 10]⟩ = N := ⟨_, rfl⟩
      have hNl : N.data.toList = defsT (ds.take k) ++ headT d.kind.data.toList := by
        rw [← hN, ← HS.out]; simp [headT, ByteArray.data_append]
      have hNs : N.size ≤ 1281000 := by
        have : N.size = S.size + 7 + d.kind.size + 3 := by
          rw [← hN]; simp only [ByteArray.size_append]; rfl
        omega
      have HNL := Lib.hid hNl
      clear hx hbx hbb hqo hq hdc hJ hk hv g1 g3 g4 s1 s2 hkT hb hNl
      go_upto_region 5 with fail
      generalize W0.alloc (.cells (dCells ⟨d, ka, kc, va, vc⟩) 32) = wx at *
      clear c0 c1 c2
      obtain ⟨x0, x1, x2⟩ := HX.out
      simp only at x0 x1 x2
      go_upto_region 6 with fail
      clear p1 p2 p3 hN
      go_upto_block 2 with fail
      go_cut [3, 23] (fun u _ wy => ∃ S2 : ByteArray, u = .string S2 ∧ S2.data.toList = N.data.toList ++ keysT d.keys d.vals ∧ wx = wy)
      case first =>
        clear x0 x1 x2
        go_wp2_with fail
        go_loopg [3, 23, 6, 7] d.keys.length (fun gg u iv _ _ wr => ∃ (m : Nat) (S2 : ByteArray), u = .string S2 ∧ m + gg = d.keys.length ∧ iv = .int .i64 (m : Int) ∧ S2.data.toList = N.data.toList ++ keysT (d.keys.take m) (d.vals.take m) ∧ wx = wr)
        case atStart => exact ⟨0, N, rfl, by omega, rfl, by simp [keysT], rfl⟩
        case round =>
          obtain ⟨m, S2, rfl, hmg, rfl, hS2, rfl⟩ := hrel
          have hkt := HKT.out m (by omega)
          have hS2l : S2.size ≤ 1300000 := by
            have e := congrArg List.length hS2
            rw [List.length_append, lenB, lenB] at e
            omega
          have HSS := Lib.hid hS2
          clear hS2 hkt
          cases gk with
          | zero =>
            obtain rfl : m = d.keys.length := by omega
            have hfin : S2.data.toList = N.data.toList ++ keysT d.keys d.vals := by
              rw [HSS.out, List.take_of_length_le (Nat.le_refl _), List.take_of_length_le (by rw [HEQ.out]; exact Nat.le_refl _)]
            have HF := Lib.hid hfin
            clear hfin hmg
            go_wp2_with fail
            go_meet
            exact ⟨S2, rfl, HF.out, rfl⟩
          | succ gg =>
            have hml : m < d.keys.length := by omega
            have hmv : m < d.vals.length := by have := HEQ.out; omega
            obtain ⟨b1, o1, rfl⟩ : ∃ b1 o1, ka = some ⟨b1, o1, none⟩ := by
              rcases HK.out.2.2.2 with h | ⟨b1, o1, h, _⟩
              · rw [h] at hml; simp at hml
              · exact ⟨b1, o1, h⟩
            obtain ⟨b2, o2, rfl⟩ : ∃ b2 o2, va = some ⟨b2, o2, none⟩ := by
              rcases HV.out.2.2.2 with h | ⟨b2, o2, h, _⟩
              · rw [h] at hmv; simp at hmv
              · exact ⟨b2, o2, h⟩
            have e1 := HK.out.at m hml
            have e2 := HV.out.at m hmv
            have m1 := HS1.out m hml
            have m2 := HS2.out m hmv
            have ht := HTK.out m hml hmv
            obtain ⟨x0, x1, x2⟩ := HX.out
            obtain ⟨X, hX⟩ : ∃ X, d.keys[m] = X := ⟨_, rfl⟩
            obtain ⟨Y, hY⟩ : ∃ Y, d.vals[m] = Y := ⟨_, rfl⟩
            rw [hX] at e1 m1 ht
            rw [hY] at e2 m2 ht
            have hJ2 : ((((S2 ++ ⟨#[9]⟩) ++ X) ++ ⟨#[9]⟩) ++ Y ++ ⟨#[10]⟩ : ByteArray).data.toList = N.data.toList ++ keysT (d.keys.take (m + 1)) (d.vals.take (m + 1)) := by
              rw [ht, ← List.append_assoc, ← HSS.out]
              simp [lineD, ByteArray.data_append]
            have HJ2 := Lib.hid hJ2
            have p1 : ¬ 9223372036854775807 < S2.size + 1 := by omega
            have p2 : ¬ 9223372036854775807 < S2.size + 1 + X.size := by omega
            have p3 : ¬ 9223372036854775807 < S2.size + 1 + X.size + 1 := by omega
            have p4 : ¬ 9223372036854775807 < S2.size + 1 + X.size + 1 + Y.size := by omega
            have p5 : ¬ 9223372036854775807 < S2.size + 1 + X.size + 1 + Y.size + 1 := by omega
            clear hX hY ht hJ2
            go_wp2_with fail
            go_roundg gg
            case measure => omega
            case rel => exact ⟨m + 1, _, rfl, by omega, by go_num, HJ2.out, rfl⟩
      case rest =>
      obtain ⟨S2, rfl, hS2, rfl⟩ := hcut
      have hkt := HKT.out d.keys.length (Nat.le_refl _)
      rw [List.take_of_length_le (Nat.le_refl _), List.take_of_length_le (by rw [HEQ.out]; exact Nat.le_refl _)] at hkt
      have hS2l : S2.size ≤ 1300000 := by
        have e := congrArg List.length hS2
        rw [List.length_append, lenB, lenB] at e
        omega
      have hfin : (S2 ++ ⟨#[125, 10]⟩ : ByteArray).data.toList = defsT (ds.take (k + 1)) := by
        rw [HJ.out, ByteArray.data_append, Array.toList_append, hS2, HNL.out]
        simp [defT]
      have HF := Lib.hid hfin
      have p1 : ¬ 9223372036854775807 < S2.size + 2 := by omega
      clear hS2 hfin hkt x0 x1 x2
      go_wp2_with fail
      go_roundg gg
      case measure => omega
      case rel => exact ⟨k + 1, _, rfl, by omega, by go_num, HF.out, HB.out⟩

def getT (d : Dfn) (k : ByteArray) : ByteArray := match getV d k with | some v => v | none => ⟨#[]⟩
def getE (d : Dfn) (k : ByteArray) : Int := match getV d k with | some _ => 0 | none => 9
def GetP (d : Dfn) (k : ByteArray) (w : World) (e : Ending) (w' : World) : Prop := e = .returned (.tuple #[.string (getT d k), .int .i64 (getE d k)]) ∧ Below w.heap.size w w'

set_option maxHeartbeats 1600000 in
set_option maxRecDepth 100000 in
theorem bGet_any (q : DefAt) (k : ByteArray) (w : World) (h : q.ok w) : Calls Try.prog 11 #[.agg (dCells q), .string k] w (GetP q.d k w) := by
  obtain ⟨d, ka, kc, va, vc⟩ := q
  obtain ⟨hk, hv, _⟩ := h
  simp only at hk hv ⊢
  have hb := (Below.refl w.heap.size w).alloc (Nat.le_refl _) (.cells #[.string d.kind, .slice ka d.keys.length kc, .slice va d.vals.length vc] 32)
  have hB := Blk.new w 32 #[.string d.kind, .slice ka d.keys.length kc, .slice va d.vals.length vc]
  have hi := index_any ka kc d.keys k _ (hk.call hb)
  have hv' := hv.call hb
  have l1 : d.keys.length ≤ kc := hk.1
  have l2 := hk.2.1
  have l3 : d.vals.length ≤ vc := hv.1
  have l4 := hv.2.1
  unfold maxLen at l2 l4
  obtain ⟨_, h1 | ⟨i, hil, h1⟩⟩ := memB_key d.keys k
  · have e1 : getT d k = ⟨#[]⟩ := by simp [getT, getV, h1]
    have e2 : getE d k = 9 := by simp [getE, getV, h1]
    unfold GetP
    rw [e1, e2]
    rw [h1] at hi
    have HI := Lib.hid hi
    clear e1 e2 h1 hi hk hv hv'
    go_enter Try.func11, Try.ntmps11
    go_upto_region 1 with fail
    generalize w.alloc (.cells #[.string d.kind, .slice ka d.keys.length kc, .slice va d.vals.length vc] 32) = wx at *
    obtain ⟨x0, x1, x2⟩ := hB.cells3
    go_wp2_with (go_at_call 21; refine HI.out.mono ?_; rintro e w2 ⟨rfl, rfl⟩)
    go_ret2
    exact ⟨rfl, hb⟩
  by_cases hiv : i < d.vals.length
  case neg =>
    have e1 : getT d k = ⟨#[]⟩ := by simp [getT, getV, h1, hiv]
    have e2 : getE d k = 9 := by simp [getE, getV, h1, hiv]
    unfold GetP
    rw [e1, e2]
    rw [h1] at hi
    have HI := Lib.hid (show Calls Try.prog 21 #[.slice ka d.keys.length kc, .string k] (w.alloc (.cells #[.string d.kind, .slice ka d.keys.length kc, .slice va d.vals.length vc] 32)) (IntS (i : Int) _) from hi)
    have hge : (d.vals.length : Int) ≤ (i : Int) := by omega
    clear e1 e2 h1 hi hk hv hv'
    go_enter Try.func11, Try.ntmps11
    go_upto_region 1 with fail
    generalize w.alloc (.cells #[.string d.kind, .slice ka d.keys.length kc, .slice va d.vals.length vc] 32) = wx at *
    obtain ⟨x0, x1, x2⟩ := hB.cells3
    go_wp2_with (go_at_call 21; refine HI.out.mono ?_; rintro e w2 ⟨rfl, rfl⟩)
    go_ret2
    exact ⟨rfl, hb⟩
  have e1 : getT d k = d.vals[i] := by simp [getT, getV, h1, hiv]
  have e2 : getE d k = 0 := by simp [getE, getV, h1, hiv]
  unfold GetP
  rw [e1, e2]
  rw [h1] at hi
  have HI := Lib.hid (show Calls Try.prog 21 #[.slice ka d.keys.length kc, .string k] (w.alloc (.cells #[.string d.kind, .slice ka d.keys.length kc, .slice va d.vals.length vc] 32)) (IntS (i : Int) _) from hi)
  obtain ⟨b1, o1, rfl⟩ : ∃ b1 o1, va = some ⟨b1, o1, none⟩ := by
    rcases hv.2.2.2 with h | ⟨b1, o1, h, _⟩
    · rw [h] at hiv; simp at hiv
    · exact ⟨b1, o1, h⟩
  have c1 := hv'.at i hiv
  generalize d.vals[i] = Y at *
  clear e1 e2 h1 hi hk hv hv'
  go_enter Try.func11, Try.ntmps11
  go_upto_region 1 with fail
  generalize w.alloc (.cells #[.string d.kind, .slice ka d.keys.length kc, .slice (some ⟨b1, o1, none⟩) d.vals.length vc] 32) = wx at *
  obtain ⟨x0, x1, x2⟩ := hB.cells3
  go_wp2_with (go_at_call 21; refine HI.out.mono ?_; rintro e w2 ⟨rfl, rfl⟩)
  go_ret2
  exact ⟨rfl, hb⟩

/-- the known block -/
def knownD : Dfn := ⟨⟨#[104, 111, 115, 116]⟩, [⟨#[110, 97, 109, 101]⟩], [⟨#[97, 32, 98]⟩]⟩
theorem known_print : printT [knownD] = ⟨#[100, 101, 102, 105, 110, 101, 32, 104, 111, 115, 116, 32, 123, 10, 9, 110, 97, 109, 101, 9, 97, 32, 98, 10, 125, 10]⟩ ∧ printE [knownD] = 0 := by decide +kernel

theorem hasDefs_one (W : World) (q : DefAt) (h : q.ok W) : HasDefs (W.alloc (.cells (dCells q) 32)) (some ⟨W.heap.size, 0, none⟩) 1 [q.d] := by
  refine ⟨Nat.le_refl _, by unfold maxLen; omega, .inr ⟨W.heap.size, 0, rfl, by simp, fun i hi => ?_⟩⟩
  obtain rfl : i = 0 := by simpa using hi
  exact ⟨q, rfl, ⟨World.cell?_alloc_mark W _ _ (0, 0) 0, World.cell?_alloc_mark W _ _ (0, 0) 1, World.cell?_alloc_mark W _ _ (0, 0) 2⟩, h.call ((Below.refl _ _).alloc (Nat.le_refl _) _)⟩
theorem hasStrs_one (W : World) (s : ByteArray) (T : TypeId) (h : s.size ≤ maxLen) : HasStrs (W.alloc (.cells #[.string s] T)) (some ⟨W.heap.size, 0, none⟩) 1 [s] := by
  refine ⟨Nat.le_refl _, by unfold maxLen; omega, (fun x hx => by rw [List.mem_singleton] at hx; subst hx; exact h), .inr ⟨W.heap.size, 0, rfl, by simp, fun i hi => ?_⟩⟩
  obtain rfl : i = 0 := by simpa using hi
  exact World.cell?_alloc_mark W _ _ (0, 0) 0

set_option maxHeartbeats 1600000 in
set_option maxRecDepth 100000 in
theorem alive_any (w : World) : Calls Try.prog 10 #[] w (BoolW true w) := by
  have hW1 := (Below.refl w.heap.size w).alloc (Nat.le_refl _) (.cells #[.string ⟨#[110, 97, 109, 101]⟩] 9)
  have hW2 := hW1.alloc hW1.size (.cells #[.string ⟨#[97, 32, 98]⟩] 9)
  have hW3 := hW2.alloc hW2.size (.cells #[.string ⟨#[104, 111, 115, 116]⟩, .slice (some ⟨w.heap.size, 0, none⟩) 1 1, .slice (some ⟨w.heap.size + 1, 0, none⟩) 1 1] 32)
  have k1 := (hasStrs_one w ⟨#[110, 97, 109, 101]⟩ 9 (by unfold maxLen; decide)).call ((Below.refl _ _).alloc (Nat.le_refl _) (.cells #[.string ⟨#[97, 32, 98]⟩] 9))
  have k2 := hasStrs_one (w.alloc (.cells #[.string ⟨#[110, 97, 109, 101]⟩] 9)) ⟨#[97, 32, 98]⟩ 9 (by unfold maxLen; decide)
  have e1 : (w.alloc (.cells #[.string ⟨#[110, 97, 109, 101]⟩] 9)).heap.size = w.heap.size + 1 := by simp
  have e2 : ((w.alloc (.cells #[.string ⟨#[110, 97, 109, 101]⟩] 9)).alloc (.cells #[.string ⟨#[97, 32, 98]⟩] 9)).heap.size = w.heap.size + 2 := by simp
  rw [e1] at k2
  have hd := hasDefs_one _ ⟨knownD, some ⟨w.heap.size, 0, none⟩, 1, some ⟨w.heap.size + 1, 0, none⟩, 1⟩ ⟨k1, k2, by show knownD.kind.size ≤ maxLen; unfold maxLen; decide⟩
  have hp := bPrint_any _ _ _ _ hd
  unfold PrintP at hp
  rw [show (DefAt.d ⟨knownD, some ⟨w.heap.size, 0, none⟩, 1, some ⟨w.heap.size + 1, 0, none⟩, 1⟩) = knownD from rfl, known_print.1, known_print.2, e2] at hp
  have hp2 : Calls Try.prog 5 #[.slice (some ⟨w.heap.size + 2, 0, none⟩) 1 1] (((w.alloc (.cells #[.string ⟨#[110, 97, 109, 101]⟩] 9)).alloc (.cells #[.string ⟨#[97, 32, 98]⟩] 9)).alloc (.cells #[.string ⟨#[104, 111, 115, 116]⟩, .slice (some ⟨w.heap.size, 0, none⟩) 1 1, .slice (some ⟨w.heap.size + 1, 0, none⟩) 1 1] 32)) fun e w' => e = .returned (.tuple #[.string ⟨#[100, 101, 102, 105, 110, 101, 32, 104, 111, 115, 116, 32, 123, 10, 9, 110, 97, 109, 101, 9, 97, 32, 98, 10, 125, 10]⟩, .int .i64 0]) ∧ Below (((w.alloc (.cells #[.string ⟨#[110, 97, 109, 101]⟩] 9)).alloc (.cells #[.string ⟨#[97, 32, 98]⟩] 9)).alloc (.cells #[.string ⟨#[104, 111, 115, 116]⟩, .slice (some ⟨w.heap.size, 0, none⟩) 1 1, .slice (some ⟨w.heap.size + 1, 0, none⟩) 1 1] 32)).heap.size (((w.alloc (.cells #[.string ⟨#[110, 97, 109, 101]⟩] 9)).alloc (.cells #[.string ⟨#[97, 32, 98]⟩] 9)).alloc (.cells #[.string ⟨#[104, 111, 115, 116]⟩, .slice (some ⟨w.heap.size, 0, none⟩) 1 1, .slice (some ⟨w.heap.size + 1, 0, none⟩) 1 1] 32)) w' := hp
  have HP := Lib.hid hp2
  have HW := Lib.hid hW3
  clear hp hp2 hd k1 k2 e1 e2 hW1 hW2 hW3
  go_enter Try.func10, Try.ntmps10
  go_wp2_with (go_at_call 5; refine HP.out.mono ?_; rintro e w5 ⟨rfl, hb5⟩)
  go_ret
  exact ⟨rfl, bthen HW.out hb5⟩
end Go.Proofs.Ythodifgohdaedab
