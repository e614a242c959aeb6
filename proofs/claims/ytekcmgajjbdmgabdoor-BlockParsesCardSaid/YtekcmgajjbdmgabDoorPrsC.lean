/- The contracts of block.outside. -/
import Derived.Test.YtekcmgajjbdmgabDoorPrsB
import Derived.Laws.EntriesVeiled
import Derived.Outline
namespace Go.Proofs.YtekcmgajjbdmgabDoor
open Go.RowKit

theorem strNil (s : ByteArray) (h : s.size = 0) : s = ⟨#[]⟩ := by
  apply bytes_ext
  have : s.data.toList.length = 0 := by rw [lenB]; exact h
  exact List.eq_nil_of_length_eq_zero this
theorem strNe (s : ByteArray) (h : s.size ≠ 0) : s.toList.isEmpty = false := by
  rw [ByteArray.toList_eq]
  cases hU : s.data.toList with
  | nil => rw [← lenB, hU] at h; exact absurd rfl h
  | cons c l => rfl

/-- nothing is left: it stays outside -/
theorem outside_end (a : Value) (w : World) : Calls Tryd.prog 24 #[a, .string ⟨#[]⟩] w fun e w' => e = .returned outV ∧ w = w' := by
  go_enter Tryd.func24, Tryd.ntmps24
  go_wp2
  go_ret
  exact ⟨rfl, rfl⟩

set_option maxHeartbeats 3200000 in
set_option maxRecDepth 100000 in
/-- a line that begins no block, or a block too many -/
theorem outside_no (rb B0 : Nat) (f : Value) (ds : List Dfn) (s : ByteArray) (w : World) (h : RdS w rb B0 f ds) (hs : s.size ≤ maxLen) (h0 : s.size ≠ 0) (_h64 : ds.length ≤ 64) (hno : outD s.data.toList = none ∨ ds.length = 64) :
    Calls Tryd.prog 24 #[.pointer (some ⟨rb, 0, none⟩), .string s] w fun e w' => e = .returned .nilFunc ∧ w = w' := by
  have hne := strNe s h0
  obtain ⟨B, hB⟩ : ∃ B, bytesA (Lib.trimPrefix s.data.toList preD) = B := ⟨_, rfl⟩
  have hBl : Lib.trimPrefix s.data.toList preD = B.data.toList := by rw [← hB]; rfl
  have hBs : B.size ≤ maxLen := by
    rw [← hB, bytesA_size]
    have := trimPre_len s.data.toList preD
    rw [lenB] at this
    omega
  have hC1 := fun W => cutPre_any s ⟨#[100, 101, 102, 105, 110, 101, 32]⟩ W
  rw [show (⟨#[100, 101, 102, 105, 110, 101, 32]⟩ : ByteArray).data.toList = preD from rfl, hB] at hC1
  have hC2 := fun W => cutSuf_any B ⟨#[32, 123, 10]⟩ W hBs
  rw [show (⟨#[32, 123, 10]⟩ : ByteArray).data.toList = [32, 123, 10] from rfl] at hC2
  obtain ⟨N, hN⟩ : ∃ N, bytesA (Lib.trimSuffix B.data.toList [32, 123, 10]) = N := ⟨_, rfl⟩
  have hNl : Lib.trimSuffix B.data.toList [32, 123, 10] = N.data.toList := by rw [← hN]; rfl
  have hNs : N.size ≤ maxLen := by
    rw [← hN, bytesA_size]
    have := trimSuf_len B.data.toList [32, 123, 10]
    rw [lenB] at this
    omega
  rw [hN] at hC2
  have hW := fun W => bWord_any N W hNs
  have hod : outD s.data.toList = if Lib.hasPrefix s.data.toList preD = true ∧ Lib.hasSuffix B.data.toList [32, 123, 10] = true ∧ bwC N.data.toList = true then some N.data.toList else none := by
    unfold outD; rw [hBl, hNl]
  rw [hod] at hno
  obtain ⟨a, c, hcell, hdd⟩ := h.defs
  have hcc := hdd.1
  have hcm := hdd.2.1
  unfold maxLen at hcm
  have HC1 := Lib.hid hC1
  have HC2 := Lib.hid hC2
  have HW := Lib.hid hW
  obtain ⟨P1, hP1⟩ : ∃ P1, Lib.hasPrefix s.data.toList preD = P1 := ⟨_, rfl⟩
  obtain ⟨P2, hP2⟩ : ∃ P2, Lib.hasSuffix B.data.toList [32, 123, 10] = P2 := ⟨_, rfl⟩
  obtain ⟨P3, hP3⟩ : ∃ P3, bwC N.data.toList = P3 := ⟨_, rfl⟩
  rw [hP1] at HC1 hno
  rw [hP2] at HC2 hno
  rw [hP3] at HW hno
  have hno2 : P1 = false ∨ P1 = true ∧ P2 = false ∨ P1 = true ∧ P2 = true ∧ P3 = false ∨ P1 = true ∧ P2 = true ∧ P3 = true ∧ ds.length = 64 := by
    revert hno
    cases P1 <;> cases P2 <;> cases P3 <;> simp
  clear hC1 hC2 hW hod hno hB hBl hN hNl hP1 hP2 hP3 h hdd hBs hNs
  rcases hno2 with rfl | ⟨rfl, rfl⟩ | ⟨rfl, rfl, rfl⟩ | ⟨rfl, rfl, rfl, h64e⟩
  case' inr.inr.inr =>
    have hq : ((ds.length : Int) == 64) = true := by rw [h64e]; rfl
    clear h64e
  all_goals
    go_enter Tryd.func24, Tryd.ntmps24
    go_wp2_with (first | (go_at_call 43; refine (HC1.out _).mono ?_; rintro e w2 ⟨rfl, rfl⟩) | (go_at_call 44; refine (HC2.out _).mono ?_; rintro e w3 ⟨rfl, rfl⟩) | (go_at_call 45; refine (HW.out _).mono ?_; rintro e w4 ⟨rfl, rfl⟩))
    go_ret
    exact ⟨rfl, rfl⟩

set_option maxHeartbeats 3200000 in
set_option maxRecDepth 100000 in
/-- a line that begins a block -/
theorem outside_yes (rb B0 : Nat) (f : Value) (ds : List Dfn) (s : ByteArray) (m : Bs) (w : World) (h : RdS w rb B0 f ds) (hs : s.size ≤ maxLen) (h0 : s.size ≠ 0) (h64 : ds.length < 64) (hm : outD s.data.toList = some m) :
    Calls Tryd.prog 24 #[.pointer (some ⟨rb, 0, none⟩), .string s] w (LookP rb B0 withV (ds ++ [openD m]) w) := by
  have hne := strNe s h0
  obtain ⟨B, hB⟩ : ∃ B, bytesA (Lib.trimPrefix s.data.toList preD) = B := ⟨_, rfl⟩
  have hBl : Lib.trimPrefix s.data.toList preD = B.data.toList := by rw [← hB]; rfl
  have hBs : B.size ≤ maxLen := by
    rw [← hB, bytesA_size]
    have := trimPre_len s.data.toList preD
    rw [lenB] at this
    omega
  have hC1 := fun W => cutPre_any s ⟨#[100, 101, 102, 105, 110, 101, 32]⟩ W
  rw [show (⟨#[100, 101, 102, 105, 110, 101, 32]⟩ : ByteArray).data.toList = preD from rfl, hB] at hC1
  have hC2 := fun W => cutSuf_any B ⟨#[32, 123, 10]⟩ W hBs
  rw [show (⟨#[32, 123, 10]⟩ : ByteArray).data.toList = [32, 123, 10] from rfl] at hC2
  obtain ⟨N, hN⟩ : ∃ N, bytesA (Lib.trimSuffix B.data.toList [32, 123, 10]) = N := ⟨_, rfl⟩
  have hNl : Lib.trimSuffix B.data.toList [32, 123, 10] = N.data.toList := by rw [← hN]; rfl
  have hNs : N.size ≤ maxLen := by
    rw [← hN, bytesA_size]
    have := trimSuf_len B.data.toList [32, 123, 10]
    rw [lenB] at this
    omega
  rw [hN] at hC2
  have hW := fun W => bWord_any N W hNs
  have hod : outD s.data.toList = if Lib.hasPrefix s.data.toList preD = true ∧ Lib.hasSuffix B.data.toList [32, 123, 10] = true ∧ bwC N.data.toList = true then some N.data.toList else none := by
    unfold outD; rw [hBl, hNl]
  rw [hod] at hm
  obtain ⟨P, rfl⟩ : (Lib.hasPrefix s.data.toList preD = true ∧ Lib.hasSuffix B.data.toList [32, 123, 10] = true ∧ bwC N.data.toList = true) ∧ m = N.data.toList := by
    split at hm
    · rename_i hh
      exact ⟨hh, (Option.some.inj hm).symm⟩
    · cases hm
  rw [P.1] at hC1
  rw [P.2.1] at hC2
  rw [P.2.2] at hW
  have HC1 := Lib.hid hC1
  have HC2 := Lib.hid hC2
  have HW := Lib.hid hW
  have HNO : Hid (openD N.data.toList = ⟨N, [], []⟩) := Lib.hid (by unfold openD; rw [bytesA_of])
  obtain ⟨v, qs, lo, rfl, hblk, hrb, hown, hl1, hl2, hrows⟩ := h
  obtain ⟨a, c, hv, _⟩ := hown.defs (fun q hq => (((hrows.all hl2) q hq).1.1))
  obtain ⟨i0, hi, hz0, hz1, hz2⟩ := info_partsD Tryd.infoD
  have hql : qs.length < 64 := by simpa using h64
  have hl64 : ((qs.length : Int) == 64) = false := beq_eq_false_iff_ne.2 (by omega)
  have hbase : B0 ≤ w.heap.size := Nat.le_trans hl1 hl2
  have hq6 : qs.length ≤ 1000000 := by omega
  obtain ⟨c0, c1⟩ : w.cell? ⟨rb, 0, none⟩ = some v ∧ w.cell? ⟨rb, 1, none⟩ = some f := ⟨hblk.cell 0, hblk.cell 1⟩
  have hne2 : some rb ≠ v.ownBlock := hown.ne hrb
  subst hv
  have HROWS := Lib.hid hrows
  have HBLK := Lib.hid hblk
  have HOWN := Lib.hid hown
  have HL := Lib.hid hl2
  clear hC1 hC2 hW hod hm hB hBl hN hNl P hBs h64 hrows hblk hl1 hl2
  go_enter Tryd.func24, Tryd.ntmps24
  go_wp2_with (first | (go_at_call 43; refine (HC1.out _).mono ?_; rintro e w2 ⟨rfl, rfl⟩) | (go_at_call 44; refine (HC2.out _).mono ?_; rintro e w3 ⟨rfl, rfl⟩) | (go_at_call 45; refine (HW.out _).mono ?_; rintro e w4 ⟨rfl, rfl⟩) | (at_builtin; refine (wpList_pushD w rfl _ _ 22 rfl B0 61 i0 (.agg #[.string ⟨#[]⟩, .slice none 0 0, .slice none 0 0]) Tryd.underlying22 hi hz0 hz1 hz2 rfl (.slice a qs.length c) qs rfl HOWN.out ⟨⟨N, [], []⟩, none, 0, none, 0⟩ rfl hq6 hbase ?_)))
  intro v2 w2 hown2 hg2
  have hb2 : Fr rb B0 w w2 := Fr.grown hg2 hbase (fun k e => (World.ownsRow.lt HOWN.out k e).1)
  have hk2 := HBLK.out.push hg2 hne2
  have hne3 := hown2.ne hrb
  obtain ⟨c0', c1'⟩ : w2.cell? ⟨rb, 0, none⟩ = some (.slice a qs.length c) ∧ w2.cell? ⟨rb, 1, none⟩ = some f := ⟨hk2.cell 0, hk2.cell 1⟩
  have f0 := hk2.frozen 0
  have hrows2 : RowsAt w2 w.heap.size (qs ++ [⟨⟨N, [], []⟩, none, 0, none, 0⟩]) := by
    constructor
    · intro q hq
      rw [List.dropLast_concat] at hq
      obtain ⟨g1, g2, g3⟩ := (HROWS.out.all HL.out) q hq
      exact ⟨g1.grown HOWN.out hg2, g2, g3⟩
    · intro q hq
      rw [List.getLast?_concat] at hq
      obtain rfl := Option.some.inj hq
      exact ⟨OwnS.nil _ _ _, OwnS.nil _ _ _, .inl rfl, (fun s hs => by cases hs), (fun s hs => by cases hs), hNs⟩
  have hz2 := hg2.size
  obtain ⟨a2, c2, e9, _⟩ := hown2.defs (fun q hq => (hrows2.all hz2 q hq).1.1)
  subst e9
  rw [List.length_append, List.length_singleton] at hown2 hne3
  have HK2 := Lib.hid hk2
  have HO2 := Lib.hid hown2
  have HR2 := Lib.hid hrows2
  have HB2 := Lib.hid hb2
  have HN3 := Lib.hid hne3
  clear hk2 hown2 hrows2 hb2 hg2 hne2 hne3 c0 c1 HROWS HBLK
  go_wp2_with fail
  go_ret
  exact ⟨f, rfl, ⟨_, qs ++ [⟨⟨N, [], []⟩, none, 0, none, 0⟩], w.heap.size, by rw [HNO.out]; simp, HK2.out.set 0 _, hrb, HO2.out.setO HN3.out 0 _, hbase, by simpa [World.setCell] using hz2, HR2.out.setB HK2.out (by decide) (by omega) 0 _⟩, HB2.out.set 0 _⟩
end Go.Proofs.YtekcmgajjbdmgabDoor
