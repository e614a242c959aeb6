/- LabelTurns: for every row of labels, every integer and every row of names: labels in whatever order make one set; a set of that set is it; what is kept of some names, kept of them again, is the same, and what is kept of the others with it is all. -/
import Derived.Test.YtlejejmcicecgaaLabelApartW
import Derived.Deep.RegionHeld3
namespace Go.Proofs.Ytlejejmcicecgaa
open Go.RowKit

/-! ### Mathematics -/
def othersL (A K : List Lab) : List ByteArray := (A.filter fun l => decide (getL K l.1 = ⟨#[]⟩)).map (·.1)
theorem others_take (A K : List Lab) (k : Nat) (h : k < A.length) : othersL (A.take (k + 1)) K = othersL (A.take k) K ++ (if getL K A[k].1 = ⟨#[]⟩ then [A[k].1] else []) := by
  rw [List.take_succ_eq_append_getElem h, othersL, List.filter_append, List.map_append]
  congr 1
  by_cases hq : getL K A[k].1 = ⟨#[]⟩ <;> simp [hq]
theorem others_len (A K : List Lab) : (othersL A K).length ≤ A.length := by
  rw [othersL, List.length_map]; exact List.length_filter_le _ _
theorem keep_has {A : List Lab} (N : List ByteArray) {l : Lab} (hl : l ∈ A) : hasN (keepL A N) l.1 = inB l.1 N := by
  rw [Bool.eq_iff_iff, hasN_iff]
  constructor
  · rintro ⟨m, hm, e⟩
    rw [← e]; exact (List.mem_filter.1 hm).2
  · intro h
    exact ⟨l, List.mem_filter.2 ⟨hl, h⟩, rfl⟩
theorem others_in {A : List Lab} (hr : rightC A = true) (N : List ByteArray) {l : Lab} (hl : l ∈ A) : inB l.1 (othersL A (keepL A N)) = !inB l.1 N := by
  obtain ⟨_, a2, a3⟩ := (rightC_iff A).1 hr
  have hK := (rightC_iff _).1 (keepL_right hr N)
  rw [Bool.eq_iff_iff, inB_iff, othersL, List.mem_map, Bool.not_eq_true']
  constructor
  · rintro ⟨m, hm, e⟩
    obtain ⟨hm1, hm2⟩ := List.mem_filter.1 hm
    have := (getL_has hK.2.2.dis hK.2.1 m.1).1 (of_decide_eq_true hm2)
    rw [keep_has N hm1] at this
    rw [← e]; exact this
  · intro h
    refine ⟨l, List.mem_filter.2 ⟨hl, decide_eq_true ?_⟩, rfl⟩
    rw [getL_has hK.2.2.dis hK.2.1, keep_has N hl]
    exact h
theorem others_keep {A : List Lab} (hr : rightC A = true) (N : List ByteArray) : withP (keepL A (othersL A (keepL A N))) (keepL A N) = (A, 0) := by
  have h1 := keepL_right hr N
  have h2 := keepL_right hr (othersL A (keepL A N))
  have ho : keepL A (othersL A (keepL A N)) = A.filter fun l => !inB l.1 N := by
    rw [keepL]
    exact List.filter_congr fun l hl => others_in hr N hl
  rw [withP, if_pos h2, if_pos h1, restL_apart (fun l hl => ?_), ho]
  · have hp : ((A.filter fun l => !inB l.1 N) ++ keepL A N).Perm A := List.perm_append_comm.trans (List.filter_append_perm (fun (l : Lab) => inB l.1 N) A)
    rw [newP_perm hp, newP_right hr]
  · rw [ho] at hl
    obtain ⟨hl1, hl2⟩ := List.mem_filter.1 hl
    rw [keep_has N hl1]
    simpa using hl2
theorem turn_perm (L : List Lab) (r : Nat) : (L.drop r ++ L.take r).Perm L := by
  have := (List.perm_append_comm : (L.drop r ++ L.take r).Perm (L.take r ++ L.drop r))
  rwa [List.take_append_drop] at this

/-! ### Slices of rows of labels -/
theorem HasLabs.drop {w : World} {b off c : Nat} {ls : List Lab} (h : HasLabs w (Option.some ⟨b, off, none⟩) c ls) (r : Nat) (hr : r < ls.length) : HasLabs w (Option.some ⟨b, off + r * 2, none⟩) (c - r) (ls.drop r) := by
  obtain ⟨h1, h2, h3, h4⟩ := h
  refine ⟨by rw [List.length_drop]; omega, by omega, fun l hl => h3 l (List.mem_of_mem_drop hl), .inr ?_⟩
  rcases h4 with rfl | ⟨b', off', hb', hlt, hc⟩
  · cases hr
  · simp only [Option.some.injEq, Addr.mk.injEq] at hb'
    obtain ⟨rfl, rfl, _⟩ := hb'
    refine ⟨b, off + r * 2, rfl, hlt, fun i hi => ?_⟩
    rw [List.length_drop] at hi
    obtain ⟨k1, k2⟩ := hc (r + i) (by omega)
    rw [List.getElem_drop]
    exact ⟨by rw [show off + r * 2 + i * 2 = off + (r + i) * 2 by omega]; exact k1, by rw [show off + r * 2 + i * 2 + 1 = off + (r + i) * 2 + 1 by omega]; exact k2⟩
theorem HasLabs.take {w : World} {b off c : Nat} {ls : List Lab} (h : HasLabs w (Option.some ⟨b, off, none⟩) c ls) (r : Nat) (hr : r < ls.length) : HasLabs w (Option.some ⟨b, off, none⟩) c (ls.take r) := by
  obtain ⟨h1, h2, h3, h4⟩ := h
  refine ⟨by rw [List.length_take]; omega, h2, fun l hl => h3 l (List.mem_of_mem_take hl), .inr ?_⟩
  rcases h4 with rfl | ⟨b', off', hb', hlt, hc⟩
  · cases hr
  · refine ⟨b', off', hb', hlt, fun i hi => ?_⟩
    rw [List.length_take] at hi
    rw [List.getElem_take]
    exact hc i (by omega)
theorem run_from (w : World) (b off n q r : Nat) (hr : r < n) (hq : n ≤ q) :
    (Instr.slice 22 (.slice (some ⟨b, off, none⟩) n q) (some (.int .i64 (r : Int))) none none).run Try.prog w = .ok (.slice (some ⟨b, off + r * 2, none⟩) (n - r) (q - r)) w := by
  have he : Try.prog.elem 22 = 49 := by kernel_rfl
  have ht : Try.prog.underlying 22 = some (.slice (Try.prog.elem 22)) := by rw [he]; exact Try.underlying22
  rw [run_slice_l (P := Try.prog) w 22 (some ⟨b, off, none⟩) n q ht .i64 (r : Int) (by omega) (by omega)]
  have hs : (sizeOf (Try.prog.elem 22)).run Try.prog w = .ok 2 w := by rw [he]; exact Try.sizeOf49 w
  rw [hs]
  have : q ≠ r := by omega
  simp [Result.andThen, sliced, this, Addr.add]
theorem run_upto (w : World) (b off n q r : Nat) (hr : r < n) (hq : n ≤ q) :
    (Instr.slice 22 (.slice (some ⟨b, off, none⟩) n q) none (some (.int .i64 (r : Int))) none).run Try.prog w = .ok (.slice (some ⟨b, off, none⟩) r q) w := by
  have he : Try.prog.elem 22 = 49 := by kernel_rfl
  have ht : Try.prog.underlying 22 = some (.slice (Try.prog.elem 22)) := by rw [he]; exact Try.underlying22
  rw [run_slice_h (P := Try.prog) w 22 (some ⟨b, off, none⟩) n q ht .i64 (r : Int) (by omega) (by omega)]
  have hs : (sizeOf (Try.prog.elem 22)).run Try.prog w = .ok 2 w := by rw [he]; exact Try.sizeOf49 w
  rw [hs]
  have : q ≠ 0 := by omega
  simp [Result.andThen, sliced, this, Addr.add]
theorem OwnL.empty (T : TypeId) (w : World) : OwnL T (w.alloc (.cells #[] T)) w.heap.size (.slice (some ⟨w.heap.size, 0, none⟩) 0 0) [] :=
  World.ownsRow_made w #[] 0 (Nat.le_refl _) (by unfold maxLen; omega) (by simp)
/-- an append of another row, in a region that draws its order -/
theorem step_appL {P : Program} (W : World) {ops : Array Oper} {o : Oper} {a : Act} {K : Act → World → Prop} {Q : Exit → Act → World → Prop} {E : Prop} (hgd : o.guard = none) (s x : Operand) (t : TypeId)
    (ho : o.op = .call { callee := .builtin .append, args := #[s, x], argTypes := #[t, t] })
    (base : Nat) (e : TypeId) (i : TypeInfo) (z : Value) (ht : P.underlying t = some (.slice e)) (hi : P.info? e = some i) (hz : i.zero = some z) (hsize : i.size = 2) (hby : i.bytes = 32) (hzs : z.cells.size = 2)
    (v : Value) (ls : List Lab) (hs : a.eval s = v) (hown : OwnL e W base v ls) (b : Option Addr) (c n : Nat) (ms : List Lab) (hn : n = ms.length) (hx : a.eval x = .slice b n c) (hL : HasLabs W b c ms)
    (h63 : ls.length + ms.length ≤ 1000000) (hbase : base ≤ W.heap.size)
    (h : ∀ (v' : Value) (w' : World), OwnL e w' base v' (ls ++ ms) → W.grownBy w' v.ownBlock → K (a.put o.dst v') w') :
    if Region.wanted o (yielded ops a.tmps) = true then Oper.wp P o a W K Q else E := by
  have hw : Region.wanted o (yielded ops a.tmps) = true := by simp [Region.wanted, hgd]
  rw [if_pos hw]
  subst hn
  obtain ⟨v', w', hr, h2, h3⟩ := run_append_src (P := P) W base t t o.type e i z 32 ht hi hz hby (by rw [hsize]; exact hzs) v ls.length (labsV ls) (by rw [hsize]; exact hown) (.slice b ms.length c) ms.length (labsV ms) (by rw [hsize]; exact src_labs ht hL) (by unfold maxLen; omega) (by omega) hbase
  rw [hsize] at h2
  unfold Oper.wp execOp
  simp only [ho, resolve, invoke, builtin, Sem.run_bind, Sem.run_pure, Result.andThen_ok, List.map_toArray, List.map_cons, List.map_nil, hs, hx, hr]
  refine h v' w' ?_ h3
  unfold OwnL
  rw [labsV_app, List.length_append]
  exact h2

theorem wrap64_in {x : Int} (h1 : -9223372036854775808 ≤ x) (h2 : x ≤ 9223372036854775807) : wrap64 x = x := by
  unfold wrap64
  omega
theorem turns_none (w : World) : Calls Try.prog 11 #[.slice none 0 0] w (LabsE [] 0 w) := new_none none 0 w (by unfold maxLen; omega)

set_option maxHeartbeats 6400000 in
set_option maxRecDepth 100000 in
theorem labelTurns_walk (a0 : Option Addr) (len0 cap0 : Nat) (ls0 : List Lab) (w : World) (w0 : ls0.length = len0 ∧ HasLabs w a0 cap0 ls0) (a1 : Int) (w1 : (Lit.int .i64 a1).wf = true)
    (a2 : Option Addr) (len2 cap2 : Nat) (ss2 : List ByteArray) (w2 : ss2.length = len2 ∧ HasStrs w a2 cap2 ss2) :
    Calls Try.prog 8 #[.slice a0 len0 cap0, .int .i64 a1, .slice a2 len2 cap2] w fun e w' => e = .returned (.bool true) ∧ Below w.heap.size w w' := by
  obtain ⟨rfl, h0⟩ := w0
  obtain ⟨rfl, h2⟩ := w2
  have bd := bounds_i64 w1
  obtain ⟨i0, hi, hz0, hz1, hz2⟩ := info_partsL Try.infoL
  obtain ⟨i1, hi1, hy0, hy1, hy2⟩ := info_parts Try.infoS
  have HF0 := Lib.hid (fun V (hV : HasLabs V a0 cap0 ls0) => few_any a0 cap0 ls0 V hV)
  have HF2 := Lib.hid (fun V (hV : HasStrs V a2 cap2 ss2) => names_any a2 cap2 ss2 V hV)
  have H0 := Lib.hid h0
  have H2 := Lib.hid h2
  have hlen := fewL_len ls0
  clear h0 h2 w1
  go_enter Try.func8, Try.ntmps8
  go_upto_region 2 with (first | (go_at_call 23; (with_reducible refine (HF2.out _ (H2.out.call hbf)).mono ?_); rintro e WA ⟨p', q', rfl, hN, hbg⟩) | (go_at_call 10; (with_reducible refine (HF0.out _ H0.out).mono ?_); rintro e wa ⟨p, q, rfl, hL, hbf⟩))
  have hL1 := hL.call hbg
  have hB := bthen hbf hbg
  have HBA := Lib.hid hB
  clear hL hbf hbg hB
  generalize fewL ls0 = L at *
  generalize namesL ss2 = N at *
  by_cases hL0 : L = []
  · subst hL0
    go_wp2_with (first
      | (go_at_call 11; refine (turns_none _).mono ?_; rintro e w3 ⟨x, y, rfl, hX, hb3⟩)
      | (go_at_call 19; refine (alive_any _).mono ?_; rintro e w4 ⟨rfl, hb4⟩))
    go_ret
    exact ⟨rfl, HBA.out.trans ((bthen hb3 hb4).mono HBA.out.size)⟩
  have hpos : 0 < L.length := List.length_pos_iff.2 hL0
  obtain ⟨b, off, rfl, hbb, hcell⟩ := hL1.some 0 hpos
  have hq1 := hL1.1
  have hq2 := hL1.2.1
  unfold maxLen at hq2
  have hl0 : ((L.length : Int) == 0) = false := by rw [beq_eq_false_iff_ne]; omega
  have HLA := Lib.hid hL1
  have HNA := Lib.hid hN
  clear hL0 hcell hL1 hN
  go_upto_region 5 with fail
  go_cut [1] (fun v wx => ∃ r : Nat, r < L.length ∧ v = .int .i64 r ∧ WA = wx)
  case first =>
    have h1 : (a1.tmod (L.length : Int)) < L.length ∧ -(L.length : Int) < a1.tmod (L.length : Int) := by
      have := Int.tmod_lt_of_pos a1 (b := (L.length : Int)) (by omega)
      have h2 := Int.lt_tmod_of_pos a1 (b := (L.length : Int)) (by omega)
      omega
    have h2 : 0 ≤ (a1.tmod (L.length : Int) + L.length).tmod (L.length : Int) ∧ (a1.tmod (L.length : Int) + L.length).tmod (L.length : Int) < L.length := by
      refine ⟨Int.tmod_nonneg _ (by omega), Int.tmod_lt_of_pos _ (by omega)⟩
    have H12 := Lib.hid (And.intro h1 h2)
    clear h1 h2
    go_wp2_with fail
    go_meet
    obtain ⟨⟨g1, g2⟩, g3, g4⟩ := H12.out
    have hw : wrap64 (a1.tmod (L.length : Int) + (L.length : Int)) = a1.tmod (L.length : Int) + (L.length : Int) := wrap64_in (by omega) (by omega)
    exact ⟨((a1.tmod (L.length : Int) + L.length).tmod (L.length : Int)).toNat, by omega, by rw [hw]; congr 1; omega, rfl⟩
  case rest =>
    obtain ⟨r, hr, rfl, he⟩ := hcut
    subst he
    have hper := newP_perm (turn_perm L r)
    obtain ⟨⟨A, n⟩, hP⟩ : ∃ P, newP L = P := ⟨_, rfl⟩
    have hcase := newP_cases L
    rw [hP] at hcase hper
    have hnw := fun V (hV : HasLabs V (some ⟨b, off, none⟩) q L) => new_any (some ⟨b, off, none⟩) q L V hV
    rw [hP] at hnw
    have hll : ([] ++ L.drop r ++ L.take r).length = L.length := by simp; omega
    have hnd : ∀ a c V, HasLabs V a c ([] ++ L.drop r ++ L.take r) → Calls Try.prog 11 #[.slice a L.length c] V (LabsE A n V) := fun a c V hV => by
      have := new_any a c _ V hV
      rw [hll, List.nil_append, hper] at this
      exact this
    have hsa := fun a b c d V (h1 : HasLabs V a b A) (h2 : HasLabs V c d A) => rSame_any a c b d A A V h1 h2
    rw [decide_eq_true rfl] at hsa
    have HCASE := Lib.hid hcase
    have HNW := Lib.hid hnw
    have HND := Lib.hid hnd
    have HLL := Lib.hid hll
    have HSA := Lib.hid hsa
    clear hper hP hcase hnw hll hnd hsa bd
    go_upto_region 7 with (go_at_call 11; (with_reducible refine (HNW.out _ HLA.out).mono ?_); rintro e w3 ⟨x, y, rfl, hA3, hb3⟩)
    have hL3 := HLA.out.call hb3
    have hr1 : L.length - r = (L.drop r).length := by simp
    have hr2 : r = (L.take r).length := by simp; omega
    have hsl1 := fun W => run_from W b off L.length q r hr hq1
    have hsl2 := fun W => run_upto W b off L.length q r hr hq1
    have hbD : Below w3.heap.size w3 (w3.drew.alloc (.cells #[] 49)) := (below_drewN (Below.refl _ _) 1).alloc (Nat.le_refl _) _
    have hE : OwnL 49 (w3.drew.alloc (.cells #[] 49)) w3.heap.size (.slice (some ⟨w3.heap.size, 0, none⟩) 0 0) [] := OwnL.empty _ w3.drew
    have hD := (hL3.call hbD).drop r hr
    have HT := Lib.hid (fun V (hV : Below w3.heap.size w3 V) => (hL3.call hV).take r hr)
    have hd1 : ([] : List Lab).length + (L.drop r).length ≤ 1000000 := by simp; omega
    have hd2 : ([] ++ L.drop r).length + (L.take r).length ≤ 1000000 := by simp; omega
    have hsz : ∀ l ∈ [] ++ L.drop r ++ L.take r, l.1.size ≤ maxLen ∧ l.2.size ≤ maxLen := fun l hl => hL3.2.2.1 l ((turn_perm L r).subset (by simpa using hl))
    have HSZ := Lib.hid hsz
    have HR1 := Lib.hid hr1
    have HR2 := Lib.hid hr2
    have HD1 := Lib.hid hd1
    have HD2 := Lib.hid hd2
    have hzD : w3.heap.size ≤ (w3.drew.alloc (.cells #[] 49)).heap.size := hbD.size
    have hrq : (r : Int) ≤ (L.length : Int) := by omega
    clear hsz hr1 hr2 hd1 hd2
    go_region_held3 (fun w' => True) (trivial)
      (first
        | (refine step_appL (w3.drew.alloc (.cells #[] 49)) (by rfl) (.tmp 63) (.tmp 66) 22 (by rfl) w3.heap.size 49 i0 (.agg #[.string ⟨#[]⟩, .string ⟨#[]⟩]) Try.underlying22 hi hz0 hz1 hz2 rfl (.slice (some ⟨w3.heap.size, 0, none⟩) 0 0) [] (by rfl) hE (some ⟨b, off + r * 2, none⟩) (q - r) (L.length - r) (L.drop r) HR1.out (by rfl) hD HD1.out hzD ?_; intro v1 w4 hown4 hg4; have hb4 := hE.grown hbD hzD hg4)
        | (refine step_appL w4 (by rfl) (.tmp 67) (.tmp 70) 22 (by rfl) w3.heap.size 49 i0 (.agg #[.string ⟨#[]⟩, .string ⟨#[]⟩]) Try.underlying22 hi hz0 hz1 hz2 rfl v1 ([] ++ L.drop r) (by rfl) hown4 (some ⟨b, off, none⟩) q r (L.take r) HR2.out (by rfl) (HT.out _ hb4) HD2.out hb4.size ?_; intro v2 w5 hown5 hg5; have hb5 := hown4.grown hb4 hb4.size hg5; obtain ⟨a5, c5, rfl, hh5⟩ := hown5.labs HSZ.out; rw [HLL.out])
        | (go_at_call 11; refine (HND.out _ _ _ hh5).mono ?_; rintro e w6 ⟨x', y', rfl, hA6', hb6⟩))
    have hb36 := hb5.trans (hb6.mono hb5.size)
    have hA6 := hA3.call hb36
    have hBB : Below WA.heap.size WA w6 := bthen hb3 hb36
    have HBB := Lib.hid hBB
    have HN6 := Lib.hid (HNA.out.call hBB)
    clear hb4 hb5 hb6 hb3 hb36 hBB hown4 hown5 hg4 hg5 hh5 hL3 hbD hE hD hzD hA3 hsl1 hsl2
    rcases HCASE.out with ⟨A', hP', hpm, hrA⟩ | ⟨n', hP', hn⟩
    · obtain ⟨rfl, rfl⟩ : A' = A ∧ n = 0 := by simp only [Prod.mk.injEq] at hP'; exact ⟨hP'.1.symm, hP'.2⟩
      obtain ⟨hA8, _, _⟩ := (rightC_iff A').1 hrA
      have hna := fun V (hV : HasLabs V x y A') => new_any x y A' V hV
      rw [newP_right hrA] at hna
      have hoth := others_keep hrA N
      have hrK := keepL_right hrA N
      have hkk := keepL_keepL A' N
      have hk1 := fun V (hV : HasLabs V x y A') (hN : HasStrs V p' q' N) => keep_any x p' y q' A' N V hV hN
      rw [keepP_right hrA] at hk1
      obtain ⟨K, hK⟩ : ∃ K, keepL A' N = K := ⟨_, rfl⟩
      rw [hK] at hk1 hoth hrK hkk
      have hk2 := fun a c V (hV : HasLabs V a c K) (hN : HasStrs V p' q' N) => keep_any a p' c q' K N V hV hN
      rw [keepP_right hrK, hkk] at hk2
      have hk3 := fun a' c' V (hV : HasLabs V x y A') (hN : HasStrs V a' c' (othersL A' K)) => keep_any x a' y c' A' (othersL A' K) V hV hN
      rw [keepP_right hrA] at hk3
      obtain ⟨Oo, hO⟩ : ∃ Oo, keepL A' (othersL A' K) = Oo := ⟨_, rfl⟩
      rw [hO] at hk3 hoth
      have hwi := fun a c a' c' V (h1 : HasLabs V a c Oo) (h2 : HasLabs V a' c' K) => with_any a a' c c' Oo K V h1 h2
      rw [hoth] at hwi
      have hsk := fun a b c d V (h1 : HasLabs V a b K) (h2 : HasLabs V c d K) => rSame_any a c b d K K V h1 h2
      rw [decide_eq_true rfl] at hsk
      have HNAA := Lib.hid hna
      have HK1 := Lib.hid hk1
      have HK2 := Lib.hid hk2
      have HK3 := Lib.hid hk3
      have HWI := Lib.hid hwi
      have HSK := Lib.hid hsk
      have HA6 := Lib.hid hA6
      have hy1' := hA6.1
      have hy2' := hA6.2.1
      have HSZA := Lib.hid hA6.2.2.1
      unfold maxLen at hy2'
      clear hna hoth hrK hkk hk1 hk2 hk3 hwi hsk hK hO hpm hrA hP' HCASE
      go_upto_region 16 with (first
        | (go_at_call 16; (with_reducible refine (HSA.out _ _ _ _ _ hA6 hA6').mono ?_); rintro e w7 ⟨rfl, hb7⟩; have hA7 := hA6.call hb7; have hN7 := HN6.out.call hb7)
        | (go_at_call 19; (with_reducible refine (alive_any _).mono ?_); rintro e w8 ⟨rfl, hb8⟩; have hA8' := hA7.call hb8; have hN8 := hN7.call hb8)
        | (go_at_call 11; (with_reducible refine (HNAA.out _ hA8').mono ?_); rintro e w9 ⟨x9, y9, rfl, hC9, hb9⟩; have hA9 := hA8'.call hb9; have hN9 := hN8.call hb9)
        | (go_at_call 25; first | ((with_reducible refine (HK2.out _ _ _ hK10 hN10).mono ?_); rintro e WB ⟨x11, y11, rfl, hJ11, hb11⟩; have hA11 := hA10.call hb11; have hC11 := hC10.call hb11; have hK11 := hK10.call hb11) | ((with_reducible refine (HK1.out _ hA9 hN9).mono ?_); rintro e w10 ⟨x10, y10, rfl, hK10, hb10⟩; have hA10 := hA9.call hb10; have hC10 := hC9.call hb10; have hN10 := hN9.call hb10)))
      have hBC := bthen (bthen (bthen (bthen hb7 hb8) hb9) hb10) hb11
      have HBC := Lib.hid hBC
      have HAB := Lib.hid hA11
      have HCB := Lib.hid hC11
      have HKB := Lib.hid hK11
      have HJB := Lib.hid hJ11
      clear hBC hb7 hb8 hb9 hb10 hb11 hA7 hN7 hA8' hN8 hC9 hA9 hN9 hK10 hA10 hC10 hN10 hA11 hC11 hK11 hJ11 hA6 hA6'
      go_wp2_with fail
      go_loopw [19, 112] (fun v i wr => ∃ k : Nat, k ≤ A'.length ∧ i = .int .i64 k ∧ wr.ownsRow WB.heap.size 9 1 v (othersL (A'.take k) K).length (strsV (othersL (A'.take k) K)) ∧ Below WB.heap.size WB wr ∧ WB.heap.size ≤ wr.heap.size) (fun _ i _ => A'.length - (intOf i).toNat)
      case atStart => exact ⟨0, Nat.zero_le _, rfl, World.ownsRow_nil _ _ _ _, Below.refl _ _, Nat.le_refl _⟩
      case round =>
        obtain ⟨k, hk, rfl, hown, hbl, hz⟩ := hrel
        by_cases hkL : k < A'.length
        · obtain ⟨b9, off9, hxo, hbb9, hcell⟩ := (HAB.out.call hbl).some k hkL
          subst hxo
          obtain ⟨hc1, hc2⟩ := hcell k hkL
          have htk := others_take A' K k hkL
          have hol := others_len (A'.take k) K
          rw [List.length_take] at hol
          obtain ⟨X, hX⟩ : ∃ X, A'[k] = X := ⟨_, rfl⟩
          rw [hX] at hc1 hc2 htk
          obtain ⟨S, HS⟩ : ∃ S, Hid (othersL (A'.take k) K = S) := ⟨_, Lib.hid rfl⟩
          rw [HS.out] at hown htk hol
          have HTK := Lib.hid htk
          have hownW : (wr.alloc (.cells #[.string X.1, .string X.2] 49)).ownsRow WB.heap.size 9 1 u19 S.length (strsV S) := hown.alloc _
          have hbW := hbl.alloc hz (.cells #[.string X.1, .string X.2] 49)
          have hzW := hbW.size
          have hbx := Blk.new wr 49 #[.string X.1, .string X.2]
          have hgt := fun V (hV : HasLabs V x10 y10 K) => get_any x10 y10 K X.1 V hV
          have hem := str_empty (getL K X.1)
          have HGT := Lib.hid hgt
          clear hX htk hcell hown hbl hgt
          go_upto_region 19 with fail
          generalize wr.alloc (.cells #[.string X.1, .string X.2] 49) = W at *
          generalize wr.heap.size = B at *
          have q1 : W.cell? ⟨B, 0, none⟩ = some (.string X.1) := hbx.cell 0
          have hKW := HKB.out.call hbW
          by_cases hE : getL K X.1 = ⟨#[]⟩
          · rw [decide_eq_true hE] at hem
            have hsn : S ++ [X.1] = othersL (A'.take (k + 1)) K := by rw [HTK.out, if_pos hE]
            have HSN := Lib.hid hsn
            obtain ⟨G, hG⟩ : ∃ G, getL K X.1 = G := ⟨_, rfl⟩
            rw [hG] at HGT hem
            clear hE hsn hG
            go_upto_region 20 with (go_at_call 17; (with_reducible refine (HGT.out _ hKW).mono ?_); rintro e w3 ⟨rfl, hb3⟩)
            have hown3 : w3.ownsRow WB.heap.size 9 1 u19 S.length (strsV S) := World.ownsRow.kept hownW (row := none) ⟨hb3.os, hb3.tape, hb3.output, hb3.size, fun j hj _ => hb3.block j hj⟩ (by cases u19.ownBlock <;> simp)
            have hb4 := bthen hbW hb3
            have hz4 := hb4.size
            have hbx3 := hbx.call hb3
            clear q1 hownW hbx hbW hzW hb3
            have q1 : w3.cell? ⟨B, 0, none⟩ = some (.string X.1) := hbx3.cell 0
            go_wp2_with (at_builtin; refine wpList_push w3 rfl _ _ 40 rfl WB.heap.size 9 i1 (.string ⟨#[]⟩) 16 Try.underlying40 hi1 hy0 hy1 hy2 rfl u19 S.length (strsV S) rfl hown3 (.string X.1) rfl rfl ?c1 ?c2 hz4 ?_)
            case c1 => unfold maxLen; omega
            case c2 => omega
            intro g c2 w4 hown4 hg4
            have hb5 : Below WB.heap.size WB w4 := hb4.grown hg4 hz4 (fun g hg => (hown3.lt g hg).1)
            clear q1 hown3 hb4 hbx3 hg4
            go_wp2
            go_roundw
            case rel => exact ⟨k + 1, by omega, by go_num, by rw [← HSN.out, ← strsV_push, List.length_append]; exact hown4, hb5, hb5.size⟩
            case measure => simp [intOf]; omega
          · rw [decide_eq_false hE] at hem
            have hsn : S = othersL (A'.take (k + 1)) K := by rw [HTK.out, if_neg hE, List.append_nil]
            have HSN := Lib.hid hsn
            obtain ⟨G, hG⟩ : ∃ G, getL K X.1 = G := ⟨_, rfl⟩
            rw [hG] at HGT hem
            clear hE hsn hG
            go_wp2_with (go_at_call 17; (with_reducible refine (HGT.out _ hKW).mono ?_); rintro e w3 ⟨rfl, hb3⟩)
            have hown3 : w3.ownsRow WB.heap.size 9 1 u19 S.length (strsV S) := World.ownsRow.kept hownW (row := none) ⟨hb3.os, hb3.tape, hb3.output, hb3.size, fun j hj _ => hb3.block j hj⟩ (by cases u19.ownBlock <;> simp)
            have hb4 := bthen hbW hb3
            go_roundw
            case rel => exact ⟨k + 1, by omega, by go_num, by rw [← HSN.out]; exact hown3, hb4, hb4.size⟩
            case measure => simp [intOf]; omega
        · have htk : othersL (A'.take k) K = othersL A' K := by rw [List.take_of_length_le (by omega)]
          rw [htk] at hown
          obtain ⟨a5', c5', rfl, hNo⟩ := strs_of_own (ss := othersL A' K) hown (fun s hs => by
            obtain ⟨l, hl, rfl⟩ := List.mem_map.1 hs
            exact (HSZA.out l (List.mem_filter.1 hl).1).1)
          have hAr := HAB.out.call hbl
          have hCr := HCB.out.call hbl
          have hKr := HKB.out.call hbl
          have hJr := HJB.out.call hbl
          clear htk hown hk
          generalize othersL A' K = OT at *
          go_wp2_with (first
            | (go_at_call 25; (with_reducible refine (HK3.out _ _ _ hAr hNo).mono ?_); rintro e w12 ⟨x12, y12, rfl, hO12, hb12⟩; have hA12 := hAr.call hb12; have hC12 := hCr.call hb12; have hK12 := hKr.call hb12; have hJ12 := hJr.call hb12)
            | (go_at_call 24; (with_reducible refine (HWI.out _ _ _ _ _ hO12 hK12).mono ?_); rintro e w13 ⟨x13, y13, rfl, hW13, hb13⟩; have hA13 := hA12.call hb13; have hC13 := hC12.call hb13; have hK13 := hK12.call hb13; have hJ13 := hJ12.call hb13)
            | (go_at_call 16; first
                | ((with_reducible refine (HSA.out _ _ _ _ _ hW15 hA15).mono ?_); rintro e w16 ⟨rfl, hb16⟩)
                | ((with_reducible refine (HSK.out _ _ _ _ _ hJ14 hK14).mono ?_); rintro e w15 ⟨rfl, hb15⟩; have hA15 := hA14.call hb15; have hW15 := hW14.call hb15)
                | ((with_reducible refine (HSA.out _ _ _ _ _ hA13 hC13).mono ?_); rintro e w14 ⟨rfl, hb14⟩; have hA14 := hA13.call hb14; have hK14 := hK13.call hb14; have hJ14 := hJ13.call hb14; have hW14 := hW13.call hb14)))
          go_ret
          exact ⟨rfl, HBA.out.trans ((bthen HBB.out (bthen HBC.out (bthen (bthen (bthen (bthen (bthen hbl hb12) hb13) hb14) hb15) hb16))).mono HBA.out.size)⟩
    · obtain ⟨rfl, rfl⟩ : A = [] ∧ n = n' := by simp only [Prod.mk.injEq] at hP'; exact hP'
      have hs0 : ∀ a b c d V, HasLabs V a b [] → HasLabs V c d [] → Calls Try.prog 16 #[.slice a 0 b, .slice c 0 d] V (BoolB true V) := fun a b c d V (h1 : HasLabs V a b []) (h2 : HasLabs V c d []) => rSame_any a c b d [] [] V h1 h2
      have HS0 := Lib.hid hs0
      have hn1 : (n == 0) = false := by rw [beq_eq_false_iff_ne]; exact hn
      have hn2 : (n != 0) = true := by rw [bne, hn1]; rfl
      have hn3 : (n == n) = true := by rw [beq_iff_eq]
      have hn4 : (n != n) = false := by rw [bne, hn3]; rfl
      clear hs0 hP' hn HCASE
      go_wp2_with (first
        | (go_at_call 16; (with_reducible refine (HS0.out _ _ _ _ _ hA6 hA6').mono ?_); rintro e w7 ⟨rfl, hb7⟩)
        | (go_at_call 19; (with_reducible refine (alive_any _).mono ?_); rintro e w8 ⟨rfl, hb8⟩))
      go_ret
      exact ⟨rfl, HBA.out.trans ((bthen (bthen HBB.out hb7) hb8).mono HBA.out.size)⟩
end Go.Proofs.Ytlejejmcicecgaa
