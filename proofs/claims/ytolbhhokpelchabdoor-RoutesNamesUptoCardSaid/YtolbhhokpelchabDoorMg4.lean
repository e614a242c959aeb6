/- In a region that draws its order: an append of a row of texts to a slice of texts of the call's own. It speaks of no one program. -/
import Derived.Test.YtolbhhokpelchabDoorOwnS
import Derived.Test.YtolbhhokpelchabDoorAppend
import Derived.Test.YtolbhhokpelchabDoorMg3
import Derived.Deep.CutBlock
namespace Go.Proofs.YtolbhhokpelchabDoor
open Go.RowKit

/-- a row of texts, as what an append is handed -/
theorem src_texts {P : Program} {t e : Nat} {w : World} {a : Option Addr} {c : Nat} {ss : List ByteArray} (hk : P.underlying t = some (.slice e)) (h : HasStrs w a c ss) : Src P 1 t (.slice a ss.length c) ss.length (strsV ss) w := by
  obtain ⟨h1, h2, h3, h4⟩ := h
  rcases h4 with rfl | ⟨b, off, rfl, hb, hc⟩
  · cases a with
    | none => exact Src.ofNil w hk c
    | some a => exact Src.ofSlice w hk a 0 c [] (by simp) (fun j u hu => by simp at hu) (fun u hu => by cases hu)
  · refine Src.ofSlice w hk ⟨b, off, none⟩ ss.length c (strsV ss) (by simp [strsV]) (fun j u hu => ?_) (fun u hu => ?_)
    · have hj : j < ss.length := by
        have := (List.getElem?_eq_some_iff.1 hu).1
        simpa [strsV] using this
      have e0 : (⟨b, off, none⟩ : Addr).add j = ⟨b, off + j, none⟩ := by unfold Addr.add; split <;> simp_all
      rw [e0, hc j hj]
      simpa [strsV, hj] using hu
    · obtain ⟨_, _, rfl⟩ := List.mem_map.1 hu
      rfl
theorem strsV_app (a b : List ByteArray) : strsV (a ++ b) = strsV a ++ strsV b := by simp [strsV]
theorem step_appS {P : Program} (W : World) {ops : Array Oper} {o : Oper} {a : Act} {K : Act → World → Prop} {Q : Exit → Act → World → Prop} {E : Prop} (hgd : o.guard = none) (s x : Operand) (t : TypeId)
    (ho : o.op = .call { callee := .builtin .append, args := #[s, x], argTypes := #[t, t] })
    (base : Nat) (e : TypeId) (i : TypeInfo) (z : Value) (ht : P.underlying t = some (.slice e)) (hi : P.info? e = some i) (hz : i.zero = some z) (hsize : i.size = 1) (hby : i.bytes = 16) (hzs : z.cells.size = 1)
    (v : Value) (ss : List ByteArray) (hs : a.eval s = v) (hown : OwnS e W base v ss) (xa : Option Addr) (xn xc : Nat) (us : List ByteArray)
    (hx : a.eval x = .slice xa xn xc) (hxn : xn = us.length) (hsrc : HasStrs W xa xc us) (h63 : ss.length + us.length ≤ 1000000) (hbase : base ≤ W.heap.size)
    (h : ∀ (v' : Value) (w' : World), OwnS e w' base v' (ss ++ us) → W.grownBy w' v.ownBlock → K (a.put o.dst v') w') :
    if Region.wanted o (yielded ops a.tmps) = true then Oper.wp P o a W K Q else E := by
  have hw : Region.wanted o (yielded ops a.tmps) = true := by simp [Region.wanted, hgd]
  rw [if_pos hw]
  subst hxn
  have hsr := src_texts (P := P) ht hsrc
  unfold OwnS at hown
  rw [← hsize] at hown hsr
  obtain ⟨v', w', hr, h2, h3⟩ := run_append_src (P := P) W base t t o.type e i z 16 ht hi hz hby (by rw [hsize]; exact hzs) v ss.length (strsV ss) hown _ us.length (strsV us) hsr (by unfold maxLen; omega) (by omega) hbase
  rw [hsize] at h2
  unfold Oper.wp execOp
  simp only [ho, resolve, invoke, builtin, Sem.run_bind, Sem.run_pure, Result.andThen_ok, List.map_toArray, List.map_cons, List.map_nil, hs, hx, hr]
  refine h v' w' ?_ h3
  unfold OwnS
  rw [strsV_app, List.length_append]
  exact h2
/-- the first texts of a row, and those behind -/
theorem hasStrs_take {w : World} {a : Option Addr} {c : Nat} {ss : List ByteArray} (h : HasStrs w a c ss) (k : Nat) (hk : k ≤ ss.length) : HasStrs w a c (ss.take k) := by
  obtain ⟨h1, h2, h3, h4⟩ := h
  refine ⟨by rw [List.length_take]; omega, h2, fun s hs => h3 s (List.mem_of_mem_take hs), ?_⟩
  rcases h4 with rfl | ⟨b, off, rfl, hb, hc⟩
  · exact .inl (by simp)
  · refine .inr ⟨b, off, rfl, hb, fun i hi => ?_⟩
    have hi' : i < ss.length := by rw [List.length_take] at hi; omega
    rw [hc i hi']; simp
theorem hasStrs_drop {w : World} {b off c c' : Nat} {ss : List ByteArray} (h : HasStrs w (some ⟨b, off, none⟩) c ss) (k : Nat) (hk : k ≤ ss.length) (hc : c' = c - k) : HasStrs w (some ⟨b, off + k, none⟩) c' (ss.drop k) := by
  obtain ⟨h1, h2, h3, h4⟩ := h
  refine ⟨by rw [List.length_drop]; omega, by omega, fun s hs => h3 s (List.mem_of_mem_drop hs), ?_⟩
  rcases h4 with rfl | ⟨b2, o2, e, hb, hc⟩
  · exact .inl (by simp)
  · cases e
    refine .inr ⟨b, off + k, rfl, hb, fun i hi => ?_⟩
    have hi' : k + i < ss.length := by rw [List.length_drop] at hi; omega
    rw [Nat.add_assoc, hc (k + i) hi']; simp
theorem OwnS.made (T : TypeId) (w : World) : OwnS T (w.alloc (.cells #[] T)) w.heap.size (.slice (some ⟨w.heap.size, 0, none⟩) 0 0) [] := by
  refine ⟨rfl, .inr ⟨w.heap.size, 0, #[], rfl, Nat.le_refl _, ?_, Nat.le_refl _, by unfold maxLen; omega, rfl, rfl⟩⟩
  show (w.heap.push _)[w.heap.size]? = _; simp
end Go.Proofs.YtolbhhokpelchabDoor
/- The contract of the document's own Once: a row of texts, each of them once. -/
namespace Go.Proofs.YtolbhhokpelchabDoor
open Go.RowKit

theorem any_snoc (K : List ByteArray) (s x : ByteArray) : (K ++ [x]).any (fun y => decide (y = s)) = (K.any (fun y => decide (y = s)) || decide (x = s)) := by
  rw [List.any_append]; simp
set_option maxHeartbeats 6400000 in
set_option maxRecDepth 100000 in
theorem rOnce_any (a : Option Addr) (c : Nat) (ss : List ByteArray) (w : World) (h : HasStrs w a c ss) (hl : ss.length ≤ 100000000) :
    Calls Tryd.prog 19 #[.slice a ss.length c] w (RowP (onceL ss) w) := by
  obtain ⟨i1, hj, hy0, hy1, hy2⟩ := info_parts Tryd.infoS
  obtain ⟨h1, h2, h3, h4⟩ := h
  have hown := OwnS.made 9 w
  have hb := (Below.refl w.heap.size w).alloc (Nat.le_refl _) (.cells #[] 9)
  have hz : w.heap.size ≤ (w.alloc (.cells #[] 9)).heap.size := hb.size
  go_enter Tryd.func19, Tryd.ntmps19
  go_upto_region 2 with fail
  generalize w.alloc (.cells #[] 9) = w1 at *
  have H3 := Lib.hid h3
  have H4 := Lib.hid h4
  clear h3 h4
  by_cases hl0 : ss.length = 0
  · obtain rfl : ss = [] := List.eq_nil_of_length_eq_zero hl0
    have HOW := Lib.hid hown
    have HB := Lib.hid hb
    clear hown hb hz h1 h2 hl hl0
    simp only [List.length_nil]
    go_wp2_with fail
    refine wp_loop_rounds 1 ?_
    rw [rounds_succ]
    go_wp2_with fail
    go_ret
    obtain ⟨a', c', e, hs⟩ := HOW.out.strs (fun s hs => by cases hs)
    simp only [Value.slice.injEq, List.length_nil] at e
    obtain ⟨rfl, _, rfl⟩ := e
    exact ⟨_, _, rfl, hs, HB.out⟩
  · have hS : ∃ b off, a = some ⟨b, off, none⟩ ∧ b < w.heap.size ∧ ∀ i (h : i < ss.length), w.cell? ⟨b, off + i, none⟩ = some (.string ss[i]) := by
      rcases H4.out with h | h
      · exact absurd (by rw [h]; rfl) hl0
      · exact h
    obtain ⟨b, off, rfl, hbl, hcell⟩ := hS
    have HC := Lib.hid hcell
    clear hcell H4 hl0
    go_wp2_with fail
    go_loopg [12, 3] ss.length (fun gg iv v wr => ∃ (k : Nat), k + gg = ss.length ∧ iv = .int .i64 (k : Int) ∧ OwnS 9 wr w.heap.size v (onceL (ss.take k)) ∧ Below w.heap.size w wr)
    case atStart => exact ⟨0, by omega, rfl, by simpa [onceL] using hown, hb⟩
    case round =>
      obtain ⟨k, hkg, rfl, hownk, hbk⟩ := hrel
      obtain ⟨ra, rc, rfl, hrl, hrm⟩ := hownk.form
      unfold maxLen at hrm
      cases gk with
      | zero =>
        obtain rfl : k = ss.length := by omega
        rw [List.take_length] at hownk hrl
        simp only [List.take_length]
        have HOW := Lib.hid hownk
        have HB := Lib.hid hbk
        clear hownk hbk hown hb
        go_wp2_with fail
        go_ret
        obtain ⟨a', c', e, hs⟩ := HOW.out.strs (fun s hs => H3.out s ((mem_once _ s).1 hs))
        simp only [Value.slice.injEq] at e
        obtain ⟨rfl, _, rfl⟩ := e
        exact ⟨_, _, rfl, hs, HB.out⟩
      | succ gg =>
        have hkl : k < ss.length := by omega
        obtain ⟨s, hsk⟩ : ∃ s, ss[k] = s := ⟨_, rfl⟩
        have htk : ss.take (k + 1) = ss.take k ++ [s] := by rw [← hsk, List.take_add_one, List.getElem?_eq_getElem hkl]; rfl
        have hck := (hbk.cell (p := ⟨b, off + k, none⟩) hbl).trans (HC.out k hkl)
        rw [hsk] at hck
        have honce := onceL_snoc (ss.take k) s
        rw [← htk] at honce
        have hkm : (onceL (ss.take k)).length ≤ 100000000 := Nat.le_trans (once_len _) (by rw [List.length_take]; omega)
        have hsz : ∀ x ∈ onceL (ss.take k), x.size ≤ maxLen := fun x hx => H3.out x (List.mem_of_mem_take ((mem_once _ x).1 hx))
        have HON := Lib.hid honce
        clear hsk htk honce
        generalize onceL (ss.take k) = K at *
        have HBK := Lib.hid hbk
        clear hbk hown hb
        go_upto_block 2 with fail
        clear hck
        obtain ⟨B, hB⟩ : ∃ B, K.any (fun x => decide (x = s)) = B := ⟨_, rfl⟩
        have HB := Lib.hid hB
        clear hB
        go_cut [6] (fun v wy => v = .bool B ∧ wy = wr)
        case first =>
          by_cases hk0 : K.length = 0
          · obtain rfl : K = [] := List.eq_nil_of_length_eq_zero hk0
            obtain rfl : false = B := by have := HB.out; simpa using this
            simp only [List.length_nil] at *
            go_wp2_with fail
            refine wp_loop_rounds 1 ?_
            rw [rounds_succ]
            go_wp2_with fail
            go_meet
            exact ⟨rfl, rfl⟩
          · have hKs : ∃ g o, ra = some ⟨g, o, none⟩ ∧ ∀ i (h : i < K.length), wr.cell? ⟨g, o + i, none⟩ = some (.string K[i]) := by
              obtain ⟨a', c', e, hs⟩ := hownk.strs hsz
              simp only [Value.slice.injEq] at e
              obtain ⟨rfl, _, rfl⟩ := e
              obtain ⟨_, _, _, h | ⟨g, o, e, _, hc⟩⟩ := hs
              · exact absurd (by rw [h]; rfl) hk0
              · exact ⟨g, o, e, hc⟩
            obtain ⟨g, o, rfl, hgc⟩ := hKs
            have HGC := Lib.hid hgc
            clear hgc hk0 hownk
            go_wp2_with fail
            go_loopg [18, 6] K.length (fun gg jv bv wy => ∃ (j : Nat), j + gg = K.length ∧ jv = .int .i64 (j : Int) ∧ bv = .bool ((K.take j).any (fun x => decide (x = s))) ∧ wy = wr)
            case atStart => exact ⟨0, by omega, rfl, rfl, rfl⟩
            case round =>
              obtain ⟨j, hjg, rfl, rfl, rfl⟩ := hrel
              cases gk with
              | zero =>
                obtain rfl : j = K.length := by omega
                rw [List.take_length, HB.out]
                go_wp2_with fail
                go_meet
                exact ⟨rfl, rfl⟩
              | succ gi =>
                have hjl : j < K.length := by omega
                obtain ⟨x, hx⟩ : ∃ x, K[j] = x := ⟨_, rfl⟩
                have hcj := HGC.out j hjl
                rw [hx] at hcj
                have hta : (K.take (j + 1)).any (fun y => decide (y = s)) = ((K.take j).any (fun y => decide (y = s)) || decide (x = s)) := by
                  rw [List.take_add_one, List.getElem?_eq_getElem hjl, hx]
                  exact any_snoc _ _ _
                have he := strEq x s
                have HTA := Lib.hid hta
                clear hta hx
                generalize (K.take j).any (fun x => decide (x = s)) = B1 at *
                generalize decide (x = s) = B2 at *
                cases B1 with
                | true =>
                  go_wp2_with fail
                  go_roundg gi
                  case measure => omega
                  case rel => exact ⟨j + 1, by omega, by go_num, by rw [HTA.out]; rfl, rfl⟩
                | false =>
                  go_wp2_with fail
                  go_roundg gi
                  case measure => omega
                  case rel => exact ⟨j + 1, by omega, by go_num, by rw [HTA.out, Bool.false_or], rfl⟩
        case rest =>
          obtain ⟨rfl, rfl⟩ := hcut
          have hz4 := HBK.out.size
          cases B with
          | true =>
            have hstep : onceL (ss.take (k + 1)) = K := by rw [HON.out]; unfold stepO; rw [if_pos HB.out]
            have HST := Lib.hid hstep
            clear hstep hz4
            go_wp2_with fail
            go_roundg gg
            case measure => omega
            case rel => exact ⟨k + 1, by omega, by go_num, by rw [HST.out]; exact hownk, HBK.out⟩
          | false =>
            have hstep : onceL (ss.take (k + 1)) = K ++ [s] := by rw [HON.out]; unfold stepO; rw [HB.out, if_neg (by decide)]
            have HST := Lib.hid hstep
            clear hstep
            go_wp2_with (refine wpList_push wc (by rfl) (.tmp 31) (.tmp 33) 23 (by rfl) w.heap.size 9 i1 (.string ⟨#[]⟩) 16 Tryd.underlying23 hj hy0 hy1 hy2 rfl (.slice ra K.length rc) K.length (strsV K) (by rfl) hownk (.string s) (by rfl) rfl (by unfold maxLen; omega) (by omega) hz4 ?_; intro g' c' w5 ho5 hg5)
            have hfin : OwnS 9 w5 w.heap.size (.slice (some ⟨g', 0, none⟩) (K.length + 1) c') (K ++ [s]) := by unfold OwnS; rw [List.length_append, ← strsV_push]; exact ho5
            have hb5 := OwnS.grown hownk HBK.out (Nat.le_refl _) hz4 hg5
            have HFIN := Lib.hid hfin
            have HB5 := Lib.hid hb5
            clear hfin hb5 ho5 hg5
            go_roundg gg
            case measure => omega
            case rel => exact ⟨k + 1, by omega, by go_num, by rw [HST.out]; exact HFIN.out, HB5.out⟩
end Go.Proofs.YtolbhhokpelchabDoor
