/- The contract of the document's own Sorted of layer 3. -/
import Derived.Test.YtjigdmmlgddgpabLabY
namespace Go.Proofs.Ytjigdmmlgddgpab
open Go.RowKit

def insAt (O : List Lab) (k : Nat) (m : Lab) : List Lab := O.take k ++ [m] ++ O.drop k
theorem insAt_perm (O : List Lab) (k : Nat) (m : Lab) : (insAt O k m).Perm (O ++ [m]) := by
  have h1 : (O.take k ++ [m] ++ O.drop k).Perm (O.take k ++ O.drop k ++ [m]) := by
    rw [List.append_assoc, List.append_assoc]
    exact List.Perm.append_left _ List.perm_append_comm
  rwa [List.take_append_drop] at h1
theorem insAt_ws {O : List Lab} {k : Nat} {m : Lab} (h : WS O) (hk : k ≤ O.length) (hup : ∀ j (hj : j < O.length), k ≤ j → ltL m O[j] = true) (hlo : k = 0 ∨ ∃ hj : k - 1 < O.length, ltL m (O[k - 1]'hj) = false) : WS (insAt O k m) := by
  have hsplit : WS (O.take k ++ O.drop k) := by rw [List.take_append_drop]; exact h
  obtain ⟨p1, p2, p3⟩ := List.pairwise_append.1 hsplit
  have hlow : ∀ a ∈ O.take k, ltL m a = false := by
    intro a ha
    obtain ⟨i, hi, rfl⟩ := List.getElem_of_mem ha
    rw [List.length_take] at hi
    rw [List.getElem_take]
    rcases hlo with h0 | ⟨hj, hlt⟩
    · omega
    · rcases Nat.lt_or_ge i (k - 1) with hik | hik
      · exact ltL_ntrans hlt (List.pairwise_iff_getElem.1 h i (k - 1) (by omega) hj hik)
      · have : i = k - 1 := by omega
        subst this
        exact hlt
  have hhigh : ∀ b ∈ O.drop k, ltL m b = true := by
    intro b hb
    obtain ⟨i, hi, rfl⟩ := List.getElem_of_mem hb
    rw [List.length_drop] at hi
    rw [List.getElem_drop]
    exact hup (k + i) (by omega) (by omega)
  unfold insAt
  refine List.pairwise_append.2 ⟨List.pairwise_append.2 ⟨p1, List.pairwise_singleton _ _, fun a ha b hb => ?_⟩, p2, fun a ha b hb => ?_⟩
  · simp at hb; subst hb; exact hlow a ha
  · rcases List.mem_append.1 ha with ha | ha
    · exact p3 a ha b hb
    · simp at ha; subst ha; exact ltL_asymm (hhigh b hb)

/-- slices of whatever row of labels -/
def atL (a : Option Addr) (c r : Nat) : Option Addr := if c = r then a else a.map (·.add (r * 2))
theorem HasLabs.dropA {w : World} {a : Option Addr} {c : Nat} {ls : List Lab} (h : HasLabs w a c ls) (r : Nat) (hr : r ≤ ls.length) : HasLabs w (atL a c r) (c - r) (ls.drop r) := by
  obtain ⟨h1, h2, h3, h4⟩ := h
  refine ⟨by rw [List.length_drop]; omega, by omega, fun l hl => h3 l (List.mem_of_mem_drop hl), ?_⟩
  by_cases hr2 : r = ls.length
  · left; subst hr2; exact List.drop_length
  · rcases h4 with rfl | ⟨b, off, rfl, hlt, hc⟩
    · simp at hr hr2; omega
    · have hcr : c ≠ r := by omega
      refine .inr ⟨b, off + r * 2, by rw [atL, if_neg hcr]; simp [Addr.add], hlt, fun i hi => ?_⟩
      rw [List.length_drop] at hi
      obtain ⟨k1, k2⟩ := hc (r + i) (by omega)
      rw [List.getElem_drop]
      exact ⟨by rw [show off + r * 2 + i * 2 = off + (r + i) * 2 by omega]; exact k1, by rw [show off + r * 2 + i * 2 + 1 = off + (r + i) * 2 + 1 by omega]; exact k2⟩
theorem HasLabs.takeA {w : World} {a : Option Addr} {c : Nat} {ls : List Lab} (h : HasLabs w a c ls) (r : Nat) (hr : r ≤ ls.length) : HasLabs w (atL a c 0) c (ls.take r) := by
  obtain ⟨h1, h2, h3, h4⟩ := h
  refine ⟨by rw [List.length_take]; omega, h2, fun l hl => h3 l (List.mem_of_mem_take hl), ?_⟩
  by_cases hr2 : r = 0
  · left; subst hr2; rfl
  · rcases h4 with rfl | ⟨b, off, rfl, hlt, hc⟩
    · simp at hr; omega
    · have hcr : c ≠ 0 := by omega
      refine .inr ⟨b, off, by rw [atL, if_neg hcr]; simp [Addr.add], hlt, fun i hi => ?_⟩
      rw [List.length_take] at hi
      rw [List.getElem_take]
      exact hc i (by omega)
theorem run_fromA (w : World) (a : Option Addr) (n q r : Nat) (hr : r ≤ n) :
    (Instr.slice 22 (.slice a n q) (some (.int .i64 (r : Int))) none none).run Try.prog w = .ok (.slice (atL a q r) (n - r) (q - r)) w := by
  have he : Try.prog.elem 22 = 37 := by kernel_rfl
  have ht : Try.prog.underlying 22 = some (.slice (Try.prog.elem 22)) := by rw [he]; exact Try.underlying22
  rw [run_slice_l (P := Try.prog) w 22 a n q ht .i64 (r : Int) (by omega) (by omega)]
  have hs : (sizeOf (Try.prog.elem 22)).run Try.prog w = .ok 2 w := by rw [he]; exact Try.sizeOf37 w
  rw [hs]
  simp [Result.andThen, sliced, atL]
theorem run_uptoA (w : World) (a : Option Addr) (n q r : Nat) (hr : r ≤ q) :
    (Instr.slice 22 (.slice a n q) none (some (.int .i64 (r : Int))) none).run Try.prog w = .ok (.slice (atL a q 0) r q) w := by
  have he : Try.prog.elem 22 = 37 := by kernel_rfl
  have ht : Try.prog.underlying 22 = some (.slice (Try.prog.elem 22)) := by rw [he]; exact Try.underlying22
  rw [run_slice_h (P := Try.prog) w 22 a n q ht .i64 (r : Int) (by omega) (by omega)]
  have hs : (sizeOf (Try.prog.elem 22)).run Try.prog w = .ok 2 w := by rw [he]; exact Try.sizeOf37 w
  rw [hs]
  simp [Result.andThen, sliced, atL]
theorem OwnL.base {T : TypeId} {w : World} {b b' : Nat} {v : Value} {l : List Lab} (h : OwnL T w b v l) (hb : b' ≤ b) : OwnL T w b' v l := by
  obtain ⟨h1, h2⟩ := h
  refine ⟨h1, ?_⟩
  rcases h2 with h2 | ⟨g, cap, cur, hv, hg, r⟩
  · exact .inl h2
  · exact .inr ⟨g, cap, cur, hv, Nat.le_trans hb hg, r⟩
theorem wpList_appL' {P : Program} (w : World) {ops : Array Oper} {rest : List Oper} {o : Oper} {a : Act} {Q : Exit → Act → World → Prop} (hgd : o.guard = none) (s x : Operand) (t : TypeId)
    (ho : o.op = .call { callee := .builtin .append, args := #[s, x], argTypes := #[t, t] })
    (base : Nat) (e : TypeId) (i : TypeInfo) (z : Value) (ht : P.underlying t = some (.slice e)) (hi : P.info? e = some i) (hz : i.zero = some z) (hsize : i.size = 2) (hby : i.bytes = 32) (hzs : z.cells.size = 2)
    (v : Value) (ls : List Lab) (hs : a.eval s = v) (hown : OwnL e w base v ls) (b : Option Addr) (c n : Nat) (ms : List Lab) (hn : n = ms.length) (hx : a.eval x = .slice b n c) (hL : HasLabs w b c ms)
    (h63 : ls.length + ms.length ≤ 1000000) (hbase : base ≤ w.heap.size)
    (h : ∀ (v' : Value) (w' : World), OwnL e w' base v' (ls ++ ms) → w.grownBy w' v.ownBlock → wpList P ops Q rest (a.put o.dst v') w') : wpList P ops Q (o :: rest) a w := by
  subst hn
  exact wpList_appL w hgd s x t ho base e i z ht hi hz hsize hby hzs v ls hs hown b c ms hx hL h63 hbase h

def SortedPost (ls : List Lab) (w : World) (e : Ending) (w' : World) : Prop :=
  ∃ out a c, e = .returned (.slice a out.length c) ∧ HasLabs w' a c out ∧ out.Perm ls ∧ WS out ∧ Below w.heap.size w w'

set_option maxHeartbeats 6400000 in
set_option maxRecDepth 100000 in
theorem rSorted_any (a : Option Addr) (c : Nat) (ls : List Lab) (w : World) (h : HasLabs w a c ls) (hl : ls.length ≤ 1000) :
    Calls Try.prog 31 #[.slice a ls.length c] w (SortedPost ls w) := by
  obtain ⟨i0, hi, hz0, hz1, hz2⟩ := info_partsL Try.infoL
  have HL := Lib.hid h
  have HS := Lib.hid h.2.2.1
  have h2 := h.2.1
  have h1 := h.1
  unfold maxLen at h2
  clear h
  go_enter Try.func31, Try.ntmps31
  go_wp2_with fail
  go_loopw [3, 11, 6, 7] (fun v i _ _ wr => ∃ (k : Nat) (O : List Lab), k ≤ ls.length ∧ i = .int .i64 k ∧ OwnL 37 wr w.heap.size v O ∧ O.Perm (ls.take k) ∧ WS O ∧ Below w.heap.size w wr ∧ w.heap.size ≤ wr.heap.size) (fun _ i _ _ _ => ls.length - (intOf i).toNat)
  case atStart => exact ⟨0, [], Nat.zero_le _, rfl, OwnL.empty _ w, List.Perm.refl _, List.Pairwise.nil, (Below.refl _ _).alloc (Nat.le_refl _) _, by simp⟩
  case round =>
    obtain ⟨k, O, hk, rfl, hown, hpm, hws, hb, hz⟩ := hrel
    have HPM := Lib.hid hpm
    have HWS := Lib.hid hws
    have hOl : O.length = k := by rw [hpm.length_eq, List.length_take]; omega
    have hszO : ∀ l ∈ O, l.1.size ≤ maxLen ∧ l.2.size ≤ maxLen := fun l hl => HS.out l (List.mem_of_mem_take (hpm.subset hl))
    have HSO := Lib.hid hszO
    have hOl1 : O.length ≤ 1000 := by omega
    clear hpm hws hOl hszO
    by_cases hkl : k < ls.length
    · obtain ⟨b, off, rfl, hbb, hcell⟩ := (HL.out.call hb).some k hkl
      obtain ⟨hc1, hc2⟩ := hcell k hkl
      have hm := HS.out ls[k] (List.getElem_mem _)
      have htk : ls.take (k + 1) = ls.take k ++ [ls[k]] := List.take_succ_eq_append_getElem hkl
      obtain ⟨X, hX⟩ : ∃ X, ls[k] = X := ⟨_, rfl⟩
      rw [hX] at hc1 hc2 htk hm
      have HTK := Lib.hid htk
      obtain ⟨hm1, hm2⟩ := hm
      obtain ⟨p, q, rfl, hLO⟩ := hown.labs HSO.out
      have hownW := hown.alloc (.cells #[.string X.1, .string X.2] 37)
      have hbW := hb.alloc hz (.cells #[.string X.1, .string X.2] 37)
      have hzW := hbW.size
      have hbx := Blk.new wr 37 #[.string X.1, .string X.2]
      have hLOW := hLO.call ((Below.refl _ _).alloc (Nat.le_refl _) (.cells #[.string X.1, .string X.2] 37))
      have hq1 := hLO.1
      have hq2 := hLO.2.1
      unfold maxLen at hq2
      clear hX htk hcell hown hb hLO
      go_upto_region 5 with fail
      generalize wr.alloc (.cells #[.string X.1, .string X.2] 37) = W at *
      generalize wr.heap.size = B at *
      have HLW := Lib.hid hLOW
      have HBX := Lib.hid hbx
      clear hLOW hbx
      go_wp2_with fail
      go_loopw [6] (fun i wi => ∃ j : Nat, j ≤ O.length ∧ i = .int .i64 j ∧ (∀ t (ht : t < O.length), j ≤ t → ltL X O[t] = true) ∧ Below W.heap.size W wi) (fun i _ => (intOf i).toNat)
      case atStart => exact ⟨O.length, Nat.le_refl _, rfl, fun t ht h => absurd ht (by omega), Below.refl _ _⟩
      case round =>
        obtain ⟨j, hj, rfl, hup, hbi⟩ := hrel
        have HUP := Lib.hid hup
        have hbxi := HBX.out.call hbi
        clear hup
        have hup' := HUP.out
        obtain ⟨wi0, hwi0⟩ : ∃ wi0, wr = wi0 := ⟨_, rfl⟩
        subst hwi0
        have q1l : ∀ x, (later wr x).cell? ⟨B, 0, none⟩ = some (.string X.1) := fun x => later_cell (hbxi.cell 0) x
        rcases Nat.eq_zero_or_pos j with hj0 | hj0
        · subst hj0
          go_wp2_with fail
          refine wp_region_later (by kernel_rfl) (by kernel_rfl) ?_
          repeat (go_big_quiet_step (fail))
          refine wpQuiet_nil ?_
          rintro _ ⟨x, rfl⟩
          have hb6 := bthen hbi (later_below wr x)
          generalize later wr x = w6 at *
          clear hbxi q1l
          have hws2 := insAt_ws HWS.out hj HUP.out (by first | exact .inl rfl | exact HLO.out)
          have HW2 := Lib.hid hws2
          have hown6 := hownW.call hb6
          have hL6 := HLW.out.call hb6
          have hbx6 := HBX.out.call hb6
          have hbA := bthen (Below.refl W.heap.size W) hb6
          have hbw6 : Below w.heap.size w w6 := hbW.trans (hb6.mono hzW)
          have hB6 : B < w6.heap.size := hbx6.lt
          have hE : OwnL 37 (w6.alloc (.cells #[] 37)) w6.heap.size (.slice (some ⟨w6.heap.size, 0, none⟩) 0 0) [] := OwnL.empty _ w6
          have hbE : Below w6.heap.size w6 (w6.alloc (.cells #[] 37)) := (Below.refl _ _).alloc (Nat.le_refl _) _
          have hzE := hbE.size
          have hTk := (hL6.call hbE).takeA 0 hj
          have hsl1 : ∀ V, (Instr.slice 22 (.slice p O.length q) none (some (.int .i64 (0))) none).run Try.prog V = .ok (.slice (atL p q 0) 0 q) V := fun V => by have h9 := run_uptoA V p O.length q 0 (by omega); simpa using h9
          have hsl2 : ∀ V, (Instr.slice 22 (.slice p O.length q) (some (.int .i64 (0))) none none).run Try.prog V = .ok (.slice (atL p q 0) (O.length - 0) (q - 0)) V := fun V => by have h9 := run_fromA V p O.length q 0 hj; simpa using h9
          have hn1 : 0 = (O.take 0).length := by rw [List.length_take]; omega
          have hn2 : O.length - 0 = (O.drop 0).length := by rw [List.length_drop]
          have hne : some B ≠ (Value.slice (some ⟨w6.heap.size, 0, none⟩) 0 0).ownBlock := by simp [Value.ownBlock]; omega
          obtain ⟨TK, HTT⟩ : ∃ TK, Hid (O.take 0 = TK) := ⟨_, Lib.hid rfl⟩
          obtain ⟨DR, HDD⟩ : ∃ DR, Hid (O.drop 0 = DR) := ⟨_, Lib.hid rfl⟩
          rw [HTT.out] at hTk hn1
          rw [HDD.out] at hn2
          have HN1 := Lib.hid hn1
          have HN2 := Lib.hid hn2
          have htl : TK.length ≤ 1000 := by omega
          have hdl : DR.length ≤ 1000 := by omega
          have hbx6E := hbx6.call hbE
          clear hn1 hn2 hup' hws2 hb6 hownW hbW hzW HL
          go_wp2_with (at_builtin; refine (wpList_appL' (w6.alloc (.cells #[] 37)) rfl _ _ 22 rfl w6.heap.size 37 i0 (.agg #[.string ⟨#[]⟩, .string ⟨#[]⟩]) Try.underlying22 hi hz0 hz1 hz2 rfl (.slice (some ⟨w6.heap.size, 0, none⟩) 0 0) [] rfl hE (atL p q 0) q 0 TK HN1.out rfl hTk (by simp; omega) hzE ?_))
          intro v8 w8 hown8 hg8
          have hb8 := hE.grown hbE hzE hg8
          have hz8 := hb8.size
          have hbx8 := hbx6E.push hg8 hne
          have q1 : w8.cell? ⟨B, 0, none⟩ = some (.string X.1) := hbx8.cell 0
          have q2 : w8.cell? ⟨B, 1, none⟩ = some (.string X.2) := hbx8.cell 1
          try rw [List.nil_append] at hown8
          clear hE hbE hzE hg8 hTk hne hbx6E
          go_wp2_with (at_builtin; refine (wpList_pushL w8 rfl _ _ 22 rfl w6.heap.size 37 i0 (.agg #[.string ⟨#[]⟩, .string ⟨#[]⟩]) Try.underlying22 hi hz0 hz1 hz2 rfl v8 TK X rfl hown8 [.string X.1, .string X.2] rfl rfl (by omega) hz8 ?_))
          intro v9 w9 hown9 hg9
          have hb9 := hown8.grown hb8 hz8 hg9
          have hz9 := hb9.size
          have hDr := (hL6.call hb9).dropA 0 hj
          rw [HDD.out] at hDr
          have hsum : (TK ++ [X]).length + DR.length ≤ 1000000 := by rw [List.length_append]; simp only [List.length_cons, List.length_nil]; omega
          obtain ⟨TX, HTX⟩ : ∃ TX, Hid (TK ++ [X] = TX) := ⟨_, Lib.hid rfl⟩
          rw [HTX.out] at hown9 hsum
          clear hown8 hb8 hz8 hg9 q1 q2 hbx8
          go_wp2_with (at_builtin; refine (wpList_appL' w9 rfl _ _ 22 rfl w6.heap.size 37 i0 (.agg #[.string ⟨#[]⟩, .string ⟨#[]⟩]) Try.underlying22 hi hz0 hz1 hz2 rfl v9 TX rfl hown9 (atL p q 0) (q - 0) (O.length - 0) DR HN2.out rfl hDr hsum hz9 ?_))
          intro v10 w10 hown10 hg10
          have hb10 := hown9.grown hb9 hz9 hg10
          have hbw10 := hbw6.trans (hb10.mono hbw6.size)
          have hins : insAt O 0 X = TX ++ DR := by rw [insAt, HTT.out, HDD.out, HTX.out]
          have HIN := Lib.hid hins
          clear hown9 hb9 hz9 hg10 hDr hsl1 hsl2 hins
          go_wp2
          go_roundw
          case rel => exact ⟨k + 1, insAt O 0 X, by omega, by go_num, by rw [HIN.out]; exact hown10.base hbw6.size, by rw [HTK.out]; exact (insAt_perm O 0 X).trans (HPM.out.append_right _), HW2.out, hbw10, hbw10.size⟩
          case measure => simp [intOf]; omega
        · obtain ⟨t, rfl⟩ : ∃ t, j = t + 1 := ⟨j - 1, by omega⟩
          have htO : t < O.length := by omega
          obtain ⟨b2, off2, hpo, hbb2, hcell2⟩ := (HLW.out.call hbi).some t htO
          have c3 := (hcell2 t htO).1
          have hsz3 := (HSO.out O[t] (List.getElem_mem _)).1
          have hls := fun V => rLess_any X.1 O[t].1 V hm1 hsz3
          have hltd : ltL X O[t] = lessB X.1.data.toList O[t].1.data.toList := rfl
          rw [← hltd] at hls
          clear hltd hsz3 hcell2
          subst hpo
          have c3l := fun x => later_cell c3 x
          have e1 : ((t + 1 : Nat) : Int) = (t : Int) + 1 := by omega
          have e2 : IntKind.i64.wrap ((t : Int) + 1 - 1) = (t : Int) := by rw [IntWalk.i64_in _ (by omega)]; omega
          have e3 : (t : Int) + 1 - 1 = (t : Int) := by omega
          have e4 : (0 : Int) < (t : Int) + 1 := by omega
          cases hq : ltL X O[t] with
          | true =>
            rw [hq] at hls
            have HLS := Lib.hid hls
            have HQ := Lib.hid hq
            clear hls hq c3
            go_wp2_with fail
            refine wp_region_later (by kernel_rfl) (by kernel_rfl) ?_
            repeat (go_big_quiet_step ((go_at_call 29; exact calls_later_drew (HLS.out _))))
            refine wpQuiet_nil ?_
            rintro _ ⟨x, rfl⟩
            have hb6 := bthen hbi (later_below wr x)
            generalize later wr x = w6 at *
            clear hbxi q1l c3l
            clear e1 e4
            go_wp2
            go_roundw
            case rel => exact ⟨t, by omega, rfl, fun i hi h => by
              rcases Nat.eq_or_lt_of_le h with rfl | h
              · exact HQ.out
              · exact HUP.out i hi (by omega), hb6⟩
            case measure => first | (simp [intOf]; done) | (simp [intOf]; omega)
          | false =>
            rw [hq] at hls
            have HLS := Lib.hid hls
            have HLO : Hid (t + 1 = 0 ∨ ∃ hj : t + 1 - 1 < O.length, ltL X (O[t + 1 - 1]'hj) = false) := Lib.hid (.inr ⟨htO, hq⟩)
            clear hls hq c3
            go_wp2_with fail
            refine wp_region_later (by kernel_rfl) (by kernel_rfl) ?_
            repeat (go_big_quiet_step ((go_at_call 29; exact calls_later_drew (HLS.out _))))
            refine wpQuiet_nil ?_
            rintro _ ⟨x, rfl⟩
            have hb6 := bthen hbi (later_below wr x)
            generalize later wr x = w6 at *
            clear hbxi q1l c3l e2 e3 e4
            have hws2 := insAt_ws HWS.out hj HUP.out (by first | exact .inl rfl | exact HLO.out)
            have HW2 := Lib.hid hws2
            have hown6 := hownW.call hb6
            have hL6 := HLW.out.call hb6
            have hbx6 := HBX.out.call hb6
            have hbA := bthen (Below.refl W.heap.size W) hb6
            have hbw6 : Below w.heap.size w w6 := hbW.trans (hb6.mono hzW)
            have hB6 : B < w6.heap.size := hbx6.lt
            have hE : OwnL 37 (w6.alloc (.cells #[] 37)) w6.heap.size (.slice (some ⟨w6.heap.size, 0, none⟩) 0 0) [] := OwnL.empty _ w6
            have hbE : Below w6.heap.size w6 (w6.alloc (.cells #[] 37)) := (Below.refl _ _).alloc (Nat.le_refl _) _
            have hzE := hbE.size
            have hTk := (hL6.call hbE).takeA (t + 1) hj
            have hsl1 : ∀ V, (Instr.slice 22 (.slice (some ⟨b2, off2, none⟩) O.length q) none (some (.int .i64 ((t : Int) + 1))) none).run Try.prog V = .ok (.slice (atL (some ⟨b2, off2, none⟩) q 0) (t + 1) q) V := fun V => by have h9 := run_uptoA V (some ⟨b2, off2, none⟩) O.length q (t + 1) (by omega); simpa using h9
            have hsl2 : ∀ V, (Instr.slice 22 (.slice (some ⟨b2, off2, none⟩) O.length q) (some (.int .i64 ((t : Int) + 1))) none none).run Try.prog V = .ok (.slice (atL (some ⟨b2, off2, none⟩) q (t + 1)) (O.length - (t + 1)) (q - (t + 1))) V := fun V => by have h9 := run_fromA V (some ⟨b2, off2, none⟩) O.length q (t + 1) hj; simpa using h9
            have hn1 : (t + 1) = (O.take (t + 1)).length := by rw [List.length_take]; omega
            have hn2 : O.length - (t + 1) = (O.drop (t + 1)).length := by rw [List.length_drop]
            have hne : some B ≠ (Value.slice (some ⟨w6.heap.size, 0, none⟩) 0 0).ownBlock := by simp [Value.ownBlock]; omega
            obtain ⟨TK, HTT⟩ : ∃ TK, Hid (O.take (t + 1) = TK) := ⟨_, Lib.hid rfl⟩
            obtain ⟨DR, HDD⟩ : ∃ DR, Hid (O.drop (t + 1) = DR) := ⟨_, Lib.hid rfl⟩
            rw [HTT.out] at hTk hn1
            rw [HDD.out] at hn2
            have HN1 := Lib.hid hn1
            have HN2 := Lib.hid hn2
            have htl : TK.length ≤ 1000 := by omega
            have hdl : DR.length ≤ 1000 := by omega
            have hbx6E := hbx6.call hbE
            clear hn1 hn2 hup' hws2 hb6 hownW hbW hzW HL
            go_wp2_with (at_builtin; refine (wpList_appL' (w6.alloc (.cells #[] 37)) rfl _ _ 22 rfl w6.heap.size 37 i0 (.agg #[.string ⟨#[]⟩, .string ⟨#[]⟩]) Try.underlying22 hi hz0 hz1 hz2 rfl (.slice (some ⟨w6.heap.size, 0, none⟩) 0 0) [] rfl hE (atL (some ⟨b2, off2, none⟩) q 0) q (t + 1) TK HN1.out rfl hTk (by simp; omega) hzE ?_))
            intro v8 w8 hown8 hg8
            have hb8 := hE.grown hbE hzE hg8
            have hz8 := hb8.size
            have hbx8 := hbx6E.push hg8 hne
            have q1 : w8.cell? ⟨B, 0, none⟩ = some (.string X.1) := hbx8.cell 0
            have q2 : w8.cell? ⟨B, 1, none⟩ = some (.string X.2) := hbx8.cell 1
            try rw [List.nil_append] at hown8
            clear hE hbE hzE hg8 hTk hne hbx6E
            go_wp2_with (at_builtin; refine (wpList_pushL w8 rfl _ _ 22 rfl w6.heap.size 37 i0 (.agg #[.string ⟨#[]⟩, .string ⟨#[]⟩]) Try.underlying22 hi hz0 hz1 hz2 rfl v8 TK X rfl hown8 [.string X.1, .string X.2] rfl rfl (by omega) hz8 ?_))
            intro v9 w9 hown9 hg9
            have hb9 := hown8.grown hb8 hz8 hg9
            have hz9 := hb9.size
            have hDr := (hL6.call hb9).dropA (t + 1) hj
            rw [HDD.out] at hDr
            have hsum : (TK ++ [X]).length + DR.length ≤ 1000000 := by rw [List.length_append]; simp only [List.length_cons, List.length_nil]; omega
            obtain ⟨TX, HTX⟩ : ∃ TX, Hid (TK ++ [X] = TX) := ⟨_, Lib.hid rfl⟩
            rw [HTX.out] at hown9 hsum
            clear hown8 hb8 hz8 hg9 q1 q2 hbx8
            go_wp2_with (at_builtin; refine (wpList_appL' w9 rfl _ _ 22 rfl w6.heap.size 37 i0 (.agg #[.string ⟨#[]⟩, .string ⟨#[]⟩]) Try.underlying22 hi hz0 hz1 hz2 rfl v9 TX rfl hown9 (atL (some ⟨b2, off2, none⟩) q (t + 1)) (q - (t + 1)) (O.length - (t + 1)) DR HN2.out rfl hDr hsum hz9 ?_))
            intro v10 w10 hown10 hg10
            have hb10 := hown9.grown hb9 hz9 hg10
            have hbw10 := hbw6.trans (hb10.mono hbw6.size)
            have hins : insAt O (t + 1) X = TX ++ DR := by rw [insAt, HTT.out, HDD.out, HTX.out]
            have HIN := Lib.hid hins
            clear hown9 hb9 hz9 hg10 hDr hsl1 hsl2 hins
            go_wp2
            go_roundw
            case rel => exact ⟨k + 1, insAt O (t + 1) X, by omega, by go_num, by rw [HIN.out]; exact hown10.base hbw6.size, by rw [HTK.out]; exact (insAt_perm O (t + 1) X).trans (HPM.out.append_right _), HW2.out, hbw10, hbw10.size⟩
            case measure => simp [intOf]; omega
    · have htk : ls.take k = ls := List.take_of_length_le (by omega)
      have hp := HPM.out
      rw [htk] at hp
      have HP := Lib.hid hp
      obtain ⟨a2, c2, rfl, hh⟩ := hown.labs HSO.out
      have HH := Lib.hid hh
      clear hown hh hp htk
      go_wp2
      go_ret
      exact ⟨O, a2, c2, rfl, HH.out, HP.out, HWS.out, hb⟩
end Go.Proofs.Ytjigdmmlgddgpab
