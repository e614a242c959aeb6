/- The contract of outline.Parse. -/
import Derived.Test.YtolbhhokpelchaaDoorOtlJ
namespace Go.Proofs.YtolbhhokpelchaaDoor
open Go.RowKit

theorem results_cell_tmp2O {P : Program} {fn : Func} {p u v : Tmp} {ty : TypeId} (h : fn.results = #[.cell p ty, .tmp u, .tmp v]) (tmps : Array Value) (w : World) (g : Nat) (t : TypeId) (cs : Array Value) (fr : Nat × Nat) (d : TypeDesc)
    (hp : tmps.getD p undef = .pointer (some ⟨g, 0, none⟩)) (hg : w.heap[g]? = some (.cells cs t fr))
    (hu : P.underlying ty = some d) (hd : (match d with | .struct _ | .array _ _ => true | _ => false) = true) (hi : (P.info? ty).map (·.size) = some cs.size) :
    (results fn tmps).run P w = .ok (.tuple #[.agg cs, tmps.getD u undef, tmps.getD v undef]) w := by
  have hp' : tmps[p]?.getD undef = .pointer (some ⟨g, 0, none⟩) := by simpa using hp
  simp [results, h, hp', asAddr, run_loadVar_row w g t ty cs fr d hg hu hd hi]
theorem noStrs (w : World) : HasStrs w none 0 [] := ⟨Nat.le_refl 0, Nat.zero_le _, fun _ h => absurd h (List.not_mem_nil), Or.inl rfl⟩
theorem noAt_ok (w : World) : NdAt.ok w ⟨noNd, none, 0, none, 0⟩ := .flat _ ⟨noStrs w, Nat.zero_le _, rfl, Nat.le_refl 0, Nat.zero_le _⟩ rfl
theorem parseN_long (s : Bs) (h : ¬ s.length ≤ 8192) : parseN s = (noNd, 2, 0) := by
  unfold parseN
  rw [if_pos (by omega)]
theorem fr2_caught {pb g6 : Nat} {W3 w1 : World} {t : TypeId} {cs : Array Value} (h : FrP2 pb g6 (W3.alloc (.cells cs t)) w1) (i : Nat) (u : Value) : FrP2 pb g6 W3 (w1.setCell ⟨W3.heap.size, i, none⟩ u) := by
  have hb := below_al (o := .cells cs t) (Below.refl W3.heap.size W3)
  have hz : W3.heap.size ≤ w1.heap.size := Nat.le_trans hb.size h.size
  refine ⟨(hseto _ _ _).trans (h.os.trans hb.os), (hsett _ _ _).trans (h.tape.trans hb.tape), (hsetu _ _ _).trans (h.output.trans hb.output), by rw [hsetz]; exact hz, fun k hk h1 h2 => ?_⟩
  rw [hset _ _ _ _ _ (by omega)]
  exact (h.blk k (Nat.lt_of_lt_of_le hk hb.size) h1 h2).trans (hb.block k hk)
theorem FrP2.below {pb g6 B : Nat} {w w1 : World} (h : FrP2 pb g6 w w1) (hB : B ≤ w.heap.size) (hp : B ≤ pb) (h6 : B ≤ g6) : Below B w w1 := ⟨h.os, h.tape, h.output, h.size, fun k hk => h.blk k (by omega) (by omega) (by omega)⟩
theorem Blk.fr2 {pb g6 g : Nat} {w w1 : World} {t : TypeId} {cs : Array Value} (hk : Blk w g t cs) (h : FrP2 pb g6 w w1) (h1 : g ≠ pb) (h2 : g ≠ g6) : Blk w1 g t cs := (h.blk g hk.lt h1 h2).trans hk
def ParseP (s : ByteArray) (w : World) (e : Ending) (w' : World) : Prop :=
  Below w.heap.size w w' ∧ ∃ q : NdAt, q.n = (parseN s.data.toList).1 ∧ q.ok w' ∧ e = .returned (.tuple #[.agg (nCells q), .int .i64 (parseN s.data.toList).2.1, .int .i64 (parseN s.data.toList).2.2])
set_option maxHeartbeats 3200000 in
set_option maxRecDepth 100000 in
theorem oParse_any (s : ByteArray) (w : World) (hm : MaxC w) : Calls Tryd.prog 17 #[.string s] w (ParseP s w) := by
  obtain ⟨R, hR⟩ : ∃ R : Ending → World → Prop, R = ParseP s w := ⟨_, rfl⟩
  have hRe : ∀ e w', ParseP s w e w' → R e w' := fun e w' h => by rw [hR]; exact h
  rw [← hR]
  have hk0 := Blk.new w 25 #[.int .i64 0, .string ⟨#[]⟩, .slice none 0 0, .slice none 0 0]
  have hb0 := below_al (o := .cells #[.int .i64 0, .string ⟨#[]⟩, .slice none 0 0, .slice none 0 0] 25) (Below.refl w.heap.size w)
  have HRE := Lib.hid hRe
  have HM := Lib.hid hm
  have hmf : ∀ (fn : Fn) (first cap : Array Value) (w : World), (Instr.makeFunc fn first cap).run Tryd.prog w = .ok (.func fn first cap) w := fun _ _ _ _ => rfl
  clear hR hRe hm
  go_enter Tryd.func17, Tryd.ntmps17
  go_upto_region 1 with fail
  generalize w.alloc (.cells #[.int .i64 0, .string ⟨#[]⟩, .slice none 0 0, .slice none 0 0] 25) = wx at *
  obtain ⟨g0, hg0⟩ : ∃ g, w.heap.size = g := ⟨_, rfl⟩
  have HG := Lib.hid hg0
  have HB0 : Hid (Below w.heap.size w wx) := Lib.hid hb0
  rw [hg0] at hk0 ⊢
  clear hg0 hb0
  by_cases hl : s.size ≤ 8192
  case neg =>
    have d1 : decide ((8192 : Int) < (s.size : Int)) = true := decide_eq_true (by omega)
    obtain ⟨k0, k1, k2, k3⟩ := hk0.cells4
    have f0 := hk0.frozen 0
    have f1 := hk0.frozen 1
    have f2 := hk0.frozen 2
    have f3 := hk0.frozen 3
    go_wp2_with fail
    have hpn := parseN_long s.data.toList (by rw [show s.data.toList.length = s.size from rfl]; exact hl)
    refine bodyPost_ret (v := .tuple #[.agg #[.int .i64 0, .string ⟨#[]⟩, .slice none 0 0, .slice none 0 0], .int .i64 2, .int .i64 0]) ?_ rfl (HRE.out _ _ ⟨?_, ⟨noNd, none, 0, none, 0⟩, by rw [hpn], noAt_ok _, by rw [hpn]; rfl⟩)
    · refine (results_cell_tmp2O rfl _ _ g0 _ #[.int .i64 0, .string ⟨#[]⟩, .slice none 0 0, .slice none 0 0] _ _ ?_ (hk0.set4N _ _ _ _) Tryd.underlying25 rfl (by kernel_rfl)).trans ?_
      · rfl
      · rfl
    · exact below_set4N HB0.out (Nat.le_of_eq HG.out) _ _ _ _
  case pos =>
    have d1 : decide ((8192 : Int) < (s.size : Int)) = false := decide_eq_false (by omega)
    go_upto_region 5 with fail
    have hlt0 := hk0.lt
    obtain ⟨W3, hW3⟩ : ∃ W, ((wx.alloc (.cells #[.string s, .int .i64 0] 59)).alloc (.cells #[.pointer (some ⟨wx.heap.size, 0, none⟩)] 57)).alloc (.cells #[.int .i64 0, .string ⟨#[]⟩, .slice none 0 0, .slice none 0 0] 25) = W := ⟨_, rfl⟩
    obtain ⟨pb, hpb0⟩ : ∃ g, wx.heap.size = g := ⟨_, rfl⟩
    have hsz : W3.heap.size = pb + 1 + 1 + 1 := by rw [← hW3, ← hpb0]; simp
    have c3 : PlB W3 pb s 0 := by rw [← hW3, ← hpb0]; exact ((Blk.new wx _ _).alloc _).alloc _
    have c5 : Blk W3 (pb + 1) 57 #[.pointer (some ⟨pb, 0, none⟩)] := by rw [← hW3, ← hpb0]; exact (nbN wx _ _ _).alloc _
    have c6 : Blk W3 (pb + 1 + 1) 25 #[.int .i64 0, .string ⟨#[]⟩, .slice none 0 0, .slice none 0 0] := by
      have h := nbN (wx.alloc (.cells #[.string s, .int .i64 0] 59)) (.cells #[.pointer (some ⟨wx.heap.size, 0, none⟩)] 57) #[.int .i64 0, .string ⟨#[]⟩, .slice none 0 0, .slice none 0 0] 25
      rw [hW3, show (wx.alloc (.cells #[.string s, .int .i64 0] 59)).heap.size = pb + 1 by rw [← hpb0]; simp] at h
      exact h
    have c0 : Blk W3 g0 25 #[.int .i64 0, .string ⟨#[]⟩, .slice none 0 0, .slice none 0 0] := by rw [← hW3]; exact ((hk0.alloc _).alloc _).alloc _
    have b3 : Below w.heap.size w W3 := by rw [← hW3]; exact below_al (below_al (below_al HB0.out))
    have hne : 0 ≠ pb := by have := (HM.out.call HB0.out).lt2; omega
    have hwg : w.heap.size ≤ g0 := Nat.le_of_eq HG.out
    have hlp : g0 < pb := by omega
    rw [hW3, hpb0]
    have h1 := parse1_any pb (pb + 1) (pb + 1 + 1) W3.heap.size s (W3.alloc (.cells #[.int .i64 0] 28)) ((HM.out.call b3).call (below_al (Below.refl _ _))) hne (c3.alloc _) (c5.alloc _) (c6.alloc _) (Blk.new W3 _ _) (by omega) (by omega)
    have hca := caughtP_any _ _ W3 _ _ h1
    have hpn := parseN_text s.data.toList hl
    obtain ⟨T, hT⟩ : ∃ T, textR 0 (linesB s.data.toList).1 (linesB s.data.toList).2 = T := ⟨_, rfl⟩
    rw [hT] at hca hpn
    clear h1 hT hW3 hpb0 hk0
    cases T with
    | inl k =>
      replace hca := hca.mono (R' := fun e w' => e = .returned (.int .i64 250) ∧ Below w.heap.size w w' ∧ Blk w' g0 25 #[.int .i64 0, .string ⟨#[]⟩, .slice none 0 0, .slice none 0 0] ∧ Blk w' (pb + 1) 57 #[.pointer (some ⟨pb, 0, none⟩)] ∧ ∃ t : ByteArray, PlB w' pb t k) (by
        rintro e w' (⟨rfl, w1, ⟨y, hy, _⟩, rfl⟩ | ⟨c, w1, rfl, ⟨rfl, k', hk', hf, t, ht⟩, rfl⟩)
        · cases hy
        · cases hk'
          have hf2 := fr2_caught hf 0 (.int .i64 250)
          refine ⟨rfl, b3.trans (hf2.below (B := w.heap.size) b3.size ?_ ?_), c0.fr2 hf2 (by omega) (by omega), c5.fr2 hf2 (by omega) (by omega), t, ht.setO _ _ (show pb ≠ W3.heap.size by omega)⟩
          all_goals omega)
      have HCA := Lib.hid hca
      clear hca c0 c3 c5 c6
      go_wp2_with (go_at_call 29; refine HCA.out.mono ?_; rintro e w2 ⟨rfl, hb2, hk2, hp5, t2, hpl⟩)
      have hkd := hk2.drew
      have h5d := hp5.drew
      have hpd := hpl.drew
      obtain ⟨k0, k1, k2, k3⟩ := hkd.cells4
      have f0 := hkd.frozen 0
      have f1 := hkd.frozen 1
      have f2 := hkd.frozen 2
      have f3 := hkd.frozen 3
      obtain ⟨k0', k1', k2', k3'⟩ := hk2.cells4
      have f0' := hk2.frozen 0
      have f1' := hk2.frozen 1
      have f2' := hk2.frozen 2
      have f3' := hk2.frozen 3
      have v5' := hp5.cell 0
      have vp' := hpl.cell 1
      have v5a' := fun a b c d => ((((hp5.setO ⟨g0, 0, none⟩ a (show pb + 1 ≠ g0 by omega)).setO ⟨g0, 1, none⟩ b (show pb + 1 ≠ g0 by omega)).setO ⟨g0, 2, none⟩ c (show pb + 1 ≠ g0 by omega)).setO ⟨g0, 3, none⟩ d (show pb + 1 ≠ g0 by omega)).cell 0
      have vpa' := fun a b c d => ((((hpl.setO ⟨g0, 0, none⟩ a (show pb ≠ g0 by omega)).setO ⟨g0, 1, none⟩ b (show pb ≠ g0 by omega)).setO ⟨g0, 2, none⟩ c (show pb ≠ g0 by omega)).setO ⟨g0, 3, none⟩ d (show pb ≠ g0 by omega)).cell 1
      have v5 := h5d.cell 0
      have vp := hpd.cell 1
      have v5a := fun a b c d => ((((h5d.setO ⟨g0, 0, none⟩ a (show pb + 1 ≠ g0 by omega)).setO ⟨g0, 1, none⟩ b (show pb + 1 ≠ g0 by omega)).setO ⟨g0, 2, none⟩ c (show pb + 1 ≠ g0 by omega)).setO ⟨g0, 3, none⟩ d (show pb + 1 ≠ g0 by omega)).cell 0
      have vpa := fun a b c d => ((((hpd.setO ⟨g0, 0, none⟩ a (show pb ≠ g0 by omega)).setO ⟨g0, 1, none⟩ b (show pb ≠ g0 by omega)).setO ⟨g0, 2, none⟩ c (show pb ≠ g0 by omega)).setO ⟨g0, 3, none⟩ d (show pb ≠ g0 by omega)).cell 1
      go_region
      all_goals
        go_wp2_with fail
        refine bodyPost_ret (v := .tuple #[.agg #[.int .i64 0, .string ⟨#[]⟩, .slice none 0 0, .slice none 0 0], .int .i64 250, .int .i64 (k : Int)]) ?_ rfl (HRE.out _ _ ⟨(below_set4N hb2 hwg _ _ _ _).drew, ⟨noNd, none, 0, none, 0⟩, by rw [hpn], noAt_ok _, by rw [hpn]; rfl⟩)
        refine (results_cell_tmp2O rfl _ _ g0 _ #[.int .i64 0, .string ⟨#[]⟩, .slice none 0 0, .slice none 0 0] _ _ ?_ (hk2.set4N _ _ _ _).drew Tryd.underlying25 rfl (by kernel_rfl)).trans ?_
        · rfl
        · rfl
    | inr y =>
      replace hca := hca.mono (R' := fun e w' => e = .returned (.int .i64 0) ∧ Below w.heap.size w w' ∧ Blk w' g0 25 #[.int .i64 0, .string ⟨#[]⟩, .slice none 0 0, .slice none 0 0] ∧ ∃ q : NdAt, q.n = y ∧ q.inn (fun b => g0 < b) w' ∧ Blk w' (pb + 1 + 1) 25 (nCells q)) (by
        rintro e w' (⟨rfl, w1, ⟨y', hy, hf, q, hq, hqi, hq6⟩, rfl⟩ | ⟨c, w1, rfl, ⟨rfl, k', hk', _⟩, rfl⟩)
        · cases hy
          have hf2 := fr2_caught hf 0 (.int .i64 0)
          refine ⟨rfl, ?_, c0.fr2 hf2 (by omega) (by omega), q, hq, ?_, hq6.setO _ _ (show pb + 1 + 1 ≠ W3.heap.size by omega)⟩
          · exact b3.trans (hf2.below (B := w.heap.size) b3.size (by omega) (by omega))
          · have hz4 : (W3.alloc (.cells #[.int .i64 0] 28)).heap.size = W3.heap.size + 1 := by simp
            exact (hqi.keep (Nat.le_of_eq (hsetz _ _ _).symm) fun b hb => hset _ _ _ _ _ (by have := hb.1; omega)).mono fun b hb => by have := hb.1; omega
        · cases hk')
      have HCA := Lib.hid hca
      clear hca c0 c3 c5 c6
      go_wp2_with (go_at_call 29; refine HCA.out.mono ?_; rintro e w2 ⟨rfl, hb2, hk2, q, rfl, hqi, hk6⟩; obtain ⟨k0, k1, k2, k3⟩ := hk2.cells4; have f0 := hk2.frozen 0; have f1 := hk2.frozen 1; have f2 := hk2.frozen 2; have f3 := hk2.frozen 3; obtain ⟨l0, l1, l2, l3⟩ := hk6.cells4)
      obtain ⟨s1, s2, s3, s4, s5, s6⟩ := st4b hk2 (.int .i64 q.n.kind) (.string q.n.word) (.slice q.na q.n.names.length q.nc) (.slice q.ia q.n.items.length q.ic) _ rfl
      refine bodyPost_ret (v := .tuple #[.agg (nCells q), .int .i64 0, .int .i64 0]) ?_ rfl (HRE.out _ _ ⟨below_set4N hb2 hwg _ _ _ _, q, by rw [hpn], (hqi.keep (Nat.le_of_eq s3.symm) fun b hb => s2 b (by omega)).ok, by rw [hpn]⟩)
      refine (results_cell_tmp2O rfl _ _ g0 _ (nCells q) _ _ ?_ (hk2.set4N _ _ _ _) Tryd.underlying25 rfl (by kernel_rfl)).trans ?_
      · rfl
      · rfl
end Go.Proofs.YtolbhhokpelchaaDoor
