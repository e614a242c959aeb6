/- The contract of the document's own 'line' where a key is put behind the others. -/
import Derived.Test.YtekcmgajjbdmgabDoorRpsF
namespace Go.Proofs.YtekcmgajjbdmgabDoor
open Go.RowKit

theorem keyL_len {l k u : Bs} (h : keyL l = some (k, u)) : k.length ≤ 64 ∧ u.length ≤ 200 := by
  rcases key_cut l with ⟨_, h2⟩ | ⟨j, hj, _, _, _, h5⟩
  · rw [h2] at h; cases h
  · rw [h5] at h
    split at h
    · rename_i hc
      obtain ⟨_, h1, h2⟩ := hc
      simp only [Option.some.injEq, Prod.mk.injEq] at h
      obtain ⟨rfl, rfl⟩ := h
      simp only [bwC, bvC, Bool.and_eq_true, decide_eq_true_eq] at h1 h2
      exact ⟨h1.1.2, h2.1.1.2⟩
    · cases h
set_option maxHeartbeats 25600000 in
set_option maxRecDepth 100000 in
theorem line_grow (B : Nat) (ds : List Dfn) (d : Dfn) (v : Value) (s : ByteArray) (k u : Bs) (w : World) (h : SAt w B v ds) (h64 : ds.length ≤ 64) (hs : s.size ≤ 9000) (hne : s ≠ ⟨#[125]⟩) (hl : ds.getLast? = some d) (hk : keyL s.data.toList = some (k, u))
    (hno : memB (bytesA k) d.keys = false) (hl64 : d.keys.length < 64) (hv64 : d.vals.length ≤ 64) :
    Calls Tryd.prog 28 #[.agg #[v, .bool true, .bool true], .string s] w (LinP B (ds, true) s.data.toList w) := by
  have hln : lineS (ds, true) s.data.toList = some (ds.dropLast ++ [addK d k u], true) := by
    rw [lineS_in (fun e => hne (bytes_ext e)), hk]
    simp only
    rw [growL_ok hl hno (by omega)]
  have hkey := fun W => rKey_any s W hs
  rw [hk] at hkey
  have hkey' := fun W => (hkey W).mono (R' := fun e w' => ∃ b, W.heap.size ≤ b ∧ e = .returned (.slice (some ⟨b, 0, none⟩) 2 2) ∧ HasStrs w' (some ⟨b, 0, none⟩) 2 [bytesA k, bytesA u] ∧ Below W.heap.size W w') (fun _ _ h => by
    obtain ⟨h1, b, h0, h2, h3⟩ := h
    exact ⟨b, h0, h2, h3, h1⟩)
  have HKEY := Lib.hid hkey'
  have hq : (s.toList == [125]) = false := by
    rw [ByteArray.toList_eq, beq_eq_false_iff_ne]
    exact fun e => hne (bytes_ext e)
  obtain ⟨qs, lo, hqd, hown, hl1, hl2, hrows⟩ := h
  subst hqd
  obtain ⟨q, hql, rfl⟩ := getLast_map (fun x : DefAt => x.d) qs d hl
  obtain ⟨init, rfl⟩ : ∃ init, qs = init ++ [q] := ⟨qs.dropLast, drop_last qs q hql⟩
  have hi : init.length < (init ++ [q]).length := by simp
  obtain ⟨a, c, hvv, _⟩ := hown.defs fun q hq => ((hrows.all hl2) q hq).1.1
  subst hvv
  obtain ⟨g, rfl, hgb, hgl, _, hnc, hcm, d0, d1, d2, hfr⟩ := hown.at init.length hi
  have hop := hrows.2 q (by simp)
  have hkeys := (hop.okT.1).1.1
  have hqe : (init ++ [q])[init.length] = q := by simp
  rw [hqe] at d0 d1 d2
  have hBw : B ≤ w.heap.size := by omega
  have hADD : addK q.d k u = ⟨q.d.kind, q.d.keys ++ [bytesA k], q.d.vals ++ [bytesA u]⟩ := rfl
  rw [hADD] at hln
  have hds : ((init ++ [q]).map (fun x : DefAt => x.d)).dropLast = init.map (fun x => x.d) := by rw [List.map_append, List.map_singleton, List.dropLast_concat]
  rw [hds] at hln
  rw [List.length_append, List.length_singleton] at hnc hown ⊢
  have hi64 : init.length < 64 := by simp at h64; omega
  have e1 : ((init.length + 1 : Nat) : Int) = (init.length : Int) + 1 := by omega
  have e2 : IntKind.i64.wrap ((init.length : Int) + 1 - 1) = (init.length : Int) := by rw [IntWalk.i64_in _ (by omega)]; omega
  have e3 : (init.length : Int) + 1 - 1 = (init.length : Int) := by omega
  have e4 : (0 : Int) < (init.length : Int) + 1 := by omega
  have e5 : (0 : Int) ≤ (init.length : Int) := by omega
  have e6 : (init.length : Int) < (init.length : Int) + 1 := by omega
  unfold maxLen at hcm
  -- the growing, from here on
  have hgrow : ∀ (w3 : World) (gK cK gV cV : Nat), Kp w w3 (Value.slice q.ka q.d.keys.length q.kc).ownBlock (Value.slice q.va q.d.vals.length q.vc).ownBlock → OwnS 9 w3 lo (.slice (some ⟨gK, 0, none⟩) (q.d.keys.length + 1) cK) (q.d.keys ++ [bytesA k]) → OwnS 9 w3 lo (.slice (some ⟨gV, 0, none⟩) (q.d.vals.length + 1) cV) (q.d.vals ++ [bytesA u]) → gK ≠ gV →
      SAt ((w3.setCell ⟨g, init.length * 3 + 1, none⟩ (.slice (some ⟨gK, 0, none⟩) (q.d.keys.length + 1) cK)).setCell ⟨g, init.length * 3 + 2, none⟩ (.slice (some ⟨gV, 0, none⟩) (q.d.vals.length + 1) cV)) B (.slice (some ⟨g, 0, none⟩) (init.length + 1) c) (init.map (fun x => x.d) ++ [⟨q.d.kind, q.d.keys ++ [bytesA k], q.d.vals ++ [bytesA u]⟩]) ∧
        Below B w ((w3.setCell ⟨g, init.length * 3 + 1, none⟩ (.slice (some ⟨gK, 0, none⟩) (q.d.keys.length + 1) cK)).setCell ⟨g, init.length * 3 + 2, none⟩ (.slice (some ⟨gV, 0, none⟩) (q.d.vals.length + 1) cV)) := by
    intro w3 gK cK gV cV hkp hK hV hne
    have hbk : (bytesA k).size ≤ maxLen ∧ (bytesA u).size ≤ maxLen := by
      rw [bytesA_size, bytesA_size]
      have := keyL_len hk
      unfold maxLen; omega
    have hro : OpenAt w3 lo ⟨⟨q.d.kind, q.d.keys ++ [bytesA k], q.d.vals ++ [bytesA u]⟩, some ⟨gK, 0, none⟩, cK, some ⟨gV, 0, none⟩, cV⟩ := by
      refine ⟨by simpa using hK, by simpa using hV, .inr (fun e => hne (by simpa [Value.ownBlock] using e)), fun s hs => ?_, fun s hs => ?_, hop.2.2.2.2.2⟩
      · simp only [List.mem_append, List.mem_singleton] at hs
        rcases hs with hs | rfl
        · exact hop.2.2.2.1 s hs
        · exact hbk.1
      · simp only [List.mem_append, List.mem_singleton] at hs
        rcases hs with hs | rfl
        · exact hop.2.2.2.2.1 s hs
        · exact hbk.2
    have := sat_grow (r := ⟨⟨q.d.kind, q.d.keys ++ [bytesA k], q.d.vals ++ [bytesA u]⟩, some ⟨gK, 0, none⟩, cK, some ⟨gV, 0, none⟩, cV⟩) hown hl1 hl2 hrows rfl rfl hkp rfl hro
    simpa using this
  have hap := hop.2.2.1
  have hlt1 : ∀ b, (Value.slice q.ka q.d.keys.length q.kc).ownBlock = some b → b < w.heap.size := fun b e => (World.ownsRow.lt hop.1 b e).2
  have hlt2 : ∀ b, (Value.slice q.va q.d.vals.length q.vc).ownBlock = some b → b < w.heap.size := fun b e => (World.ownsRow.lt hop.2.1 b e).2
  have hgn1 := own_apart hown hop.1
  have hgn2 := own_apart hown hop.2.1
  have HKO := Lib.hid (fun W (h : Below w.heap.size w W) => hop.1.call h)
  have HVO := Lib.hid (fun W (h : Below w.heap.size w W) => hop.2.1.call h)
  have HD := Lib.hid (fun W (h : Below w.heap.size w W) => (⟨cellL h d0, cellL h d1, cellL h d2⟩ : W.cell? ⟨g, init.length * 3, none⟩ = some (.string q.d.kind) ∧ W.cell? ⟨g, init.length * 3 + 1, none⟩ = some (.slice q.ka q.d.keys.length q.kc) ∧ W.cell? ⟨g, init.length * 3 + 2, none⟩ = some (.slice q.va q.d.vals.length q.vc)))
  have HKS := Lib.hid (fun W (h : Below w.heap.size w W) => hkeys.call h)
  have HGROW := Lib.hid hgrow
  have HAP := Lib.hid hap
  have HL := Lib.hid (And.intro hlt1 hlt2)
  have HGN := Lib.hid (And.intro hgn1 hgn2)
  have HFR := Lib.hid hfr
  have HLN := Lib.hid hln
  have hk2 := (Blk.new w 57 #[.slice (some ⟨g, 0, none⟩) (init.length + 1) c, .bool true, .bool true]).alloc (.cells #[.slice none 0 0, .bool false, .bool false] 57)
  have hk4 := Blk.new (w.alloc (.cells #[.slice (some ⟨g, 0, none⟩) (init.length + 1) c, .bool true, .bool true] 57)) 57 #[.slice none 0 0, .bool false, .bool false]
  rw [show (w.alloc (.cells #[.slice (some ⟨g, 0, none⟩) (init.length + 1) c, .bool true, .bool true] 57)).heap.size = w.heap.size + 1 by simp] at hk4
  have hb0 := ((Below.refl w.heap.size w).alloc (Nat.le_refl _) (.cells #[.slice (some ⟨g, 0, none⟩) (init.length + 1) c, .bool true, .bool true] 57)).alloc (by simp) (.cells #[.slice none 0 0, .bool false, .bool false] 57)
  clear hgrow hap hlt1 hlt2 hgn1 hgn2 hfr hln hkeys hop d0 d1 d2 hown hrows hql hl hqe hkey hkey' hk hADD hds hi h64 hgb
  generalize bytesA k = K at *
  generalize bytesA u = U at *
  obtain ⟨i, hie⟩ : ∃ i, init.length = i := ⟨_, rfl⟩
  generalize init.map (fun x : DefAt => x.d) = D0 at *
  generalize (init ++ [q]).map (fun x : DefAt => x.d) = DS at *
  simp only [hie] at *
  clear hie
  go_enter Tryd.func28, Tryd.ntmps28
  go_upto_region 1 with fail
  generalize (w.alloc (.cells #[.slice (some ⟨g, 0, none⟩) (i + 1) c, .bool true, .bool true] 57)).alloc (.cells #[.slice none 0 0, .bool false, .bool false] 57) = w1 at *
  obtain ⟨c0, c1, c2⟩ := hk2.cells3
  go_upto_region 12 with (go_at_call 50; (with_reducible refine (HKEY.out _).mono ?_); rintro e w2 ⟨b, hbw, rfl, hstr, hb2⟩)
  clear c0 c1 c2
  have hbw' : w.heap.size ≤ b := Nat.le_trans hb0.size hbw
  have hb3 := bthen hb0 hb2
  have hk3 := hk2.call hb2
  have hk5 := hk4.call hb2
  have s0 : w2.cell? ⟨b, 0, none⟩ = some (.string K) := hstr.at 0 (by simp)
  obtain ⟨c0, c1, c2⟩ := hk3.cells3
  have c0l := fun xq => later_cell c0 xq
  have d1l := fun xq => later_cell (HD.out _ hb3).2.1 xq
  have s0l := fun xq => later_cell s0 xq
  have hhas := fun xq => calls_later_same (rHas_any _ _ _ K (later w2 xq) (HKS.out _ (bthen hb3 (later_below w2 xq))))
  rw [hno] at hhas
  have HH := Lib.hid hhas
  have ht : ((q.d.keys.length : Int) == 64) = false := beq_eq_false_iff_ne.2 (by omega)
  clear c0 c1 c2 s0 hhas
  refine wp_region_later (by kernel_rfl) (by kernel_rfl) ?_
  repeat (go_big_quiet_step ((go_at_call 51; (with_reducible exact HH.out _))))
  refine wpQuiet_nil ?_
  rintro _ ⟨xq, rfl⟩
  have hb4 := later_below w2 xq
  generalize later w2 xq = w3 at *
  have hk3' := hk3.call hb4
  have hk5' := hk5.call hb4
  have hbz := bthen hb3 hb4
  have hstr3 := hstr.call hb4
  clear c0l d1l s0l hb2 hb3 hb4 hk3 hk5 hk2 hk4 hb0 hstr HH ht
  obtain ⟨c0, c1, c2⟩ := hk3'.cells3
  obtain ⟨d0, d1, d2⟩ := HD.out _ hbz
  go_upto_region 16 with fail
  have hD := Blk.new w3 61 #[.string q.d.kind, .slice q.ka q.d.keys.length q.kc, .slice q.va q.d.vals.length q.vc]
  have hb5 := hbz.alloc hbz.size (.cells #[.string q.d.kind, .slice q.ka q.d.keys.length q.kc, .slice q.va q.d.vals.length q.vc] 61)
  have hk6 := hk3'.alloc (.cells #[.string q.d.kind, .slice q.ka q.d.keys.length q.kc, .slice q.va q.d.vals.length q.vc] 61)
  have hk7 := hk5'.alloc (.cells #[.string q.d.kind, .slice q.ka q.d.keys.length q.kc, .slice q.va q.d.vals.length q.vc] 61)
  have hstr4 := hstr3.call ((Below.refl w3.heap.size w3).alloc (Nat.le_refl _) (.cells #[.string q.d.kind, .slice q.ka q.d.keys.length q.kc, .slice q.va q.d.vals.length q.vc] 61))
  have hDw : w.heap.size ≤ w3.heap.size := hbz.size
  have hbD : b < w3.heap.size := World.block_lt_of_cell? w3 _ (hstr3.at 0 (by simp))
  have hWD : w.heap.size + 1 < w3.heap.size := hk5'.lt
  generalize w3.alloc (.cells #[.string q.d.kind, .slice q.ka q.d.keys.length q.kc, .slice q.va q.d.vals.length q.vc] 61) = w4 at *
  generalize w3.heap.size = D8 at *
  clear c0 c1 c2 d0 d1 d2 hk3' hk5' hstr3 hbz
  obtain ⟨i1, hj, hy0, hy1, hy2⟩ := info_parts Tryd.infoS
  have hkl : q.d.keys.length ≤ 1000000 := by omega
  have hvl : q.d.vals.length ≤ 1000000 := by omega
  have HKO4 := Lib.hid (fun W (h : Below w4.heap.size w4 W) => HKO.out W (bthen hb5 h))
  have HZ4 := Lib.hid (fun W (h : Below w4.heap.size w4 W) => (by have := hb5.size; have := h.size; omega : lo ≤ W.heap.size))
  have HD4 := Lib.hid (fun W (h : Below w4.heap.size w4 W) => hD.call h)
  have s0 : w4.cell? ⟨b, 0, none⟩ = some (.string K) := hstr4.at 0 (by simp)
  have y1 := hD.cells3.2.1
  have y1a := fun o => (hD.alloc o).cells3.2.1
  have y1b := fun o => (hD.alloc o).drew.cells3.2.1
  have y1c := hD.drew.cells3.2.1
  have s0c : w4.drew.cell? ⟨b, 0, none⟩ = some (.string K) := s0
  have hDn1 : some D8 ≠ (Value.slice q.ka q.d.keys.length q.kc).ownBlock := fun e => by have := HL.out.1 _ e.symm; omega
  have hDn2 : some D8 ≠ (Value.slice q.va q.d.vals.length q.vc).ownBlock := fun e => by have := HL.out.2 _ e.symm; omega
  have HVO4 := Lib.hid (fun W (h : Below w4.heap.size w4 W) => HVO.out W (bthen hb5 h))
  have HPA : Hid ((Value.slice q.va q.d.vals.length q.vc).ownBlock = none ∨ (Value.slice q.va q.d.vals.length q.vc).ownBlock ≠ (Value.slice q.ka q.d.keys.length q.kc).ownBlock) := Lib.hid (by
    rcases HAP.out with h | h
    · rcases Option.eq_none_or_eq_some (Value.slice q.va q.d.vals.length q.vc).ownBlock with e | ⟨x, e⟩
      · exact .inl e
      · exact .inr (by rw [e, h]; simp)
    · exact .inr (fun e => h e.symm))
  have hn : ∀ z, w.heap.size ≤ z → some z ≠ (Value.slice q.ka q.d.keys.length q.kc).ownBlock ∧ some z ≠ (Value.slice q.va q.d.vals.length q.vc).ownBlock := fun z hz => ⟨fun e => by have := HL.out.1 _ e.symm; omega, fun e => by have := HL.out.2 _ e.symm; omega⟩
  have HN := Lib.hid hn
  clear hn
  go_region_law (refine step_appT _ (by rfl) (.tmp 73) (.tmp 77) 54 (by rfl) lo 9 i1 (.string ⟨#[]⟩) Tryd.underlying54 hj hy0 hy1 hy2 rfl (.slice q.ka q.d.keys.length q.kc) q.d.keys K (by rfl) ?_ ?_ hkl ?_ ?_; (refine HKO4.out _ ?_; focus ((repeat (first | refine Below.drew ?_ | refine bal ?_ | exact Below.refl _ _)); done)); (first | exact ⟨_, rfl, new0 _ _ _⟩ | exact ⟨_, rfl, new1 _ _ _ _⟩ | exact ⟨_, rfl, new0s _ _ _ _⟩); (refine HZ4.out _ ?_; focus ((repeat (first | refine Below.drew ?_ | refine bal ?_ | exact Below.refl _ _)); done)); intro gK cK w5 hown5 hg5 hlie5; have hV5 := OwnS.kept (HVO4.out _ (by repeat (first | refine Below.drew ?_ | refine bal ?_ | exact Below.refl _ _))) hg5 HPA.out; have hkp5 := kp1 (w := w4) (by repeat (first | refine Below.drew ?_ | refine bal ?_ | exact Below.refl _ _)) hg5; have hlie := lie8 (w := w4) (by repeat (first | refine Below.drew ?_ | refine bal ?_ | exact Below.refl _ _)) hlie5; have hD5 := hkp5.blk hD hDn1 hDn1; obtain ⟨x0, x1, x2⟩ := hD5.cells3; have fx := hD5.frozen 1)
  all_goals
    have hD6 := Lib.hid (show Blk (w5.setCell ⟨D8, 1, none⟩ (.slice (some ⟨gK, 0, none⟩) (q.d.keys.length + 1) cK)) D8 61 #[.string q.d.kind, .slice (some ⟨gK, 0, none⟩) (q.d.keys.length + 1) cK, .slice q.va q.d.vals.length q.vc] from hD5.set 1 _)
    have hK6 := Lib.hid (hown5.kept (u := .slice (some ⟨D8, 0, none⟩) 0 0) (grown_setCell w5 D8 1 (.slice (some ⟨gK, 0, none⟩) (q.d.keys.length + 1) cK)) (.inr fun e => ownS_type hown5 hD5 (by decide) e.symm))
    have hV6 := Lib.hid (hV5.kept (u := .slice (some ⟨D8, 0, none⟩) 0 0) (grown_setCell w5 D8 1 (.slice (some ⟨gK, 0, none⟩) (q.d.keys.length + 1) cK)) (.inr fun e => ownS_type hV5 hD5 (by decide) e.symm))
    have hk8 := Lib.hid ((hkp5.blk hk6 (HN.out _ (Nat.le_refl _)).1 (HN.out _ (Nat.le_refl _)).1).setO ⟨D8, 1, none⟩ (.slice (some ⟨gK, 0, none⟩) (q.d.keys.length + 1) cK) (by simp only; omega))
    have hk9 := Lib.hid ((hkp5.blk hk7 (HN.out _ (Nat.le_succ _)).1 (HN.out _ (Nat.le_succ _)).1).setO ⟨D8, 1, none⟩ (.slice (some ⟨gK, 0, none⟩) (q.d.keys.length + 1) cK) (by simp only; omega))
    have hkp6 := Lib.hid ((hkp5.early hb5).setFar hDw 1 (.slice (some ⟨gK, 0, none⟩) (q.d.keys.length + 1) cK))
    have hu6 : (w5.setCell ⟨D8, 1, none⟩ (.slice (some ⟨gK, 0, none⟩) (q.d.keys.length + 1) cK)).cell? ⟨b, 1, none⟩ = some (.string U) := by
      have h1 : w4.cell? ⟨b, 1, none⟩ = some (.string U) := hstr4.at 1 (by simp)
      have h2 : w5.cell? ⟨b, 1, none⟩ = some (.string U) := by
        rw [← h1]
        unfold World.cell?
        rw [hkp5.2.2.2.2 b (World.block_lt_of_cell? _ _ h1) (HN.out b hbw').1 (HN.out b hbw').1]
      rw [← h2]
      unfold World.cell?
      rw [Below.heap_setCell w5 ⟨D8, 1, none⟩ _ b (by simp only; omega)]
    have hgK6 : Hid (gK < (w5.setCell ⟨D8, 1, none⟩ (.slice (some ⟨gK, 0, none⟩) (q.d.keys.length + 1) cK)).heap.size) := Lib.hid (World.ownsRow.lt hK6.out gK rfl).2
    have hz6 : lo ≤ (w5.setCell ⟨D8, 1, none⟩ (.slice (some ⟨gK, 0, none⟩) (q.d.keys.length + 1) cK)).heap.size := Nat.le_trans hl2 hkp6.out.2.2.2.1
    have HNK : Hid ((Value.slice (some ⟨gK, 0, none⟩) (q.d.keys.length + 1) cK).ownBlock = none ∨ (Value.slice (some ⟨gK, 0, none⟩) (q.d.keys.length + 1) cK).ownBlock ≠ (Value.slice q.va q.d.vals.length q.vc).ownBlock) := Lib.hid (.inr (fun e => by
      rcases hlie with h | h
      · rcases HAP.out with h2 | h2
        · rw [h2] at h; cases h
        · exact h2 (h.trans e)
      · exact (HN.out gK (Nat.le_trans hb5.size h)).2 e))
    generalize w5.setCell ⟨D8, 1, none⟩ (.slice (some ⟨gK, 0, none⟩) (q.d.keys.length + 1) cK) = w6 at *
    have HZ6 := Lib.hid (fun W (h : Below w6.heap.size w6 W) => Nat.le_trans hz6 h.size)
    have y2 := hD6.out.cells3.2.2
    have y2a := fun o => (hD6.out.alloc o).cells3.2.2
    have y2b := fun o => (hD6.out.alloc o).drew.cells3.2.2
    have y2c := hD6.out.drew.cells3.2.2
    have u6c : w6.drew.cell? ⟨b, 1, none⟩ = some (.string U) := hu6
    clear y1 y1a y1b y1c s0 s0c x0 x1 x2 fx hown5 hg5 hlie5 hD5 hV5 hkp5 hlie
    go_upto_region 17 with fail
    go_region_law (refine step_appT _ (by rfl) (.tmp 81) (.tmp 85) 54 (by rfl) lo 9 i1 (.string ⟨#[]⟩) Tryd.underlying54 hj hy0 hy1 hy2 rfl (.slice q.va q.d.vals.length q.vc) q.d.vals U (by rfl) ?_ ?_ hvl ?_ ?_; (refine OwnS.call hV6.out ?_; focus ((repeat (first | refine Below.drew ?_ | refine bal ?_ | exact Below.refl _ _)); done)); (first | exact ⟨_, rfl, new0 _ _ _⟩ | exact ⟨_, rfl, new1 _ _ _ _⟩ | exact ⟨_, rfl, new0s _ _ _ _⟩); (refine HZ6.out _ ?_; focus ((repeat (first | refine Below.drew ?_ | refine bal ?_ | exact Below.refl _ _)); done)); intro gV cV w7 hown7 hg7 hlie7; have hK7 := OwnS.kept (OwnS.call hK6.out (by repeat (first | refine Below.drew ?_ | refine bal ?_ | exact Below.refl _ _))) hg7 HNK.out; have hkp7 := kp1 (w := w6) (by repeat (first | refine Below.drew ?_ | refine bal ?_ | exact Below.refl _ _)) hg7; have hl7 := lie8 (w := w6) (by repeat (first | refine Below.drew ?_ | refine bal ?_ | exact Below.refl _ _)) hlie7; have hD7 := hkp7.blk hD6.out (HN.out D8 hDw).2 (HN.out D8 hDw).2; obtain ⟨z0, z1, z2⟩ := hD7.cells3; have fz := hD7.frozen 2)
    all_goals
      have hD8 := Lib.hid (show Blk (w7.setCell ⟨D8, 2, none⟩ (.slice (some ⟨gV, 0, none⟩) (q.d.vals.length + 1) cV)) D8 61 #[.string q.d.kind, .slice (some ⟨gK, 0, none⟩) (q.d.keys.length + 1) cK, .slice (some ⟨gV, 0, none⟩) (q.d.vals.length + 1) cV] from hD7.set 2 _)
      have hK8 := hK7.kept (u := .slice (some ⟨D8, 0, none⟩) 0 0) (grown_setCell w7 D8 2 (.slice (some ⟨gV, 0, none⟩) (q.d.vals.length + 1) cV)) (.inr fun e => ownS_type hK7 hD7 (by decide) e.symm)
      have hV8 := hown7.kept (u := .slice (some ⟨D8, 0, none⟩) 0 0) (grown_setCell w7 D8 2 (.slice (some ⟨gV, 0, none⟩) (q.d.vals.length + 1) cV)) (.inr fun e => ownS_type hown7 hD7 (by decide) e.symm)
      have hk10 := (hkp7.blk hk8.out (HN.out _ (Nat.le_refl _)).2 (HN.out _ (Nat.le_refl _)).2).setO ⟨D8, 2, none⟩ (.slice (some ⟨gV, 0, none⟩) (q.d.vals.length + 1) cV) (by simp only; omega)
      have hk11 := (hkp7.blk hk9.out (HN.out _ (Nat.le_succ _)).2 (HN.out _ (Nat.le_succ _)).2).setO ⟨D8, 2, none⟩ (.slice (some ⟨gV, 0, none⟩) (q.d.vals.length + 1) cV) (by simp only; omega)
      have hkp8 := (Kp.both hkp6.out hkp7).setFar hDw 2 (.slice (some ⟨gV, 0, none⟩) (q.d.vals.length + 1) cV)
      have hgg : gK ≠ gV := by
        rintro rfl
        rcases hl7 with h | h
        · rcases HNK.out with h2 | h2
          · cases h2
          · exact h2 h.symm
        · have := hgK6.out; omega
      obtain ⟨hsat, hbB⟩ := HGROW.out _ gK cK gV cV hkp8 hK8 hV8 hgg
      generalize w7.setCell ⟨D8, 2, none⟩ (.slice (some ⟨gV, 0, none⟩) (q.d.vals.length + 1) cV) = w8 at *
      have gn1 : some g ≠ (Value.slice q.ka q.d.keys.length q.kc).ownBlock := by
        rcases HGN.out.1 with h | h
        · cases h
        · exact h
      have gn2 : some g ≠ (Value.slice q.va q.d.vals.length q.vc).ownBlock := by
        rcases HGN.out.2 with h | h
        · cases h
        · exact h
      have hgblk := hkp8.2.2.2.2 g hgl gn1 gn2
      have hcell : ∀ j, w8.cell? ⟨g, j, none⟩ = w.cell? ⟨g, j, none⟩ := fun j => by unfold World.cell?; rw [hgblk]
      obtain ⟨d0, d1, d2⟩ := HD.out w (Below.refl _ _)
      have v0 : w8.cell? ⟨g, i * 3, none⟩ = some (.string q.d.kind) := (hcell _).trans d0
      have v1 : w8.cell? ⟨g, i * 3 + 1, none⟩ = some (.slice q.ka q.d.keys.length q.kc) := (hcell _).trans d1
      have v2 : w8.cell? ⟨g, i * 3 + 2, none⟩ = some (.slice q.va q.d.vals.length q.vc) := (hcell _).trans d2
      have fz8 := fun j => hkp8.frozen hgl gn1 gn2 HFR.out j
      have g0 := fz8 (i * 3)
      have g1 := fz8 (i * 3 + 1)
      have g2 := fz8 (i * 3 + 2)
      have hsame := setCell_same v0
      have HSAT := Lib.hid hsat
      have HBB := Lib.hid hbB
      have HSAME := Lib.hid hsame
      have HK10 := Lib.hid hk10
      have HK11 := Lib.hid hk11
      obtain ⟨b0, b1, b2⟩ := hk10.cells3
      obtain ⟨x0, x1, x2⟩ := hD8.out.cells3
      clear hsat hbB hsame hk10 hk11 hkp8 hK8 hV8 hgg hgblk hcell d0 d1 d2 fz8 gn1 gn2 y2 y2a y2b y2c hu6 u6c hown7 hg7 hlie7 hK7 hkp7 hl7 hD7 z0 z1 z2 fz
      go_upto_region 19 with fail
      rw [HSAME.out]
      have n1 : w.heap.size ≠ g := by omega
      have n2 : w.heap.size + 1 ≠ g := by omega
      have hka := (HK10.out.setO ⟨g, i * 3 + 1, none⟩ (.slice (some ⟨gK, 0, none⟩) (q.d.keys.length + 1) cK) n1).setO ⟨g, i * 3 + 2, none⟩ (.slice (some ⟨gV, 0, none⟩) (q.d.vals.length + 1) cV) n1
      have hkb := (HK11.out.setO ⟨g, i * 3 + 1, none⟩ (.slice (some ⟨gK, 0, none⟩) (q.d.keys.length + 1) cK) n2).setO ⟨g, i * 3 + 2, none⟩ (.slice (some ⟨gV, 0, none⟩) (q.d.vals.length + 1) cV) n2
      have hs9 := HSAT.out
      have hb9 := HBB.out
      generalize (w8.setCell ⟨g, i * 3 + 1, none⟩ (.slice (some ⟨gK, 0, none⟩) (q.d.keys.length + 1) cK)).setCell ⟨g, i * 3 + 2, none⟩ (.slice (some ⟨gV, 0, none⟩) (q.d.vals.length + 1) cV) = w9 at *
      clear v0 v1 v2 g0 g1 g2 b0 b1 b2 x0 x1 x2
      obtain ⟨c0, c1, c2⟩ := hka.cells3
      obtain ⟨d0, d1, d2⟩ := hkb.cells3
      have f0 := hkb.frozen 0
      have f1 := hkb.frozen 1
      have f2 := hkb.frozen 2
      have HS := Lib.hid (hs9.set3 hkb (.slice (some ⟨g, 0, none⟩) (i + 1) c) (.bool true) (.bool true))
      have HBZ := Lib.hid (below_set3 hb9 (Nat.le_succ_of_le hBw) (.slice (some ⟨g, 0, none⟩) (i + 1) c) (.bool true) (.bool true))
      clear hs9 hb9
      go_wp2_with fail
      refine bodyPost_ret (v := .agg #[.slice (some ⟨g, 0, none⟩) (i + 1) c, .bool true, .bool true]) ?_ rfl ⟨_, _, _, true, true, rfl, HBZ.out, .inr ⟨_, HLN.out, rfl, rfl, HS.out⟩⟩
      refine (results_cell_S rfl _ _ (w.heap.size + 1) _ #[.slice (some ⟨g, 0, none⟩) (i + 1) c, .bool true, .bool true] _ _ ?_ (hkb.set3 _ _ _) Tryd.underlying57 rfl (by kernel_rfl)).trans ?_
      · rfl
      · rfl
end Go.Proofs.YtekcmgajjbdmgabDoor
