/- Matchers in memory; the contract of matcher.Right. -/
import Derived.Test.YtkgnapojkijbgaaGreatDoorMatA
import Derived.Test.YtkgnapojkijbgaaGreatDoorMatS
import Derived.Test.YtkgnapojkijbgaaGreatDoorOwn
import Derived.Deep.RegionWith
import Derived.Deep.DeepCutAuto
namespace Go.Proofs.YtkgnapojkijbgaaGreatDoor
open Go.RowKit Go.Maps

/-- the value v reads as the matcher m -/
def HasMat (w : World) (v : Value) (m : Mat) : Prop :=
  ∃ a c, v = .agg #[.string m.name, .int .i64 m.how, .slice a m.words.length c] ∧ HasStrs w a c m.words ∧ m.name.size ≤ maxLen ∧ (Lit.int .i64 m.how).wf = true
theorem HasMat.call {w w' : World} {v : Value} {m : Mat} (h : HasMat w v m) (hb : Below w.heap.size w w') : HasMat w' v m := by
  obtain ⟨a, c, h1, h2, h3⟩ := h
  exact ⟨a, c, h1, h2.call hb, h3⟩

set_option maxHeartbeats 3200000 in
set_option maxRecDepth 100000 in
theorem mRight_any (v : Value) (m : Mat) (w : World) (h : HasMat w v m) : Calls Tryz.prog 170 #[v] w (BoolB (rightM m) w) := by
  obtain ⟨a, c, rfl, hW, hs, hwf⟩ := h
  have hsv := signVal_is m.how
  have e : rightM m = (knownC m.how && (nameC m.name.data.toList && (decide ((m.words.length : Int) ≤ mostC m.how) && (wordsC m.words && decide (1 ≤ m.words.length))))) := rightMr_is _ _ _ _
  have h2 := hW.2.1
  have h1 := hW.1
  unfold maxLen at h2
  have HN := Lib.hid (fun W => mName_any m.name W hs)
  have HS := Lib.hid (fun W (hb : Below w.heap.size w W) => rightWords_any a c m.words W (hW.call hb))
  have HL := Lib.hid (fun (W : World) (b : Nat) (hm : W.ownsMap Tryz.prog 3 signElem b 4 D4) => look_sign2 hm m.how hwf)
  rw [e]
  clear hW hs e hwf
  unfold knownC
  generalize (signC m.how).isSome = K at *
  generalize (signT m.how) = T at *
  generalize onesC m.how = X at *
  generalize mostC m.how = M at *
  rw [hsv] at HL
  obtain ⟨L, hL⟩ : ∃ L, decide ((m.words.length : Int) ≤ M) = L := ⟨_, rfl⟩
  obtain ⟨B, hB⟩ : ∃ B, (wordsC m.words && decide (1 ≤ m.words.length)) = B := ⟨_, rfl⟩
  rw [hL, hB]
  rw [hB] at HS
  have HLe := Lib.hid hL
  clear hsv hL hB
  go_enter Tryz.func170, Tryz.ntmps170
  go_upto_region 1 with fail
  have hblk := Blk.new w 109 #[.string m.name, .int .i64 m.how, .slice a m.words.length c]
  have hb0 : Below w.heap.size w (w.alloc (.cells #[.string m.name, .int .i64 m.how, .slice a m.words.length c] 109)) := (Below.refl _ _).alloc (Nat.le_refl _) _
  generalize w.alloc (.cells #[.string m.name, .int .i64 m.how, .slice a m.words.length c] 109) = wx at *
  have HB := Lib.hid hblk
  have HB0 := Lib.hid hb0
  clear hblk hb0
  go_cut [3, 4] (fun p k wy => ∃ g, p = .pointer (some ⟨g, 0, none⟩) ∧ k = .bool K ∧ Blk wy g 203 #[.string ⟨T.toArray⟩, .int .i64 M, .bool X] ∧ Blk wy w.heap.size 109 #[.string m.name, .int .i64 m.how, .slice a m.words.length c] ∧ Below w.heap.size w wy)
  case first =>
    have c1 := HB.out.cells3.2.1
    have c1a := fun o => (HB.out.alloc o).drew.cells3.2.1
    have hbn := fun x y z => (Blk.new wx 203 #[x, y, z]).drew
    go_region_with (go_at_call 198; (with_reducible refine (signs_any _).mono ?_); rintro e w2 ⟨rfl, hm, hb2⟩; first
      | (have c1' := cellLater hb2 c1; have c1'' := fun o => cellLater ((Below.refl _ _).alloc (Nat.le_refl _) o) c1'; have hlk := HL.out w2 wx.heap.size hm; have hlk2 := fun o => HL.out (w2.alloc o) wx.heap.size (hm.alloc o))
      | (have c1' := cellLater hb2 (c1a _); have hk3 := (hbn _ _ _).call hb2; have ⟨d0, d1, d2⟩ := hk3.cells3; have f0 := hk3.frozen 0; have f1 := hk3.frozen 1; have f2 := hk3.frozen 2; have hlk := HL.out w2 (wx.heap.size + 1) (by simpa using hm)))
    all_goals
      go_wp2_with fail
      go_meet
      first
      | exact ⟨_, rfl, rfl, Blk.new _ _ _, (HB.out.drew.call hb2).alloc _, (bthen HB0.out.drew hb2).alloc (bthen HB0.out.drew hb2).size _⟩
      | exact ⟨_, rfl, rfl, hk3.set3 _ _ _, ((HB.out.alloc _).drew.call hb2).set3O (Nat.ne_of_lt HB.out.lt) _ _ _, below_set3 (bthen (HB0.out.alloc HB0.out.size _).drew hb2) HB0.out.size _ _ _⟩
  case rest =>
    obtain ⟨g, rfl, rfl, hsg, hbx, hbw⟩ := hcut
    obtain ⟨c0, c1, c2⟩ := hbx.cells3
    obtain ⟨d0, d1, d2⟩ := hsg.cells3
    have HX := Lib.hid hbx
    have HG := Lib.hid hsg
    clear HB HB0 HL hbx hsg
    cases K with
    | false =>
      go_wp2_with fail
      go_ret
      exact ⟨rfl, hbw⟩
    | true =>
      generalize nameC m.name.data.toList = A at *
      cases A with
      | false =>
        go_wp2_with (go_at_call 212; refine (HN.out _).mono ?_; rintro e w2 ⟨rfl, hb2⟩)
        go_ret
        exact ⟨rfl, bthen hbw hb2⟩
      | true =>
        have hkx := fun W hb => (HX.out.call (w1 := W) hb).cells3
        have hkg := fun W hb => (HG.out.call (w1 := W) hb).cells3
        have HKX := Lib.hid hkx
        have HKG := Lib.hid hkg
        clear hkx hkg
        cases L with
        | true =>
          have hM := of_decide_eq_true HLe.out
          cases B with
          | false =>
            go_wp2_with (first
              | (go_at_call 212; refine (HN.out _).mono ?_; rintro e w2 ⟨rfl, hb2⟩; obtain ⟨x0, x1, x2⟩ := HKX.out _ hb2; obtain ⟨y0, y1, y2⟩ := HKG.out _ hb2)
              | (go_at_call 213; refine (HS.out _ (bthen hbw hb2)).mono ?_; rintro e w3 ⟨rfl, rfl⟩))
            go_ret
            exact ⟨rfl, bthen hbw hb2⟩
          | true =>
            go_wp2_with (first
              | (go_at_call 212; refine (HN.out _).mono ?_; rintro e w2 ⟨rfl, hb2⟩; obtain ⟨x0, x1, x2⟩ := HKX.out _ hb2; obtain ⟨y0, y1, y2⟩ := HKG.out _ hb2)
              | (go_at_call 213; refine (HS.out _ (bthen hbw hb2)).mono ?_; rintro e w3 ⟨rfl, rfl⟩))
            go_ret
            exact ⟨rfl, bthen hbw hb2⟩
        | false =>
          have hM := HLe.out
          have hM2 := of_decide_eq_false HLe.out
          go_wp2_with (first
            | (go_at_call 212; refine (HN.out _).mono ?_; rintro e w2 ⟨rfl, hb2⟩; obtain ⟨x0, x1, x2⟩ := HKX.out _ hb2; obtain ⟨y0, y1, y2⟩ := HKG.out _ hb2)
            | (go_at_call 213; refine (HS.out _ (bthen hbw hb2)).mono ?_; rintro e w3 ⟨rfl, rfl⟩))
          go_ret
          exact ⟨rfl, bthen hbw hb2⟩
end Go.Proofs.YtkgnapojkijbgaaGreatDoor
