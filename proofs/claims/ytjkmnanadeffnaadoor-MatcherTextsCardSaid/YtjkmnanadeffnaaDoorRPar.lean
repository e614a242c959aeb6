/- The contract of the document's own Parse of layer 4. -/
import Derived.Test.YtjkmnanadeffnaaDoorRParP
import Derived.Test.YtjkmnanadeffnaaDoorRTxt
import Derived.Test.YtjkmnanadeffnaaDoorMatV
import Derived.Test.YtjkmnanadeffnaaDoorOwnS
import Derived.Deep.DeepCutAuto
import Derived.Deep.CutBlock
import Derived.Deep.LoopGhost
namespace Go.Proofs.YtjkmnanadeffnaaDoor
open Go.RowKit Go.Maps

def RParPost (o : Option Mat) (w : World) (e : Ending) (w' : World) : Prop :=
  (match o with
    | some m => ∃ a c, e = .returned (.tuple #[.agg (matCells a c m), .bool true]) ∧ HasStrs w' a c m.words
    | none => e = .returned (.tuple #[zeroMat, .bool false])) ∧ Below w.heap.size w w'

theorem isEnd_of {s : ByteArray} {k : Nat} (hno : ∀ j (h : j < s.size), j < k → s[j].toNat ≠ 61 ∧ s[j].toNat ≠ 33) (hk : k ≤ s.size) (hend : ∀ h : k < s.size, s[k].toNat = 61 ∨ s[k].toNat = 33) : IsEnd s.data.toList k := by
  have hl : s.data.toList.length = s.size := by simp
  have hat : ∀ j (h : j < s.data.toList.length), s.data.toList[j] = s[j]'(by omega) := fun j h => rfl
  refine ⟨by omega, fun j h hj => ?_, fun h => ?_⟩
  · rw [hat j h]
    have := hno j (by omega) hj
    exact ⟨fun e => this.1 (by rw [e]; rfl), fun e => this.2 (by rw [e]; rfl)⟩
  · rw [hat k h]
    rcases hend (by omega) with e | e
    · exact .inl (UInt8.toNat_inj.1 e)
    · exact .inr (UInt8.toNat_inj.1 e)

set_option maxHeartbeats 12800000 in
set_option maxRecDepth 100000 in
theorem r4Parse_any (s : ByteArray) (w : World) (hs : s.size ≤ 1000) : Calls Tryd.prog 21 #[.string s] w (RParPost (parseM s.data.toList) w) := by
  have hsl : s.data.toList.length = s.size := by simp
  have hca := fun n (hn : IsEnd s.data.toList n) m (hp : parseM s.data.toList = some m) => cand_of hp hn
  have hok := fun n how => cand_ok (L := s.data.toList) (n := n) (how := how)
  have HCA := Lib.hid hca
  have HOK := Lib.hid hok
  obtain ⟨R, hR⟩ : ∃ R, parseM s.data.toList = R := ⟨_, rfl⟩
  have HR := Lib.hid hR
  rw [hR]
  clear hca hok hR
  have HSL := Lib.hid hsl
  clear hsl
  go_enter Tryd.func21, Tryd.ntmps21
  go_upto_region 1 with fail
  have hb0 := (Below.refl _ w).alloc (Nat.le_refl _) (.cells #[.string ⟨#[]⟩, .int .i64 0, .slice none 0 0] 25)
  have hx0 := Blk.new w 25 #[.string ⟨#[]⟩, .int .i64 0, .slice none 0 0]
  generalize w.alloc (.cells #[.string ⟨#[]⟩, .int .i64 0, .slice none 0 0] 25) = wx at *
  have HB0 := Lib.hid hb0
  have HX0 := Lib.hid hx0
  clear hb0 hx0
  go_upto_block 0 with fail
  go_cut [4] (fun n wy => ∃ k : Nat, n = .int .i64 k ∧ IsEnd s.data.toList k ∧ wy = wx)
  case first =>
    go_wp2_with fail
    go_loop [4] (fun n => ∃ k : Nat, n = .int .i64 k ∧ k ≤ s.size ∧ ∀ j (h : j < s.size), j < k → s[j].toNat ≠ 61 ∧ s[j].toNat ≠ 33) (fun n => s.size - (intOf n).toNat)
    case atStart => exact ⟨0, rfl, Nat.zero_le _, fun j _ h => absurd h (Nat.not_lt_zero _)⟩
    case round =>
      obtain ⟨k, rfl, hk, hno⟩ := hrel
      have HNO := Lib.hid hno
      clear hno
      by_cases hlt : k < s.size
      · obtain ⟨b, hb⟩ : ∃ b : UInt8, s[k] = b := ⟨_, rfl⟩
        have HBK := Lib.hid hb
        clear hb
        by_cases h61 : s[k].toNat = 61
        · have t1 : ((s[k].toNat : Int) != 61) = false := by rw [bne_eq_false_iff_eq]; omega
          go_wp2_with fail
          go_meet
          exact ⟨k, rfl, isEnd_of HNO.out (by omega) (fun h => .inl h61), rfl⟩
        · have t1 : ((s[k].toNat : Int) != 61) = true := by rw [bne_iff_ne]; omega
          by_cases h33 : s[k].toNat = 33
          · have t2 : ((s[k].toNat : Int) != 33) = false := by rw [bne_eq_false_iff_eq]; omega
            go_wp2_with fail
            go_meet
            exact ⟨k, rfl, isEnd_of HNO.out (by omega) (fun h => .inr h33), rfl⟩
          · have t2 : ((s[k].toNat : Int) != 33) = true := by rw [bne_iff_ne]; omega
            go_wp2_with fail
            go_round
            case rel => exact ⟨k + 1, by go_num, by omega, fun j h hj => by
              by_cases e : j = k
              · subst e; exact ⟨h61, h33⟩
              · exact HNO.out j h (by omega)⟩
            case measure => simp [intOf]; omega
      · go_wp2_with fail
        go_meet
        exact ⟨k, rfl, isEnd_of HNO.out hk (fun h => absurd h hlt), rfl⟩
  case rest =>
    obtain ⟨n, rfl, hn, rfl⟩ := hcut
    have hn1 := hn.1
    rw [HSL.out] at hn1
    have HN := Lib.hid hn
    clear hn
    go_wp2_with fail
    go_loopg [5] 4 (fun gg h wr => ∃ k : Nat, 1 ≤ k ∧ k + gg = 5 ∧ h = .int .i64 k ∧ (∀ m, R = some m → (k : Int) ≤ m.how) ∧ Blk wr w.heap.size 25 #[.string ⟨#[]⟩, .int .i64 0, .slice none 0 0] ∧ Below w.heap.size w wr)
    case atStart => exact ⟨1, Nat.le_refl _, rfl, rfl, fun m hm => by
      have := HR.out; rw [hm] at this
      exact ((rightM_iff m).1 ((parseM_iff _ _).1 this).1).2.1, HX0.out, HB0.out⟩
    case round =>
      obtain ⟨k, h1, h5, rfl, hlow, hr, hb⟩ := hrel
      have HLOW := Lib.hid hlow
      have HRB := Lib.hid hr
      have HB := Lib.hid hb
      clear hlow hr hb
      by_cases hk5 : k < 5
      · obtain ⟨T, hT⟩ : ∃ T, signT (k : Int) = T := ⟨_, rfl⟩
        have hsg := fun W => rSign_any (k : Int) W (by omega) (by omega)
        rw [hT] at hsg
        have hTl : 1 ≤ T.length ∧ T.length ≤ 2 := by
          have hc : k = 1 ∨ k = 2 ∨ k = 3 ∨ k = 4 := by omega
          rw [← hT]
          rcases hc with rfl | rfl | rfl | rfl <;> decide
        obtain ⟨hT1, hT2⟩ := hTl
        have HSG := Lib.hid hsg
        have HT := Lib.hid hT
        clear hsg hT
        go_upto_region 9 with (go_at_call 41; (with_reducible refine (HSG.out _).mono ?_); rintro e ws ⟨rfl, hbs⟩)
        have hgb := (Blk.new wr 25 #[.string (s.extract 0 n), .int .i64 (k : Int), .slice none 0 0]).call hbs
        have hrs := (HRB.out.alloc (.cells #[.string (s.extract 0 n), .int .i64 (k : Int), .slice none 0 0] 25)).call hbs
        have hba := bthen (HB.out.alloc HB.out.size (.cells #[.string (s.extract 0 n), .int .i64 (k : Int), .slice none 0 0] 25)) hbs
        have HGB := Lib.hid hgb
        have HRS := Lib.hid hrs
        have HBA := Lib.hid hba
        clear hbs hgb hrs hba
        have hKt : (((n : Int) + (T.length : Int)).toNat) = n + T.length := by omega
        go_cut [60] (fun b wy => ∃ B, b = .bool B ∧ (B = true ∧ ¬ CondM s.data.toList n (k : Int) ∨ B = false ∧ CondM s.data.toList n (k : Int)) ∧ Below ws.heap.size ws wy)
        case first =>
          have hcl := HSL.out
          have hcm : CondM s.data.toList n (k : Int) ↔ n + T.length < s.size ∧ (s.extract n (n + T.length)).data.toList = T ∧ s.data.toList[n + T.length]? = some 34 := by
            unfold CondM
            rw [HT.out, HSL.out, ByteArray.data_extract, Array.toList_extract, List.extract, show n + T.length - n = T.length by omega]
          by_cases c1 : s.size ≤ n + T.length
          · have c1i : (s.size : Int) ≤ (n : Int) + (T.length : Int) := by omega
            have HC := Lib.hid (show ¬ CondM s.data.toList n (k : Int) from fun h => by have := (hcm.1 h).1; omega)
            clear hcm hcl
            refine wp_region_later (by kernel_rfl) (by kernel_rfl) ?_
            repeat (go_big_quiet_step ((go_at_call 41; exact calls_later (HSG.out _))))
            refine wpQuiet_nil ?_
            rintro _ ⟨x, rfl⟩
            go_wp2_with fail
            go_meet
            exact ⟨true, rfl, .inl ⟨rfl, HC.out⟩, later_below _ _⟩
          · have c1i : ¬ (s.size : Int) ≤ (n : Int) + (T.length : Int) := by omega
            have c1j : (n : Int) + (T.length : Int) ≤ (s.size : Int) := by omega
            have c1k : (n : Int) + (T.length : Int) < (s.size : Int) := by omega
            obtain ⟨E, hE⟩ : ∃ E, s.extract n (n + T.length) = E := ⟨_, rfl⟩
            rw [hE] at hcm
            by_cases c2 : E.data.toList = T
            · have c2b : (E.toList == T) = true := by rw [beq_iff_eq, ByteArray.toList_eq]; exact c2
              have hKl : n + T.length < s.size := by omega
              obtain ⟨b, hb⟩ : ∃ b : UInt8, s[n + T.length]'hKl = b := ⟨_, rfl⟩
              have hbl : s.data.toList[n + T.length]? = some b := by rw [← hb]; exact Lib.data_getElem? s _ hKl
              rw [hbl] at hcm
              by_cases c3 : b.toNat = 34
              · have c3b : ((b.toNat : Int) != 34) = false := by rw [bne_eq_false_iff_eq]; omega
                have HC := Lib.hid (show CondM s.data.toList n (k : Int) from hcm.2 ⟨hKl, c2, by rw [show b = 34 from UInt8.toNat_inj.1 c3]⟩)
                clear hcm hcl c2 hbl c3
                refine wp_region_later (by kernel_rfl) (by kernel_rfl) ?_
                repeat (go_big_quiet_step ((go_at_call 41; exact calls_later (HSG.out _))))
                refine wpQuiet_nil ?_
                rintro _ ⟨x, rfl⟩
                go_wp2_with fail
                go_meet
                exact ⟨false, rfl, .inr ⟨rfl, HC.out⟩, later_below _ _⟩
              · have c3b : ((b.toNat : Int) != 34) = true := by rw [bne_iff_ne]; omega
                have HC := Lib.hid (show ¬ CondM s.data.toList n (k : Int) from fun h => c3 (by have := (hcm.1 h).2.2; simp only [Option.some.injEq] at this; rw [this]; rfl))
                clear hcm hcl c2 hbl c3
                refine wp_region_later (by kernel_rfl) (by kernel_rfl) ?_
                repeat (go_big_quiet_step ((go_at_call 41; exact calls_later (HSG.out _))))
                refine wpQuiet_nil ?_
                rintro _ ⟨x, rfl⟩
                go_wp2_with fail
                go_meet
                exact ⟨true, rfl, .inl ⟨rfl, HC.out⟩, later_below _ _⟩
            · have c2b : (E.toList == T) = false := by rw [beq_eq_false_iff_ne, ByteArray.toList_eq]; exact c2
              have HC := Lib.hid (show ¬ CondM s.data.toList n (k : Int) from fun h => c2 (hcm.1 h).2.1)
              clear hcm hcl c2
              refine wp_region_later (by kernel_rfl) (by kernel_rfl) ?_
              repeat (go_big_quiet_step ((go_at_call 41; exact calls_later (HSG.out _))))
              refine wpQuiet_nil ?_
              rintro _ ⟨x, rfl⟩
              go_wp2_with fail
              go_meet
              exact ⟨true, rfl, .inl ⟨rfl, HC.out⟩, later_below _ _⟩
        case rest =>
          obtain ⟨B, rfl, hB, hbc⟩ := hcut
          obtain ⟨gg, rfl⟩ : ∃ gg', gk = gg' + 1 := ⟨gk - 1, by omega⟩
          rcases hB with ⟨rfl, hno⟩ | ⟨rfl, hyes⟩
          · have HNO := Lib.hid hno
            clear hno
            go_wp2_with fail
            go_roundg gg
            case measure => omega
            case rel => exact ⟨k + 1, by omega, by omega, by go_num, fun m hm => by
              have h1 := HLOW.out m hm
              have h2 := HR.out; rw [hm] at h2
              have h3 := (HCA.out n HN.out m h2).1
              by_cases e : m.how = (k : Int)
              · rw [e] at h3; exact absurd h3 HNO.out
              · push_cast; omega, HRS.out.call hbc, bthen HBA.out hbc⟩
          · have hKl : n + T.length < s.size := by
              have := hyes.1; rw [HT.out, HSL.out] at this; exact this
            have hgw : wr.heap.size < wc.heap.size := Nat.lt_of_lt_of_le HGB.out.lt hbc.size
            have hww : w.heap.size < wr.heap.size := HRB.out.lt
            have hg3 := HGB.out.call hbc
            have hr3 := HRS.out.call hbc
            have hb3 := bthen HBA.out hbc
            have HG3 := Lib.hid hg3
            have HR3 := Lib.hid hr3
            have HB3 := Lib.hid hb3
            have HGW := Lib.hid hgw
            have HWW := Lib.hid hww
            clear hg3 hr3 hb3 hgw hww hyes hbc HGB HRS HBA hKt
            have hmd0 : ∀ i, i < s.size - 1 → midL s.data.toList i = s.data.toList[i]! :: midL s.data.toList (i + 1) := fun i h => by
              have hl := HSL.out
              rw [midL_step _ i (by omega), getElem!_pos _ i (by omega)]
            have HMD := Lib.hid hmd0
            have hme0 : ∀ i, s.size - 1 ≤ i → midL s.data.toList i = [] := fun i h => midL_end _ i (by rw [HSL.out]; exact h)
            have HME := Lib.hid hme0
            have HAT := Lib.hid (fun i (h : i < s.size) => (show s.data.toList[i]! = s[i] from by rw [getElem!_pos _ i (by rw [HSL.out]; exact h)]; rfl))
            clear hmd0 hme0
            obtain ⟨i0, hi, hz0, hz1, hz2⟩ := info_parts Tryd.infoS
            obtain ⟨base, hbz, hgb⟩ : ∃ base, base ≤ wc.heap.size ∧ wr.heap.size < base := ⟨_, Nat.le_refl _, HGW.out⟩
            have HBZ := Lib.hid hbz
            have HGB := Lib.hid hgb
            clear hbz hgb HGW HSG
            generalize wr.heap.size = G at *
            go_upto_block 4 with fail
            go_cut [8] (fun nw wy => ∃ (words : List ByteArray) (now : Bs) (p : Option Addr) (q : Nat), nw = .string ⟨now.toArray⟩ ∧ now.length ≤ s.size ∧ words.length ≤ s.size ∧ (∀ x ∈ words, x.size ≤ s.size) ∧ Blk wy G 25 #[.string (s.extract 0 n), .int .i64 (k : Int), .slice p words.length q] ∧ OwnS 9 wy base (.slice p words.length q) words ∧ words.map (·.data.toList) ++ [now] = splitL [] (midL s.data.toList (n + T.length + 1)) ∧ Blk wy w.heap.size 25 #[.string ⟨#[]⟩, .int .i64 0, .slice none 0 0] ∧ Below w.heap.size w wy ∧ base ≤ wy.heap.size)
            case first =>
              go_wp2_with fail
              go_loopg [8, 9] (s.size - 1 - (n + T.length + 1)) (fun gi nw iv wy => ∃ (i : Nat) (words : List ByteArray) (now : Bs) (p : Option Addr) (q : Nat), nw = .string ⟨now.toArray⟩ ∧ iv = .int .i64 (i : Int) ∧ i ≤ s.size ∧ s.size - 1 - i = gi ∧ now.length ≤ i ∧ words.length ≤ i ∧ (∀ x ∈ words, x.size ≤ s.size) ∧ Blk wy G 25 #[.string (s.extract 0 n), .int .i64 (k : Int), .slice p words.length q] ∧ OwnS 9 wy base (.slice p words.length q) words ∧ words.map (·.data.toList) ++ splitL now (midL s.data.toList i) = splitL [] (midL s.data.toList (n + T.length + 1)) ∧ Blk wy w.heap.size 25 #[.string ⟨#[]⟩, .int .i64 0, .slice none 0 0] ∧ Below w.heap.size w wy ∧ base ≤ wy.heap.size)
              case atStart => exact ⟨n + T.length + 1, [], [], none, 0, rfl, by go_num, by omega, rfl, Nat.zero_le _, Nat.zero_le _, (fun x hx => by cases hx), HG3.out, OwnS.nil _ _ _, rfl, HR3.out, HB3.out, HBZ.out⟩
              case round =>
                obtain ⟨i, words, now, p, q, rfl, rfl, hi1, hi2, hnl, hwl, hws, hg, hown, hsp, hr, hb, hz⟩ := hrel
                have HWS := Lib.hid hws
                have HG := Lib.hid hg
                have HO := Lib.hid hown
                have HSP := Lib.hid hsp
                have HRR := Lib.hid hr
                have HBB := Lib.hid hb
                have HZ := Lib.hid hz
                clear hws hg hown hsp hr hb hz
                cases gk with
                | zero =>
                  have hge : ¬ (i : Int) < (s.size : Int) - 1 := by omega
                  have hfin : words.map (·.data.toList) ++ [now] = splitL [] (midL s.data.toList (n + T.length + 1)) := by
                    have h := HSP.out
                    rw [HME.out i (by omega)] at h
                    exact h
                  have HF := Lib.hid hfin
                  clear hfin
                  go_wp2_with fail
                  go_meet
                  exact ⟨words, now, p, q, rfl, by omega, by omega, HWS.out, HG.out, HO.out, HF.out, HRR.out, HBB.out, HZ.out⟩
                | succ gi =>
                  have hlt : (i : Int) < (s.size : Int) - 1 := by omega
                  have his : i < s.size := by omega
                  obtain ⟨b, hb⟩ : ∃ b : UInt8, s[i]'his = b := ⟨_, rfl⟩
                  have hmid : midL s.data.toList i = b :: midL s.data.toList (i + 1) := by rw [HMD.out i (by omega), HAT.out i his, hb]
                  have hsp := HSP.out
                  rw [hmid, splitL] at hsp
                  clear hmid
                  by_cases h124 : b = 124
                  · rw [if_pos h124] at hsp
                    have t1 : ((b.toNat : Int) == 124) = true := by rw [h124]; rfl
                    have HS2 := Lib.hid hsp
                    clear hsp HSP h124
                    obtain ⟨x0, x1, x2⟩ := HG.out.cells3
                    go_wp2_with (at_builtin; refine (wpList_push wr rfl _ _ 23 rfl base 9 i0 (.string ⟨#[]⟩) 16 Tryd.underlying23 hi hz0 hz1 hz2 rfl (.slice p words.length q) words.length (strsV words) rfl HO.out (.string ⟨now.toArray⟩) rfl rfl ?c1 ?c2 ?c3 ?_))
                    case c1 => unfold maxLen; omega
                    case c2 => omega
                    case c3 => exact HZ.out
                    intro g2 c2 w2 hown2 hg2
                    have hk2 := HG.out.push hg2 (HO.out.ne HGB.out)
                    have hr2 := HRR.out.push hg2 (HO.out.ne (Nat.lt_trans HWW.out HGB.out))
                    have hb2 := HO.out.grown HBB.out (Nat.le_of_lt (Nat.lt_trans HWW.out HGB.out)) HBB.out.size hg2
                    have hz2' := Nat.le_trans HZ.out hg2.size
                    have hlen : (words ++ [(⟨now.toArray⟩ : ByteArray)]).length = words.length + 1 := by simp
                    have hown3 : OwnS 9 w2 base (.slice (some ⟨g2, 0, none⟩) (words ++ [(⟨now.toArray⟩ : ByteArray)]).length c2) (words ++ [⟨now.toArray⟩]) := by
                      unfold OwnS; rw [hlen, ← strsV_push]; exact hown2
                    have HK2 := Lib.hid hk2
                    have HR2 := Lib.hid hr2
                    have HB2 := Lib.hid hb2
                    have HZ2 := Lib.hid hz2'
                    have HO2 := Lib.hid hown3
                    have HL2 := Lib.hid hlen
                    clear hr2 hb2 hz2' hown2 hown3 hlen hg2 x0 x1 x2
                    obtain ⟨x0, x1, x2⟩ := hk2.cells3
                    have f2 := hk2.frozen 2
                    clear hk2
                    go_wp2_with fail
                    go_roundg gi
                    case measure => omega
                    case rel => exact ⟨i + 1, words ++ [⟨now.toArray⟩], [], some ⟨g2, 0, none⟩, c2, rfl, by go_num, by omega, by omega, Nat.zero_le _, by rw [HL2.out]; omega, (fun x hx => by
                      rcases List.mem_append.1 hx with hx | hx
                      · exact HWS.out x hx
                      · rw [List.mem_singleton] at hx; subst hx; show now.length ≤ s.size; omega), by rw [HL2.out]; exact HK2.out.set 2 _, HO2.out.setCell HGB.out 2 _, by rw [List.map_append, List.append_assoc]; exact HS2.out, HR2.out.setO _ _ (Nat.ne_of_lt HWW.out), HB2.out.setCell (Nat.le_of_lt HWW.out) _, by simpa [World.setCell] using HZ2.out⟩
                  · rw [if_neg h124] at hsp
                    have t1 : ((b.toNat : Int) == 124) = false := by
                      rw [beq_eq_false_iff_ne]; intro e; exact h124 (UInt8.toNat_inj.1 (by show b.toNat = 124; omega))
                    have hcat : (⟨now.toArray⟩ ++ s.extract i (i + 1) : ByteArray) = ⟨(now ++ [b]).toArray⟩ := by
                      apply bytes_ext
                      rw [ByteArray.data_append, Array.toList_append, ByteArray.data_extract, Array.toList_extract, List.extract, List.drop_eq_getElem_cons (by rw [HSL.out]; exact his), show i + 1 - i = 1 by omega, List.take_succ_cons, List.take_zero]
                      rw [show s.data.toList[i]'(by rw [HSL.out]; exact his) = b from hb]
                    have HS2 := Lib.hid hsp
                    clear hsp HSP h124
                    obtain ⟨E, hE⟩ : ∃ E, s.extract i (i + 1) = E := ⟨_, rfl⟩
                    rw [hE] at hcat
                    have hEs : E.size ≤ 1 := by rw [← hE, ByteArray.size_extract]; omega
                    have p1 : ¬ 9223372036854775807 < now.length + E.size := by omega
                    have e1 : ((i : Int) + 1).toNat = i + 1 := by omega
                    have HCT := Lib.hid hcat
                    clear hcat hEs
                    go_wp2_with fail
                    go_roundg gi
                    case measure => omega
                    case rel => exact ⟨i + 1, words, now ++ [b], p, q, by rw [HCT.out], by go_num, by omega, by omega, by simp; omega, by omega, HWS.out, HG.out, HO.out, HS2.out, HRR.out, HBB.out, HZ.out⟩
            case rest =>
              obtain ⟨words, now, p, q, rfl, hnl, hwl, hws, hg, hown, hsp, hr, hb, hz⟩ := hcut
              clear HG3 HR3 HB3 HBZ HMD HME HAT hKl
              have hC : (⟨s.extract 0 n, (k : Int), words ++ [⟨now.toArray⟩]⟩ : Mat) = candM s.data.toList n (k : Int) := by
                unfold candM
                rw [HT.out, ← hsp]
                have e1 : s.extract 0 n = ⟨(s.data.toList.take n).toArray⟩ := bytes_ext (by rw [Lib.extract_from_zero])
                have hid : words.map ((fun l : Bs => (⟨l.toArray⟩ : ByteArray)) ∘ fun x => x.data.toList) = words := by
                  conv => rhs; rw [← List.map_id words]
                  exact List.map_congr_left fun s _ => by simp
                rw [List.map_append, List.map_map, hid, e1]; rfl
              have hc5 : ∀ m, R = some m → m.how = (k : Int) → candM s.data.toList n (k : Int) = m := fun m hm e => by
                have h2 := HR.out; rw [hm] at h2
                have h3 := (HCA.out n HN.out m h2).2
                rw [e] at h3; exact h3
              have HC5 := Lib.hid hc5
              have hok := HOK.out n (k : Int)
              rw [← hC] at hok
              have HC := Lib.hid hC
              have HOK2 := Lib.hid hok
              have hnmz : (s.extract 0 n).size ≤ 1000 := by rw [ByteArray.size_extract]; omega
              have HNZ := Lib.hid hnmz
              have hwf : (Lit.int .i64 (k : Int)).wf = true := WalkArith.wf_i64 (by omega)
              have HWF := Lib.hid hwf
              clear hC hc5 hok hsp hnmz hwf HCA HN HT HOK
              obtain ⟨x0, x1, x2⟩ := hg.cells3
              go_wp2_with (at_builtin; refine (wpList_push wc rfl _ _ 23 rfl base 9 i0 (.string ⟨#[]⟩) 16 Tryd.underlying23 hi hz0 hz1 hz2 rfl (.slice p words.length q) words.length (strsV words) rfl hown (.string ⟨now.toArray⟩) rfl rfl ?c1 ?c2 ?c3 ?_))
              case c1 => unfold maxLen; omega
              case c2 => omega
              case c3 => exact hz
              intro g2 c2 w2 hown2 hg2
              have hk2 := hg.push hg2 (hown.ne HGB.out)
              have hr2 := hr.push hg2 (hown.ne (Nat.lt_trans HWW.out HGB.out))
              have hb2 := hown.grown hb (Nat.le_of_lt (Nat.lt_trans HWW.out HGB.out)) hb.size hg2
              have hlen : (words ++ [(⟨now.toArray⟩ : ByteArray)]).length = words.length + 1 := by simp
              have hown3 : OwnS 9 w2 base (.slice (some ⟨g2, 0, none⟩) (words ++ [(⟨now.toArray⟩ : ByteArray)]).length c2) (words ++ [⟨now.toArray⟩]) := by
                unfold OwnS; rw [hlen, ← strsV_push]; exact hown2
              have hsz : ∀ x ∈ words ++ [(⟨now.toArray⟩ : ByteArray)], x.size ≤ maxLen := fun x hx => by
                unfold maxLen
                rcases List.mem_append.1 hx with hx | hx
                · have := hws x hx; omega
                · rw [List.mem_singleton] at hx; subst hx; show now.length ≤ _; omega
              have hne9 : g2 ≠ w.heap.size := fun e => hown3.ne (Nat.lt_trans HWW.out HGB.out) (by rw [← e]; rfl)
              have HNE := Lib.hid hne9
              obtain ⟨a9, c9, e9, hS9⟩ := (hown3.setCell HGB.out 2 (.slice (some ⟨g2, 0, none⟩) (words.length + 1) c2)).strs hsz
              obtain ⟨rfl, -, rfl⟩ : some ⟨g2, 0, none⟩ = a9 ∧ (words ++ [(⟨now.toArray⟩ : ByteArray)]).length = (words ++ [(⟨now.toArray⟩ : ByteArray)]).length ∧ c2 = c9 := by simpa using e9
              have HK2 := Lib.hid (hk2.set 2 (.slice (some ⟨g2, 0, none⟩) (words.length + 1) c2))
              have HR2 := Lib.hid (hr2.setO ⟨G, 2, none⟩ (.slice (some ⟨g2, 0, none⟩) (words.length + 1) c2) (Nat.ne_of_lt HWW.out))
              have HB2 := Lib.hid (hb2.setCell (p := ⟨G, 2, none⟩) (Nat.le_of_lt HWW.out) (.slice (some ⟨g2, 0, none⟩) (words.length + 1) c2))
              have HS9 := Lib.hid hS9
              have HL2 := Lib.hid hlen
              obtain ⟨y0, y1, y2⟩ := hk2.cells3
              have f2 := hk2.frozen 2
              clear hne9 hg hown hr hb hz hws hk2 hr2 hb2 hown2 hown3 hg2 hlen hsz hS9 e9 x0 x1 x2
              go_upto_region 19 with fail
              clear y0 y1 y2 f2
              generalize w2.setCell ⟨G, 2, none⟩ (.slice (some ⟨g2, 0, none⟩) (words.length + 1) c2) = w3 at *
              have hk3 : Blk w3 G 25 #[.string (s.extract 0 n), .int .i64 (k : Int), .slice (some ⟨g2, 0, none⟩) (words.length + 1) c2] := HK2.out
              have HK3 := Lib.hid hk3
              obtain ⟨C, hCd⟩ : ∃ C : Mat, C = ⟨s.extract 0 n, (k : Int), words ++ [⟨now.toArray⟩]⟩ := ⟨_, rfl⟩
              have hhm : ∀ W, Below w3.heap.size w3 W → HasMat W (.agg #[.string (s.extract 0 n), .int .i64 (k : Int), .slice (some ⟨g2, 0, none⟩) (words.length + 1) c2]) C := fun W hW => by
                subst hCd
                exact ⟨some ⟨g2, 0, none⟩, c2, by rw [HL2.out], HS9.out.call hW, (by have := HNZ.out; unfold maxLen; exact Nat.le_trans this (by omega)), HWF.out⟩
              have HM := Lib.hid hhm
              have hCs : HasStrs w3 (some ⟨g2, 0, none⟩) c2 C.words := by subst hCd; exact HS9.out
              have hCc : candM s.data.toList n (k : Int) = C := by rw [hCd]; exact HC.out.symm
              have hCk : C.how = (k : Int) := by rw [hCd]
              have hok := HOK2.out
              rw [← hCd] at hok
              have hrr := fun W (h : Below w3.heap.size w3 W) => r4Right_any _ C W (HM.out W h)
              have hval : (.agg #[.string (s.extract 0 n), .int .i64 (k : Int), .slice (some ⟨g2, 0, none⟩) (words.length + 1) c2] : Value) = .agg (matCells (some ⟨g2, 0, none⟩) c2 C) := by
                subst hCd; unfold matCells; rw [HL2.out]
              have HVAL := Lib.hid hval
              have HCS := Lib.hid hCs
              have HCC := Lib.hid hCc
              have HCK := Lib.hid hCk
              have HOK := Lib.hid hok
              have HCD := Lib.hid hCd
              obtain ⟨z0, z1, z2⟩ := hk3.cells3
              clear hk3 hhm hCs hCc hCk hok hCd hval HC HOK2 HS9 HL2
              cases hrc : rightM C with
              | false =>
                rw [hrc] at hrr
                have HRR := Lib.hid hrr
                have HRC := Lib.hid hrc
                clear hrr hrc
                go_wp2_with (go_at_call 13; (with_reducible refine (HRR.out _ (Below.refl _ _)).mono ?_); rintro e w4 ⟨rfl, hb4⟩)
                go_roundg gg
                case measure => omega
                case rel => exact ⟨k + 1, by omega, by omega, by go_num, fun m hm => by
                  have h1 := HLOW.out m hm
                  by_cases e : m.how = (k : Int)
                  · have h3 := HC5.out m hm e
                    rw [HCC.out] at h3
                    have h2 := HR.out; rw [hm] at h2
                    have h4 := ((parseM_iff _ _).1 h2).1
                    rw [← h3, HRC.out] at h4; cases h4
                  · push_cast; omega, HR2.out.call hb4, bthen HB2.out hb4⟩
              | true =>
                rw [hrc] at hrr
                have htx := fun W (h : Below w3.heap.size w3 W) => r4Text_any _ C W (HM.out W h) hrc
                obtain ⟨TX, hTX⟩ : ∃ TX : ByteArray, (⟨(textM C).toArray⟩ : ByteArray) = TX := ⟨_, rfl⟩
                rw [hTX] at htx
                have HRR := Lib.hid hrr
                have HTX := Lib.hid htx
                have HTE := Lib.hid hTX
                have HRC := Lib.hid hrc
                have hkc := fun W (h : Below w3.heap.size w3 W) => (HK3.out.call h).cells3
                have HKC := Lib.hid hkc
                clear hrr htx hTX hrc hkc
                by_cases hT : TX = s
                · have t1 : (TX.toList == s.toList) = true := by rw [hT]; simp
                  have hRS : R = some C := by
                    have h := HOK.out HRC.out (by have := HTE.out; rw [hT] at this; rw [← this])
                    rw [← HR.out, h]
                  subst hRS
                  have hrb := fun W (h : Below w3.heap.size w3 W) => HR2.out.call h
                  have HRB2 := Lib.hid hrb
                  clear hrb hT
                  go_wp2_with (first
                    | (go_at_call 13; (with_reducible refine (HRR.out _ (Below.refl _ _)).mono ?_); rintro e w4 ⟨rfl, hb4⟩; obtain ⟨z0', z1', z2'⟩ := HKC.out _ hb4)
                    | (go_at_call 22; (with_reducible refine (HTX.out _ hb4).mono ?_); rintro e w5 ⟨rfl, hb5⟩; have hb45 := bthen hb4 hb5; obtain ⟨v0, v1, v2⟩ := HKC.out _ hb45; have hr5 := HRB2.out _ hb45; have f0 := hr5.frozen 0; have f1 := hr5.frozen 1; have f2 := hr5.frozen 2; obtain ⟨d0, d1, d2⟩ := hr5.cells3))
                  refine bodyPost_ret (v := .tuple #[.agg (matCells (some ⟨g2, 0, none⟩) c2 C), .bool true]) ?_ rfl ⟨⟨_, _, rfl, (HCS.out.call hb45).set3O HNE.out _ _ _⟩, below_set3 (bthen HB2.out hb45) (Nat.le_refl _) _ _ _⟩
                  rw [← HVAL.out]
                  refine (results_cell_tmp1 rfl _ _ w.heap.size _ #[.string (s.extract 0 n), .int .i64 (k : Int), .slice (some ⟨g2, 0, none⟩) (words.length + 1) c2] _ _ ?_ (hr5.set3 _ _ _) Tryd.underlying25 rfl (by kernel_rfl)).trans ?_
                  · rfl
                  · rfl
                · have t1 : (TX.toList == s.toList) = false := by
                    rw [beq_eq_false_iff_ne]; intro e; exact hT (by rw [ByteArray.toList_eq, ByteArray.toList_eq] at e; exact bytes_ext e)
                  go_wp2_with (first
                    | (go_at_call 13; (with_reducible refine (HRR.out _ (Below.refl _ _)).mono ?_); rintro e w4 ⟨rfl, hb4⟩; obtain ⟨z0', z1', z2'⟩ := HKC.out _ hb4)
                    | (go_at_call 22; (with_reducible refine (HTX.out _ hb4).mono ?_); rintro e w5 ⟨rfl, hb5⟩; have hb45 := bthen hb4 hb5))
                  go_roundg gg
                  case measure => omega
                  case rel => exact ⟨k + 1, by omega, by omega, by go_num, fun m hm => by
                    have h1 := HLOW.out m hm
                    by_cases e : m.how = (k : Int)
                    · have h3 := HC5.out m hm e
                      rw [HCC.out] at h3
                      have h2 := HR.out; rw [hm] at h2
                      have h4 := ((parseM_iff _ _).1 h2).2
                      rw [← h3] at h4
                      exact absurd (by rw [← HTE.out]; exact bytes_ext h4) hT
                    · push_cast; omega, HR2.out.call hb45, bthen HB2.out hb45⟩
      · have hRn : R = none := by
          cases hRR : R with
          | none => rfl
          | some m =>
            have h3 := HLOW.out m hRR
            have h4 := HR.out; rw [hRR] at h4
            have := ((rightM_iff m).1 ((parseM_iff _ _).1 h4).1).2.2.1
            omega
        subst hRn
        have hr := HRB.out
        have f0 := hr.frozen 0
        have f1 := hr.frozen 1
        have f2 := hr.frozen 2
        obtain ⟨d0, d1, d2⟩ := hr.cells3
        clear hr
        go_wp2_with fail
        refine bodyPost_ret (v := .tuple #[zeroMat, .bool false]) ?_ rfl ⟨rfl, below_set3 HB.out (Nat.le_refl _) _ _ _⟩
        refine (results_cell_tmp1 rfl _ _ w.heap.size _ #[.string ⟨#[]⟩, .int .i64 0, .slice none 0 0] _ _ ?_ (HRB.out.set3 _ _ _) Tryd.underlying25 rfl (by kernel_rfl)).trans ?_
        · rfl
        · rfl
end Go.Proofs.YtjkmnanadeffnaaDoor
