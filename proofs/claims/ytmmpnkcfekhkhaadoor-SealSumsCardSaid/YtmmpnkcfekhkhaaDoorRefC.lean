/- The contract of the document's own Sum. -/
import Derived.Test.YtmmpnkcfekhkhaaDoorRefB
import Derived.Test.YtmmpnkcfekhkhaaDoorShaD
namespace Go.Proofs.YtmmpnkcfekhkhaaDoor
open Go.RowKit

/-- what 2 ^ 56 is behind i divisions by 256 -/
def pw (i : Nat) : Nat := 72057594037927936 / 256 ^ i
theorem pw_succ (i : Nat) : pw i / 256 = pw (i + 1) := by rw [pw, pw, Nat.div_div_eq_div_mul, Nat.pow_succ]
def be8 (n : Nat) (k : Nat) : List UInt8 := (List.range k).map fun i => UInt8.ofNat (n / pw i)
theorem be8_succ (n k : Nat) : be8 n (k + 1) = be8 n k ++ [UInt8.ofNat (n / pw k)] := by simp [be8, List.range_succ]
theorem be8_all {n : Nat} : be8 n 8 = be4 (n / 4294967296) ++ be4 n := by
  have h : be8 n 8 = [UInt8.ofNat (n / 72057594037927936), UInt8.ofNat (n / 281474976710656), UInt8.ofNat (n / 1099511627776), UInt8.ofNat (n / 4294967296), UInt8.ofNat (n / 16777216), UInt8.ofNat (n / 65536), UInt8.ofNat (n / 256), UInt8.ofNat (n / 1)] := rfl
  rw [h, be4, be4, Nat.div_div_eq_div_mul, Nat.div_div_eq_div_mul, Nat.div_div_eq_div_mul, Nat.div_one]
  rfl
theorem pw_pos {i : Nat} (h : i ≤ 7) : 0 < pw i := by
  match i, h with
  | 0, _ => decide
  | 1, _ => decide
  | 2, _ => decide
  | 3, _ => decide
  | 4, _ => decide
  | 5, _ => decide
  | 6, _ => decide
  | 7, _ => decide
theorem pw_le (i : Nat) : pw i ≤ 72057594037927936 := Nat.div_le_self _ _

set_option maxHeartbeats 3200000 in
set_option maxRecDepth 100000 in
theorem rsum_any (s : ByteArray) (w : World) (hs : s.size ≤ 400000000) :
    Calls Tryd.prog 11 #[.string s] w fun e w' => e = .returned (.string ⟨(shaL s.data.toList).toArray⟩) ∧ Below w.heap.size w w' := by
  obtain ⟨i0, hi, hz0, hz1, hz2⟩ := info_parts Tryd.infoB
  have hbs := run_bytes_of_string (P := Tryd.prog) w 9 41 5 s Tryd.underlying9 Tryd.underlying41 Tryd.underlying5
  have hc1 := grownCap_ge w s.size 0 5
  have hc2 := grownCap_le_maxLen w s.size 0 5 (by unfold maxLen; omega)
  generalize grownCap w s.size 0 5 = c at *
  have hown := OwnsM.of_text w.drew s c 5 ((bytesRow s c).size + 1) hc1 hc2
  have hB : Below w.heap.size w (w.drew.alloc (.cells (bytesRow s c) 5 ((bytesRow s c).size, (bytesRow s c).size + 1))) := (below_drewN (Below.refl _ _) 1).alloc (Nat.le_refl _) _
  have hsz2 : w.heap.size ≤ (w.drew.alloc (.cells (bytesRow s c) 5 ((bytesRow s c).size, (bytesRow s c).size + 1))).heap.size := hB.size
  obtain ⟨W, hW⟩ : ∃ W, W = w.drew.alloc (.cells (bytesRow s c) 5 ((bytesRow s c).size, (bytesRow s c).size + 1)) := ⟨_, rfl⟩
  rw [← hW] at hbs hown hB hsz2
  have hown : OwnsM W w.heap.size 5 1 (.slice (some ⟨w.heap.size, 0, none⟩) s.size c) s.size (bytesV s.data.toList) := hown
  clear hW hc1 hc2
  go_enter Tryd.func11, Tryd.ntmps11
  go_wp2_with (at_builtin; refine (wpList_pushM W rfl _ _ 41 rfl w.heap.size 5 i0 (.int .u8 0) 1 Tryd.underlying41 hi hz0 hz1 hz2 rfl (.slice (some ⟨w.heap.size, 0, none⟩) s.size c) s.size (bytesV s.data.toList) rfl hown [.int .u8 128] W.heap.size rfl rfl (by simp [Value.oneCell']) (by unfold maxLen; simp; omega) (by simp; omega) hsz2 ?_))
  intro v1 w1 hown1 hg1
  obtain ⟨a1, c1, rfl⟩ := hown1.form
  have hB1 : Below w.heap.size w w1 := hB.grown hg1 hsz2 (fun k hk => (hown.lt k hk).1)
  have hown1 : OwnsM w1 w.heap.size 5 1 (.slice a1 (s.size + 1) c1) (s.size + 1) (bytesV (s.data.toList ++ [128])) := by
    rw [bytesV_app]; exact hown1
  clear hown hB hg1 hsz2 hbs
  go_wp2_with fail
  go_loopw [3] (fun v wr => ∃ (k N : Nat) (a : Option Addr) (c : Nat), k ≤ zerosN s.size ∧ N = s.size + 1 + k ∧ v = .slice a N c ∧ OwnsM wr w.heap.size 5 1 v N (bytesV (s.data.toList ++ [128] ++ List.replicate k 0)) ∧ Below w.heap.size w wr) (fun v _ => match v with | .slice _ n _ => zerosN s.size + s.size + 1 - n | _ => 0)
  case atStart => exact ⟨0, s.size + 1, a1, c1, Nat.zero_le _, rfl, rfl, by simpa using hown1, hB1⟩
  case round =>
    clear hown1 hB1
    obtain ⟨k, N, a, c, hk, hN, rfl, hown1, hB1⟩ := hrel
    have hz1' := hB1.size
    have hz9 : zerosN s.size = (119 - s.size % 64) % 64 := rfl
    by_cases hlt : k < zerosN s.size
    · have ht : ((N : Int) % 64 == 56) = false := by rw [beq_eq_false_iff_ne]; omega
      have hNl : N ≤ 1000000000 := by omega
      have hrep : s.data.toList ++ [128] ++ List.replicate (k + 1) (0 : UInt8) = s.data.toList ++ [128] ++ List.replicate k 0 ++ [0] := by rw [List.replicate_succ', ← List.append_assoc]
      have HR := Lib.hid hrep
      have HN := Lib.hid hN
      clear hz9 hrep hN
      generalize s.data.toList ++ [128] ++ List.replicate k 0 = L at *
      go_wp2_with (at_builtin; refine (wpList_pushM wr rfl _ _ 41 rfl w.heap.size 5 i0 (.int .u8 0) 1 Tryd.underlying41 hi hz0 hz1 hz2 rfl (.slice a N c) N _ rfl hown1 [.int .u8 0] wr.heap.size rfl rfl (by simp [Value.oneCell']) (by unfold maxLen; simp; omega) (by simp; omega) hz1' ?_))
      intro v2 w2 hown2 hg2
      obtain ⟨a2, c2, rfl⟩ := hown2.form
      have hB2 : Below w.heap.size w w2 := hB1.grown hg2 hz1' (fun k hk => (hown1.lt k hk).1)
      go_wp2
      go_roundw
      case rel => exact ⟨k + 1, N + 1, a2, c2, by omega, by rw [HN.out]; omega, rfl, by rw [HR.out, bytesV_app]; exact hown2, hB2⟩
      case measure => have := HN.out; simp; omega
    · have ht : ((N : Int) % 64 == 56) = true := by rw [beq_iff_eq]; omega
      have htn : ((N : Int) % 64 != 56) = false := by rw [bne, ht]; rfl
      have hend : s.data.toList ++ [128] ++ List.replicate k 0 ++ be8 (8 * s.size) 8 = endL s.data.toList s.size := by
        rw [endL, be8_all, show s.data.toList.length = s.size by simp, show zerosN s.size = k by omega, List.append_assoc _ (be4 _) (be4 _)]
      have hel : N + 8 = (endL s.data.toList s.size).length := by rw [endL_len, show s.data.toList.length = s.size by simp]; omega
      have hNl : N ≤ 900000000 := by omega
      have HE := Lib.hid hend
      have HL := Lib.hid hel
      clear hz9 hN hend hel hk hlt
      generalize s.data.toList ++ [128] ++ List.replicate k 0 = L at *
      go_wp2_with fail

      clear ht htn
      go_loopw [3, 5, 6] (fun v p i wr => ∃ (k : Nat) (a : Option Addr) (c : Nat), k ≤ 8 ∧ i = .int .i64 k ∧ p = .int .u64 (pw k : Nat) ∧ v = .slice a (N + k) c ∧ OwnsM wr w.heap.size 5 1 v (N + k) (bytesV (L ++ be8 (8 * s.size) k)) ∧ Below w.heap.size w wr) (fun _ _ i _ => 8 - (intOf i).toNat)
      case atStart => exact ⟨0, a, c, by omega, rfl, rfl, rfl, by simpa [be8] using hown1, hB1⟩
      case round =>
        clear hown1 hB1 hz1'
        obtain ⟨k, a, c, hk, rfl, rfl, rfl, hown1, hB1⟩ := hrel
        have hz1' := hB1.size
        by_cases hk8 : k < 8
        · have hki : (k : Int) < 8 := by omega
          have hpos := pw_pos (i := k) (by omega)
          have hple := pw_le k
          have hps := pw_succ k
          have hbb := be8_succ (8 * s.size) k
          have HP := Lib.hid hps
          have hpi : (1 : Int) ≤ (pw k : Int) := by omega
          have hpn : ¬ ((pw k : Int) = 0) := by omega
          obtain ⟨D, hD⟩ : ∃ D, D = 8 * s.size / pw k := ⟨_, rfl⟩
          have hDi : (s.size : Int) * 8 / (pw k : Int) = (D : Int) := by rw [hD, Nat.mul_comm]; rfl
          have hDl : D ≤ 4000000000 := by rw [hD]; exact Nat.le_trans (Nat.div_le_self _ _) (by omega)
          rw [← hD] at hbb
          have HBB := Lib.hid hbb
          have hDV : bytesV [UInt8.ofNat D] = [.int .u8 ((D : Int) % 256)] := by simp [bytesV]
          have HDV := Lib.hid hDV
          clear hps hbb hD hDV
          generalize pw k = p at *
          go_wp2_with (at_builtin; refine (wpList_pushM wr rfl _ _ 41 rfl w.heap.size 5 i0 (.int .u8 0) 1 Tryd.underlying41 hi hz0 hz1 hz2 rfl (.slice a (N + k) c) (N + k) _ rfl hown1 [.int .u8 ((D : Int) % 256)] wr.heap.size rfl rfl (by simp [Value.oneCell']) (by unfold maxLen; simp; omega) (by simp; omega) hz1' ?_))
          intro v2 w2 hown2 hg2
          obtain ⟨a2, c2, rfl⟩ := hown2.form
          have hB2 : Below w.heap.size w w2 := hB1.grown hg2 hz1' (fun k hk => (hown1.lt k hk).1)
          go_wp2
          go_roundw
          case rel =>
            exact ⟨k + 1, a2, c2, by omega, by go_num, by rw [← HP.out]; rfl, rfl, by rw [HBB.out, ← List.append_assoc, bytesV_app, HDV.out]; exact hown2, hB2⟩
          case measure => simp [intOf]; omega
        · have hk8' : k = 8 := by omega
          have hki : ¬ (k : Int) < 8 := by omega
          have hlist : L ++ be8 (8 * s.size) k = endL s.data.toList s.size := by rw [hk8']; exact HE.out
          have hNk : N + k = (endL s.data.toList s.size).length := by rw [hk8']; exact HL.out
          have hmod := endL_mod s.data.toList s.size
          have hll := endL_len s.data.toList s.size
          have hzl : zerosN s.data.toList.length ≤ 63 := by unfold zerosN; omega
          have hshaW : shaW s.data.toList = blocksN ((endL s.data.toList s.size).length / 64) HH (endL s.data.toList s.size) := by rw [shaW]; simp
          rw [hlist, hNk] at hown1
          rw [hNk]
          rw [show s.data.toList.length = s.size by simp] at hll hzl
          have HSW := Lib.hid hshaW
          clear hlist hNk hk8' HE HL hshaW
          generalize endL s.data.toList s.size = M at *
          have hM1 : M.length ≤ 500000000 := by omega
          have hMne : M ≠ [] := by intro h; rw [h] at hll; simp at hll
          obtain ⟨g, cap, cur, fz, hv, hbg, hcur, hfz, hn, hcm, hcs, htake⟩ : ∃ g cap cur fz, (Value.slice a M.length c) = .slice (some ⟨g, 0, none⟩) M.length cap ∧ w.heap.size ≤ g ∧ wr.heap[g]? = some (.cells cur 5 fz) ∧ (fz = (0, 0) ∨ cur.size ≤ fz.1) ∧ M.length ≤ cap ∧ cap ≤ maxLen ∧ cur.size = cap * 1 ∧ cur.toList.take (M.length * 1) = bytesV M := by
            rcases hown1.2 with ⟨_, h0⟩ | h
            · exact absurd (List.eq_nil_of_length_eq_zero h0) hMne
            · exact h
          simp only [Value.slice.injEq] at hv
          obtain ⟨rfl, -, rfl⟩ := hv
          have hgl : g < wr.heap.size := lt_of_block hcur
          have HLL := Lib.hid hll
          have hm64 := Lib.hid hmod
          clear hll hmod hcs htake hzl
          have hrd : ∀ (Wd : World), Below wr.heap.size wr Wd → ∀ j, 64 * j + 64 ≤ M.length → (convert 41 9 (.slice (some ⟨g, 64 * j, none⟩) 64 (c - 64 * j))).run Tryd.prog Wd = .ok (.string ⟨((M.drop (64 * j)).take 64).toArray⟩) Wd := by
            intro Wd hWd j hj
            have hl64 : ((M.drop (64 * j)).take 64).length = 64 := by rw [List.length_take, List.length_drop]; omega
            have := run_convert_bytes_back (P := Tryd.prog) Wd 41 9 5 ⟨g, 64 * j, none⟩ (c - 64 * j) ((M.drop (64 * j)).take 64) Tryd.underlying41 Tryd.underlying5 Tryd.underlying9 (by
              intro i hi
              rw [hl64] at hi
              have e0 : (⟨g, 64 * j, none⟩ : Addr).add i = ⟨g, 64 * j + i, none⟩ := by unfold Addr.add; split <;> simp_all
              have e1 : (⟨g, 0, none⟩ : Addr).add (64 * j + i) = ⟨g, 64 * j + i, none⟩ := by unfold Addr.add; split <;> simp_all
              have := hown1.cells (g := g) rfl (64 * j + i) _ (bytesV_get M (64 * j + i) (by omega))
              rw [e1] at this
              rw [e0, hWd.cell (p := ⟨g, 64 * j + i, none⟩) hgl, this]
              simp)
            rw [hl64] at this
            exact this
          go_wp2_with (go_at_call 17; (with_reducible refine (first8 _).mono ?_); rintro e w2 ⟨gh, ch, rfl, hH, hb2⟩)
          go_loopw [7, 8] (fun hv i wx => ∃ (j gh ch : Nat), 64 * j ≤ M.length ∧ i = .int .i64 ((64 * j : Nat) : Int) ∧ hv = .slice (some ⟨gh, 0, none⟩) 8 ch ∧ HasWs wx gh ch (blocksN j HH M) ∧ Below wr.heap.size wr wx) (fun _ i _ => M.length - (intOf i).toNat)
          case atStart => exact ⟨0, gh, ch, by omega, rfl, rfl, hH, hb2⟩
          case round =>
            clear hH hb2
            obtain ⟨j, gh, ch, hjl, rfl, rfl, hH, hb2⟩ := hrel
            by_cases hlt : 64 * j < M.length
            · have hj1 : 64 * j + 64 ≤ M.length := by have := hm64.out; omega
              have hr := hrd wr hb2 j hj1
              have hrD := hrd wr.drew (below_drewN hb2 1) j hj1
              have h8 := blocksN_eight j HH_eight M
              have hsn := blocksN_snoc j HH M (by omega)
              have hsz : (⟨((M.drop (64 * j)).take 64).toArray⟩ : ByteArray).size = 64 := by simp [ByteArray.size]; omega
              have hbl := fun (W : World) (gh ch : Nat) h => rblock_any (blocksN j HH M) gh ch ⟨((M.drop (64 * j)).take 64).toArray⟩ W h8 h hsz
              have hlst : (⟨((M.drop (64 * j)).take 64).toArray⟩ : ByteArray).data.toList = (M.drop (64 * j)).take 64 := rfl
              rw [hlst, ← hsn] at hbl
              obtain ⟨Y, hY⟩ : ∃ Y : ByteArray, ⟨((M.drop (64 * j)).take 64).toArray⟩ = Y := ⟨_, rfl⟩
              rw [hY] at hr hrD hbl
              have HBL := Lib.hid hbl
              have HY := Lib.hid hY
              clear hbl hlst hsn hsz h8 hrd hY
              obtain ⟨A, hA⟩ : ∃ A, 64 * j = A := ⟨_, rfl⟩
              rw [hA] at hr hrD hj1 hlt hjl
              rw [hA]
              have HA := Lib.hid hA
              have hAi : (A : Int) < (M.length : Int) := by omega
              have hA64 : (A : Int) + 64 ≤ (M.length : Int) := by omega
              have hA0 : (0 : Int) ≤ (A : Int) := by omega
              have hAc : (A : Int) + 64 ≤ (c : Int) := by omega
              have hsub : ((A : Int) + 64).toNat - A = 64 := by omega
              clear hA
              go_wp2_with (go_at_call 33; (with_reducible refine (HBL.out _ _ _ hH).mono ?_); rintro e w3 ⟨gh3, ch3, rfl, hH3, hb3⟩)
              go_roundw
              case rel => exact ⟨j + 1, gh3, ch3, by have := HA.out; omega, by have := HA.out; go_num, rfl, hH3, bthen hb2 hb3⟩
              case measure => have := HA.out; simp [intOf]; omega
            · have hje : 64 * j = M.length := by omega
              have hje2 : j = M.length / 64 := by omega
              have hfin : blocksN j HH M = shaW s.data.toList := by rw [HSW.out, hje2]
              have h8 := shaW_eight s.data.toList
              rw [hfin] at hH
              rw [hje]
              have hBw := bthen hB1 hb2
              have HFIN : Hid (shaL s.data.toList = (shaW s.data.toList).flatMap be4) := Lib.hid rfl
              have hlen := shaL_len s.data.toList
              have HLN := Lib.hid hlen
              clear hje hje2 hfin hrd hlt hb2 hB1 hown1 HLL hm64 HSW hlen
              generalize shaW s.data.toList = WW at *
              go_wp2_with fail
              go_loopw [9, 60] (fun v i wx => ∃ q : Nat, q ≤ 8 ∧ i = .int .i64 q ∧ OwnsM wx wr.heap.size 5 1 v (4 * q) (bytesV ((WW.take q).flatMap be4)) ∧ Below wr.heap.size wr wx) (fun _ i _ => 8 - (intOf i).toNat)
              case atStart => exact ⟨0, by omega, rfl, OwnsM.new wr [] _ (by unfold maxLen; simp), (Below.refl _ _).alloc (Nat.le_refl _) _⟩
              case round =>
                obtain ⟨q, hq, rfl, hown, hB6⟩ := hrel
                have hsz := hB6.size
                by_cases hq8 : q < 8
                · have hqi : (q : Int) < 8 := by omega
                  have hqi0 : (0 : Int) ≤ (q : Int) := by omega
                  have d1 := (hH.call hB6).2.2.2 q (by rw [h8.1]; exact hq8)
                  have hxb := getD_lt h8.2 q
                  have htk := be4_take WW q (by rw [h8.1]; exact hq8)
                  have HTK := Lib.hid htk
                  clear htk
                  generalize WW.getD q 0 = x at *
                  have hbe := be4V hxb
                  have HB := Lib.hid hbe
                  clear hbe
                  go_wp2_with (at_builtin; refine (wpList_pushM wr rfl _ _ 41 rfl _ 5 i0 (.int .u8 0) 1 Tryd.underlying41 hi hz0 hz1 hz2 rfl _ (4 * q) (bytesV ((WW.take q).flatMap be4)) (by rfl) hown [.int .u8 ((x : Int) / 16777216), .int .u8 ((x : Int) / 65536 % 256), .int .u8 ((x : Int) / 256 % 256), .int .u8 ((x : Int) % 256)] wr.heap.size (by rfl) (by rfl) (by simp [Value.oneCell']) (by unfold maxLen; simp; omega) (by simp; omega) hsz ?_))
                  intro v' w' hown6 hg6
                  go_wp2
                  go_roundw
                  case rel => exact ⟨q + 1, by omega, by go_num, by rw [HTK.out, bytesV_app, HB.out]; exact hown6, hB6.grown hg6 hsz (fun k hk => (hown.lt k hk).1)⟩
                  case measure => simp [intOf]; omega
                · have hq8' : q = 8 := by omega
                  have hall : (WW.take q).flatMap be4 = shaL s.data.toList := by rw [HFIN.out, List.take_of_length_le (by rw [h8.1]; omega)]
                  have hlen : 4 * q = (shaL s.data.toList).length := by rw [HLN.out]; omega
                  rw [hall, hlen] at hown
                  have hcv := OwnsM.str (P := Tryd.prog) (src := 41) (dst := 9) hown Tryd.underlying41 Tryd.underlying5 Tryd.underlying9
                  clear hall hlen hq8' hown HFIN HLN
                  go_wp2
                  go_ret
                  exact ⟨rfl, bthen hBw hB6⟩
end Go.Proofs.YtmmpnkcfekhkhaaDoor
