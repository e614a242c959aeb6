/- The contract of the document's own Mark. -/
import Derived.Test.YtmmpnkcfekhkhaaDoorRefC
import Derived.Test.YtmmpnkcfekhkhaaDoorShaF
import Derived.Test.YtmmpnkcfekhkhaaDoorAppQ
import Derived.Test.YtmmpnkcfekhkhaaDoorBytes
import Derived.Deep.LoopGhost
namespace Go.Proofs.YtmmpnkcfekhkhaaDoor
open Go.RowKit

theorem hexD_low {d : Nat} (h : d < 10) : ((hexD d).toNat : Int) = 48 + (d : Int) := by
  unfold hexD; rw [if_pos h]; simp; omega
theorem hexD_high {d : Nat} (h : ¬ d < 10) (h2 : d < 16) : ((hexD d).toNat : Int) = 97 + (d : Int) - 10 := by
  unfold hexD; rw [if_neg h]; simp; omega
theorem bytesV_one (b : UInt8) : bytesV [b] = [.int .u8 (b.toNat : Int)] := rfl

set_option maxHeartbeats 3200000 in
set_option maxRecDepth 100000 in
theorem rmark_any (s : ByteArray) (w : World) (hs : s.size ≤ 400000000) :
    Calls Tryd.prog 13 #[.string s] w fun e w' => e = .returned (.string ⟨(markL s.data.toList).toArray⟩) ∧ Below w.heap.size w w' := by
  obtain ⟨i0, hi, hz0, hz1, hz2⟩ := info_parts Tryd.infoB
  have hsum := fun W => rsum_any s W hs
  have hml := markL_len s.data.toList
  have hmd : markL s.data.toList = ((shaL s.data.toList).take 8).flatMap fun b => [hexD (b.toNat / 16), hexD (b.toNat % 16)] := rfl
  obtain ⟨S, hS⟩ : ∃ S : ByteArray, S = ⟨(shaL s.data.toList).toArray⟩ := ⟨_, rfl⟩
  have hS32 : S.size = 32 := by rw [hS]; show (shaL s.data.toList).toArray.size = 32; rw [List.size_toArray, shaL_len]
  have hSl : S.data.toList = shaL s.data.toList := by rw [hS]
  rw [← hS] at hsum
  have hZs : (S.extract 0 8).size = 8 := by simp; omega
  have hZl : (S.extract 0 8).data.toList = (shaL s.data.toList).take 8 := by rw [extract_list, hSl]; simp
  have hZn : (S.extract 0 8).data.toList.length = 8 := by simpa using hZs
  rw [← hZl] at hmd
  have hbs := fun W => run_bytes_of_string (P := Tryd.prog) W 9 41 5 (S.extract 0 8) Tryd.underlying9 Tryd.underlying41 Tryd.underlying5
  simp only [hZs] at hbs
  have HSU := Lib.hid hsum
  have HMD := Lib.hid hmd
  have HML := Lib.hid hml
  have HZN := Lib.hid hZn
  have hs1 : 32 ≤ S.size := by omega
  have hs2 : S.size ≤ 32 := by omega
  clear hsum hml hmd hS hSl hS32 hZl hZn hZs
  go_enter Tryd.func13, Tryd.ntmps13
  go_wp2_with ((with_reducible refine (HSU.out _).mono ?_); rintro e w1 ⟨rfl, hb1⟩)
  have hown0 : OwnsM (w.alloc (.cells #[] 5)) w.heap.size 5 1 (.slice (some ⟨w.heap.size, 0, none⟩) 0 0) 0 [] := OwnsM.new w [] _ (by unfold maxLen; simp)
  have hown1 := hown0.call hb1
  have hBB : Below w.heap.size w w1 := bthen ((Below.refl _ _).alloc (Nat.le_refl _) _) hb1
  have hgp2 : w.heap.size ≠ w1.heap.size := by have := hb1.size; simp at this; omega
  have hl := HasBytes.of_string w1 (S.extract 0 8) (grownCap w1 8 0 5) 5 ((bytesRow (S.extract 0 8) (grownCap w1 8 0 5)).size + 1)
  have hcap : 8 ≤ grownCap w1 8 0 5 := grownCap_ge w1 8 0 5
  have hl1 := hl.drew
  have hown2 := (hown1.alloc (.cells (bytesRow (S.extract 0 8) (grownCap w1 8 0 5)) 5 ((bytesRow (S.extract 0 8) (grownCap w1 8 0 5)).size, (bytesRow (S.extract 0 8) (grownCap w1 8 0 5)).size + 1))).drew
  have hB2 := (hBB.alloc hBB.size (.cells (bytesRow (S.extract 0 8) (grownCap w1 8 0 5)) 5 ((bytesRow (S.extract 0 8) (grownCap w1 8 0 5)).size, (bytesRow (S.extract 0 8) (grownCap w1 8 0 5)).size + 1))).drew
  clear hl hown1 hBB hb1 hown0 hbs
  generalize (w1.alloc (.cells (bytesRow (S.extract 0 8) (grownCap w1 8 0 5)) 5 ((bytesRow (S.extract 0 8) (grownCap w1 8 0 5)).size, (bytesRow (S.extract 0 8) (grownCap w1 8 0 5)).size + 1))).drew = w3 at *
  generalize w1.heap.size = B1 at *
  generalize grownCap w1 8 0 5 = C1 at *
  generalize (S.extract 0 8).data.toList = Z at *
  go_loopg [3, 14] 8 (fun gg v iv wr => ∃ (k go c : Nat), v = .slice (some ⟨go, 0, none⟩) (2 * k) c ∧ k + gg = 8 ∧ iv = .int .i64 (k : Int) ∧ OwnsM wr w.heap.size 5 1 v (2 * k) (bytesV ((Z.take k).flatMap fun b => [hexD (b.toNat / 16), hexD (b.toNat % 16)])) ∧ go ≠ B1 ∧ HasBytes wr B1 Z ∧ w.heap.size ≤ wr.heap.size ∧ Below w.heap.size w wr)
  case atStart => exact ⟨0, _, _, rfl, by omega, rfl, hown2, hgp2, hl1, hB2.size, hB2⟩
  case round =>
    clear hown2 hgp2 hl1 hB2
    obtain ⟨k, go, c, rfl, hkg, rfl, hown, hne, hz, hGs, hB⟩ := hrel
    cases gk with
    | zero =>
      obtain rfl : k = 8 := by omega
      have hall : (Z.take 8).flatMap (fun b => [hexD (b.toNat / 16), hexD (b.toNat % 16)]) = markL s.data.toList := by rw [HMD.out, List.take_of_length_le (by rw [HZN.out]; omega)]
      have hlen : 2 * 8 = (markL s.data.toList).length := by rw [HML.out]
      rw [hall, hlen] at hown
      have hcv := OwnsM.str (P := Tryd.prog) (src := 41) (dst := 9) hown Tryd.underlying41 Tryd.underlying5 Tryd.underlying9
      rw [← hlen] at hcv
      clear hall hlen hown hz
      go_wp2_with fail
      go_ret
      exact ⟨rfl, hB⟩
    | succ gg =>
      have hlt : k < 8 := by omega
      have hdt : decide ((k : Int) < 8) = true := by simp; omega
      have hkZ : k < Z.length := by rw [HZN.out]; exact hlt
      have hc := hz.cell k hkZ
      have htk : (Z.take (k + 1)).flatMap (fun b => [hexD (b.toNat / 16), hexD (b.toNat % 16)]) = (Z.take k).flatMap (fun b => [hexD (b.toNat / 16), hexD (b.toNat % 16)]) ++ [hexD (Z[k].toNat / 16), hexD (Z[k].toNat % 16)] := by
        rw [List.take_succ_eq_append_getElem hkZ, List.flatMap_append]
        simp
      have hx := Z[k].toNat_lt
      generalize Z[k].toNat = z at *
      have HTK := Lib.hid htk
      have HZ := Lib.hid hz
      have HOWN := Lib.hid hown
      clear htk hkZ
      generalize (Z.take k).flatMap (fun b => [hexD (b.toNat / 16), hexD (b.toNat % 16)]) = P at *
      clear hz hown
      go_wp2_with fail
      have hz := HZ.out.alloc (.cells #[.int .u8 ((z : Int) / 16), .int .u8 ((z : Int) % 16)] 5)
      have hown := HOWN.out.alloc (.cells #[.int .u8 ((z : Int) / 16), .int .u8 ((z : Int) % 16)] 5)
      have hbb := hB.alloc hGs (.cells #[.int .u8 ((z : Int) / 16), .int .u8 ((z : Int) % 16)] 5)
      have hc0 : (wr.alloc (.cells #[.int .u8 ((z : Int) / 16), .int .u8 ((z : Int) % 16)] 5)).cell? ⟨wr.heap.size, 0, none⟩ = some (.int .u8 ((z / 16 : Nat) : Int)) := by
        rw [World.cell?_alloc_mark wr _ 5 (0, 0) 0]; rfl
      have hc1 : (wr.alloc (.cells #[.int .u8 ((z : Int) / 16), .int .u8 ((z : Int) % 16)] 5)).cell? ⟨wr.heap.size, 1, none⟩ = some (.int .u8 ((z % 16 : Nat) : Int)) := by
        rw [World.cell?_alloc_mark wr _ 5 (0, 0) 1]; rfl
      have hgs : wr.heap.size < (wr.alloc (.cells #[.int .u8 ((z : Int) / 16), .int .u8 ((z : Int) % 16)] 5)).heap.size := by simp
      have hne2 : go ≠ wr.heap.size := by have := (HOWN.out.lt go rfl).2; omega
      generalize (wr.alloc (.cells #[.int .u8 ((z : Int) / 16), .int .u8 ((z : Int) % 16)] 5)) = w4 at *
      generalize wr.heap.size = B2 at *
      go_loopg [3, 24] 2 (fun g2 v jv wj => ∃ (j go c : Nat), v = .slice (some ⟨go, 0, none⟩) (2 * k + j) c ∧ j + g2 = 2 ∧ jv = .int .i64 (j : Int) ∧ OwnsM wj w.heap.size 5 1 v (2 * k + j) (bytesV (P ++ [hexD (z / 16), hexD (z % 16)].take j)) ∧ go ≠ B1 ∧ go ≠ B2 ∧ HasBytes wj B1 Z ∧ B2 < wj.heap.size ∧ wj.cell? ⟨B2, 0, none⟩ = some (.int .u8 ((z / 16 : Nat) : Int)) ∧ wj.cell? ⟨B2, 1, none⟩ = some (.int .u8 ((z % 16 : Nat) : Int)) ∧ w.heap.size ≤ wj.heap.size ∧ Below w.heap.size w wj)
      case atStart => exact ⟨0, go, c, rfl, by omega, rfl, by simpa using hown, hne, hne2, hz, hgs, hc0, hc1, hbb.size, hbb⟩
      case round =>
        clear hown hne hne2 hz hgs hc0 hc1 hbb hc hB hGs HOWN HZ
        obtain ⟨j, go, c, rfl, hjg, rfl, hown, hne, hne2, hz, hgs, hc0, hc1, hGs, hB⟩ := hrel
        cases gk with
        | zero =>
          obtain rfl : j = 2 := by omega
          have HO := Lib.hid hown
          clear hc0 hc1
          go_wp2_with fail
          go_roundg gg
          case measure => omega
          case rel => exact ⟨k + 1, go, c, rfl, by omega, by go_num, by rw [HTK.out]; exact HO.out, hne, hz, hGs, hB⟩
        | succ g2 =>
          have hj2 : j < 2 := by omega
          obtain ⟨d, hd, hcd, htj⟩ : ∃ d : Nat, d < 16 ∧ wr.cell? ⟨B2, j, none⟩ = some (.int .u8 (d : Int)) ∧ [hexD (z / 16), hexD (z % 16)].take (j + 1) = [hexD (z / 16), hexD (z % 16)].take j ++ [hexD d] := by
            rcases (show j = 0 ∨ j = 1 by omega) with rfl | rfl
            · exact ⟨z / 16, by omega, hc0, rfl⟩
            · exact ⟨z % 16, by omega, hc1, rfl⟩
          have HTJ := Lib.hid htj
          have HC0 := Lib.hid hc0
          have HC1 := Lib.hid hc1
          clear htj hc0 hc1
          generalize [hexD (z / 16), hexD (z % 16)].take j = T at *
          by_cases h10 : d < 10
          · have hh := hexD_low h10
            have HH := Lib.hid hh
            clear hh
            go_wp2_with (at_builtin; refine (wpList_pushQ wr rfl _ _ 41 rfl w.heap.size 5 i0 (.int .u8 0) 1 Tryd.underlying41 hi hz0 hz1 hz2 rfl go c (2 * k + j) _ rfl hown (.int .u8 (48 + (d : Int))) wr.heap.size rfl rfl rfl (by unfold maxLen; omega) (by omega) hGs ?_))
            intro g3 c3 w5 hown3 hg3 hor
            rw [← HH.out] at hown3
            have hlo := hown.lt go rfl
            have hlb := hz.lt
            have hz5 : HasBytes w5 B1 Z := hz.of_heap (hg3.block B1 hlb (by simpa using Ne.symm hne))
            have hsz5 := hg3.size
            have e2 := hg3.block B2 hgs (by simpa using Ne.symm hne2)
            have h0 := (World.cell?_of_block (a := ⟨B2, 0, none⟩) e2).trans HC0.out
            have h1 := (World.cell?_of_block (a := ⟨B2, 1, none⟩) e2).trans HC1.out
            have hb5 := hB.grown hg3 hGs (fun k hk => by cases hk; exact hlo.1)
            have hn1 : g3 ≠ B1 := by rcases hor with rfl | h; exact hne; omega
            have hn2 : g3 ≠ B2 := by rcases hor with rfl | h; exact hne2; omega
            have HO3 := Lib.hid hown3
            clear hown3 hg3 e2 hown hcd
            go_wp2_with fail
            go_roundg g2
            case measure => omega
            case rel => exact ⟨j + 1, g3, c3, rfl, by omega, by go_num, by rw [HTJ.out, ← List.append_assoc, bytesV_app, bytesV_one]; exact HO3.out, hn1, hn2, hz5, by omega, h0, h1, by omega, hb5⟩
          · have hh := hexD_high h10 hd
            have HH := Lib.hid hh
            clear hh
            go_wp2_with (at_builtin; refine (wpList_pushQ wr rfl _ _ 41 rfl w.heap.size 5 i0 (.int .u8 0) 1 Tryd.underlying41 hi hz0 hz1 hz2 rfl go c (2 * k + j) _ rfl hown (.int .u8 (97 + (d : Int) - 10)) wr.heap.size rfl rfl rfl (by unfold maxLen; omega) (by omega) hGs ?_))
            intro g3 c3 w5 hown3 hg3 hor
            rw [← HH.out] at hown3
            have hlo := hown.lt go rfl
            have hlb := hz.lt
            have hz5 : HasBytes w5 B1 Z := hz.of_heap (hg3.block B1 hlb (by simpa using Ne.symm hne))
            have hsz5 := hg3.size
            have e2 := hg3.block B2 hgs (by simpa using Ne.symm hne2)
            have h0 := (World.cell?_of_block (a := ⟨B2, 0, none⟩) e2).trans HC0.out
            have h1 := (World.cell?_of_block (a := ⟨B2, 1, none⟩) e2).trans HC1.out
            have hb5 := hB.grown hg3 hGs (fun k hk => by cases hk; exact hlo.1)
            have hn1 : g3 ≠ B1 := by rcases hor with rfl | h; exact hne; omega
            have hn2 : g3 ≠ B2 := by rcases hor with rfl | h; exact hne2; omega
            have HO3 := Lib.hid hown3
            clear hown3 hg3 e2 hown hcd
            go_wp2_with fail
            go_roundg g2
            case measure => omega
            case rel => exact ⟨j + 1, g3, c3, rfl, by omega, by go_num, by rw [HTJ.out, ← List.append_assoc, bytesV_app, bytesV_one]; exact HO3.out, hn1, hn2, hz5, by omega, h0, h1, by omega, hb5⟩
end Go.Proofs.YtmmpnkcfekhkhaaDoor
