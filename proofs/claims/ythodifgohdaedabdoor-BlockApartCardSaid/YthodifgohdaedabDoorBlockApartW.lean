/- The walk of the statement BlockApart: blocks that may be have one text just if they are alike; a key's value is got of what is read as it was. -/
import Derived.Test.YthodifgohdaedabDoorBlkF
import Derived.Test.YthodifgohdaedabDoorBlkL
import Derived.Test.YthodifgohdaedabDoorBlkT
import Derived.Test.YthodifgohdaedabDoorPrsJ
import Derived.Test.YthodifgohdaedabDoorPrtB
import Derived.Test.YthodifgohdaedabDoorDefsArg
import Derived.Deep.CutBlock
import Derived.Outline
import Derived.IntWalk
namespace Go.Proofs.YthodifgohdaedabDoor
open Go.RowKit

theorem printE_cases (D : List Dfn) : printE D = 0 ∧ defsC D = true ∧ (defsT D).length ≤ 8192 ∧ printT D = ⟨(defsT D).toArray⟩ ∨ printE D = 1 ∨ printE D = 2 := by
  unfold printE printT
  by_cases h : defsC D = true
  · by_cases h2 : (defsT D).length ≤ 8192
    · simp [h, h2]
    · simp [h, h2]
  · simp [h]

set_option maxHeartbeats 6400000 in
set_option maxRecDepth 100000 in
theorem blockApart_walk {w : World} (a0 : Option Addr) (len0 cap0 : Nat) (ds0 : List Dfn) (w0 : ds0.length = len0 ∧ HasDefs w a0 cap0 ds0) (a1 : Option Addr) (len1 cap1 : Nat) (ds1 : List Dfn) (w1 : ds1.length = len1 ∧ HasDefs w a1 cap1 ds1) (key : ByteArray) (wk : key.size ≤ maxLen) (hm : MaxC w) :
    Calls Tryd.prog 7 #[.slice a0 len0 cap0, .slice a1 len1 cap1, .string key] w (BoolW true w) := by
  obtain ⟨rfl, h0⟩ := w0
  obtain ⟨rfl, h1⟩ := w1
  have HF0 := Lib.hid (few_any a0 cap0 ds0 w h0)
  have HF1 := Lib.hid (fun W (h : Below w.heap.size w W) => few_any a1 cap1 ds1 W (h1.call h))
  clear h0 h1
  generalize fewD ds0 = D at *
  generalize fewD ds1 = M at *
  have HM := Lib.hid hm
  clear hm
  go_enter Tryd.func7, Tryd.ntmps7
  go_upto_region 2 with (first
    | (go_at_call 12; (with_reducible refine HF0.out.mono ?_); rintro e w2 ⟨a, c, rfl, hD, hb2⟩)
    | (go_at_call 12; (with_reducible refine (HF1.out _ hb2).mono ?_); rintro e w3 ⟨a', c', rfl, hM, hb3⟩))
  have hD3 := hD.call hb3
  have FD := Lib.hid (fun W (h : Below w3.heap.size w3 W) => hD3.call h)
  have FM := Lib.hid (fun W (h : Below w3.heap.size w3 W) => hM.call h)
  have HB3 := Lib.hid (bthen hb2 hb3)
  have HP := Lib.hid (bPrint_any a c D w3 hD3)
  have HQ := Lib.hid (fun W (h : Below w3.heap.size w3 W) => bPrint_any a' c' M W (hM.call h))
  have hcD : D.length ≤ c ∧ c ≤ maxLen := ⟨hD3.1, hD3.2.1⟩
  obtain ⟨hc1, hc2⟩ := hcD
  unfold maxLen at hc2
  clear hD hD3 hM hb2 hb3 HF0 HF1
  go_upto_region 4 with (first
    | (go_at_call 13; (with_reducible refine HP.out.mono ?_); rintro e w4 ⟨rfl, hb4⟩)
    | (go_at_call 13; (with_reducible refine (HQ.out _ hb4).mono ?_); rintro e w5 ⟨rfl, hb5⟩))
  have HB5 := Lib.hid (bthen hb4 hb5)
  clear hb4 hb5 HP HQ
  have HPD := Lib.hid (printE_cases D)
  have HPM := Lib.hid (printE_cases M)
  have HFIN := Lib.hid (fun W (h : Below w3.heap.size w3 W) => bthen HB3.out h)
  generalize printT D = T at *
  generalize printT M = U at *
  generalize printE D = PE at *
  generalize printE M = PF at *
  rcases HPD.out with ⟨rfl, hCD, hLD, hTD⟩ | rfl | rfl
  case inr.inl =>
    go_wp2_with (go_at_call 10; (with_reducible refine (alive_any _).mono ?_); rintro e w6 ⟨rfl, hb6⟩)
    go_ret
    exact ⟨rfl, HFIN.out _ (bthen HB5.out hb6)⟩
  case inr.inr =>
    go_wp2_with (go_at_call 10; (with_reducible refine (alive_any _).mono ?_); rintro e w6 ⟨rfl, hb6⟩)
    go_ret
    exact ⟨rfl, HFIN.out _ (bthen HB5.out hb6)⟩
  rcases HPM.out with ⟨rfl, hCM, hLM, hTM⟩ | rfl | rfl
  case inr.inl =>
    clear hCD hLD hTD
    go_wp2_with (go_at_call 10; (with_reducible refine (alive_any _).mono ?_); rintro e w6 ⟨rfl, hb6⟩)
    go_ret
    exact ⟨rfl, HFIN.out _ (bthen HB5.out hb6)⟩
  case inr.inr =>
    clear hCD hLD hTD
    go_wp2_with (go_at_call 10; (with_reducible refine (alive_any _).mono ?_); rintro e w6 ⟨rfl, hb6⟩)
    go_ret
    exact ⟨rfl, HFIN.out _ (bthen HB5.out hb6)⟩
  have hTd : T.data.toList = defsT D := by rw [hTD]
  have hTs : T.size = (defsT D).length := by rw [← hTd, lenB]
  have hpp := parse_print hCD hLD
  have HX := Lib.hid (fun W (h : Below w3.heap.size w3 W) => show Calls Tryd.prog 8 #[.string T] W fun e w' => ∃ a c, e = .returned (.tuple #[.slice a D.length c, .int .i64 0, .int .i64 0]) ∧ HasDefs w' a c D ∧ Below W.heap.size W w' from by
    have := parse_any T W (HM.out.call (HFIN.out _ h)) (by unfold maxLen; omega)
    rw [hTd, hpp] at this
    exact this)
  have hLE : (T.toList == U.toList) = likeDs D M := by
    rw [strEq]
    by_cases e : D = M
    · rw [(likeDs_iff D M).2 e]
      simp [hTD, hTM, e]
    · have h1 : likeDs D M = false := by
        cases h : likeDs D M with
        | false => rfl
        | true => exact absurd ((likeDs_iff D M).1 h) e
      rw [h1]
      have h2 : T ≠ U := fun h => e (print_inj hCD hLD hCM hLM (by
        rw [← hTd, h, hTM]))
      simp [h2]
  have HL := Lib.hid (show ∀ W, Below w3.heap.size w3 W → Calls Tryd.prog 21 #[.slice a D.length c, .slice a' M.length c'] W (BoolW (T.toList == U.toList) W) from fun W h => by rw [hLE]; exact bLike_any a a' c c' D M W (FD.out _ h) (FM.out _ h))
  clear hLE hpp hTs hTd hCD hLD hTD hCM hLM hTM HPD HPM
  go_upto_region 7 with (go_at_call 8; (with_reducible refine (HX.out _ HB5.out).mono ?_); rintro e w6 ⟨a3, c3, rfl, hd3, hb6⟩)
  have FX := Lib.hid (fun W (h : Below w6.heap.size w6 W) => hd3.call h)
  have HB6 := Lib.hid (bthen HB5.out hb6)
  clear hb6 hd3 HX
  have eT : ((T.toList == U.toList) != (T.toList == U.toList)) = false := by simp
  go_upto_region 9 with (first
    | (go_at_call 21; (with_reducible refine (HL.out _ HB6.out).mono ?_); rintro e w7 ⟨rfl, hb7⟩)
    | (go_at_call 10; (with_reducible refine (alive_any _).mono ?_); rintro e w8 ⟨rfl, hb8⟩))
  have HB8 := Lib.hid (bthen hb7 hb8)
  clear hb7 hb8 HL eT HB5
  go_wp2_with fail
  go_loopg [71, 14, 15, 16, 17, 18, 19] D.length (fun gg iv _ _ _ _ _ _ wr => ∃ (k : Nat), k + gg = D.length ∧ iv = .int .i64 (k : Int) ∧ Below w6.heap.size w6 wr)
  case atStart => exact ⟨0, by omega, rfl, HB8.out⟩
  case round =>
    obtain ⟨k, hkg, rfl, hb⟩ := hrel
    cases gk with
    | zero =>
      obtain rfl : k = D.length := by omega
      clear hkg
      have HB := Lib.hid (HFIN.out _ (bthen HB6.out hb))
      clear hb
      go_wp2_with fail
      go_ret
      exact ⟨rfl, HB.out⟩
    | succ gg =>
      have hkl : k < D.length := by omega
      obtain ⟨b, off, rfl⟩ : ∃ b off, a = some ⟨b, off, none⟩ := by
        rcases (FD.out _ (bthen HB6.out hb)).place with h | h
        · rw [h] at hkl; simp at hkl
        · exact h
      obtain ⟨b3, off3, rfl⟩ : ∃ b off, a3 = some ⟨b, off, none⟩ := by
        rcases (FX.out _ hb).place with h | h
        · rw [h] at hkl; simp at hkl
        · exact h
      obtain ⟨W0, rfl⟩ : ∃ W0, W0 = wr := ⟨_, rfl⟩
      obtain ⟨q, hq, ⟨c0, c1, c2⟩, hqo⟩ := (FD.out _ (bthen HB6.out hb)).at k hkl
      have hx := Blk.new W0 44 (dCells q)
      have hbx := (Below.refl W0.heap.size W0).alloc (Nat.le_refl _) (.cells (dCells q) 44)
      have hbb := bthen hb hbx
      have hqo2 := hqo.call hbx
      have hget := bGet_any q key _ hqo2
      rw [hq] at hget
      have HKT : Hid (∃ K, D[k] = K) := Lib.hid ⟨_, rfl⟩
      obtain ⟨K, hK⟩ := HKT.out
      rw [hK] at hget
      have FXA := Lib.hid (show ∀ W, Below w6.heap.size w6 W → ∃ q : DefAt, q.d = K ∧
        (W.cell? ⟨b3, off3 + k * 3, none⟩ = some (.string q.d.kind) ∧ W.cell? ⟨b3, off3 + k * 3 + 1, none⟩ = some (.slice q.ka q.d.keys.length q.kc) ∧ W.cell? ⟨b3, off3 + k * 3 + 2, none⟩ = some (.slice q.va q.d.vals.length q.vc)) ∧ q.ok W from fun W h => by
          rw [← hK]
          exact (FX.out _ h).at k hkl)
      unfold GetP at hget
      have HGT : Hid (∃ G, getT K key = G) := Lib.hid ⟨_, rfl⟩
      have HGE : Hid (∃ G, getE K key = G) := Lib.hid ⟨_, rfl⟩
      obtain ⟨G, hG⟩ := HGT.out
      obtain ⟨E, hE⟩ := HGE.out
      rw [hG, hE] at hget
      have HGX := Lib.hid (And.intro hG hE)
      have hGG : (G.toList == G.toList) = true := by simp
      clear HGT HGE hG hE HKT hK
      obtain ⟨d, ka, kc, va, vc⟩ := q
      simp only at c0 c1 c2 hget
      have HGET := Lib.hid hget
      have HX := Lib.hid (show Blk (W0.alloc (.cells (dCells ⟨d, ka, kc, va, vc⟩) 44)) W0.heap.size 44 #[.string d.kind, .slice ka d.keys.length kc, .slice va d.vals.length vc] from hx)
      have HBB := Lib.hid hbb
      clear hx hbx hbb hqo2 hqo hq hget hb
      go_upto_region 12 with fail
      clear c0 c1 c2
      have HX2 := Lib.hid HX.out.cells3
      obtain ⟨x0, x1, x2⟩ := HX2.out
      go_upto_region 13 with (go_at_call 22; (with_reducible refine HGET.out.mono ?_); rintro e w9 ⟨rfl, hb9⟩)
      have HB9 := Lib.hid (bthen HBB.out hb9)
      clear hb9 HX HX2 HGET HBB x0 x1 x2
      obtain ⟨q, hq, ⟨c0, c1, c2⟩, hqo⟩ := FXA.out _ HB9.out
      have hget := bGet_any q key _ hqo
      rw [hq] at hget
      unfold GetP at hget
      rw [HGX.out.1, HGX.out.2] at hget
      obtain ⟨d', ka', kc', va', vc'⟩ := q
      simp only at c0 c1 c2 hget
      have HGET := Lib.hid hget
      clear hget hqo hq FXA
      go_upto_region 14 with (go_at_call 22; (with_reducible refine HGET.out.mono ?_); rintro e w10 ⟨rfl, hb10⟩)
      have HB10 := Lib.hid (bthen HB9.out hb10)
      clear hb10 c0 c1 c2 HGET HB9
      go_wp2_with fail
      go_roundg gg
      case measure => omega
      case rel => exact ⟨k + 1, by omega, by go_num, HB10.out⟩
end Go.Proofs.YthodifgohdaedabDoor
