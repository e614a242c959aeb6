/- The contracts of outline.Right and of the statements' own count of nodes. -/
import Derived.Test.YtolbhhokpelchaaDoorOutE
import Derived.Outline
namespace Go.Proofs.YtolbhhokpelchaaDoor
open Go.RowKit

set_option maxHeartbeats 1600000 in
set_option maxRecDepth 100000 in
theorem oRight_any (q : NdAt) (w : World) (h : q.ok w) : Calls Tryd.prog 12 #[.agg (nCells q)] w (BoolW (nodeC q.n) w) := by
  have hb := (Below.refl w.heap.size w).alloc (Nat.le_refl _) (.cells (nCells q) 25)
  have hB := Blk.new w 25 (nCells q)
  have hr := oright_any 8 q _ (Nat.le_refl _) (h.call hb)
  rw [show rightD 8 q.n = nodeC q.n from rfl] at hr
  generalize nodeC q.n = R at *
  have HB := Lib.hid hb
  have HR := Lib.hid hr
  clear hb hr h
  obtain ⟨n, na, nc, ia, ic⟩ := q
  simp only [nCells] at *
  obtain ⟨c0, c1, c2, c3⟩ := hB.cells4
  go_enter Tryd.func12, Tryd.ntmps12
  go_wp2_with (go_at_call 32; refine HR.out.mono ?_; rintro e w2 ⟨rfl, hb2⟩)
  go_ret
  exact ⟨rfl, bthen HB.out hb2⟩

mutual
/-- how many nodes there are in one -/
def Nd.count : Nd → Nat
  | .mk _ _ _ xs => 1 + countL xs
def countL : List Nd → Nat
  | [] => 0
  | x :: xs => x.count + countL xs
end
theorem Nd.count_eq (n : Nd) : n.count = 1 + countL n.items := by
  cases n; simp [Nd.count, Nd.items]
theorem countL_take (xs : List Nd) (k : Nat) (h : k < xs.length) : countL (xs.take (k + 1)) = countL (xs.take k) + xs[k].count := by
  induction xs generalizing k with
  | nil => simp at h
  | cons x xs ih =>
    cases k with
    | zero => simp [countL]
    | succ k =>
      have := ih k (by simpa using h)
      simp only [List.take_succ_cons, countL, List.getElem_cons_succ]
      omega

def ManyP (q : NdAt) (m : Nat) (w : World) (e : Ending) (w' : World) : Prop :=
  ∃ z : Nat, e = .returned (.int .i64 (z : Int)) ∧ 1 ≤ z ∧ z ≤ m + 1 ∧ (z ≤ m → z = q.n.count) ∧ Below w.heap.size w w'

set_option maxHeartbeats 6400000 in
set_option maxRecDepth 100000 in
theorem many_any {w0 : World} {q : NdAt} (h : q.ok w0) : ∀ (w : World) (m : Nat), Below w0.heap.size w0 w → m ≤ 1000 → Calls Tryd.prog 9 #[.agg (nCells q), .int .i64 (m : Int)] w (ManyP q m w) := by
  induction h with
  | flat q h0 h1 =>
    intro w m _ hm
    have hb := (Below.refl w.heap.size w).alloc (Nat.le_refl _) (.cells (nCells q) 25)
    have hB := Blk.new w 25 (nCells q)
    have hc : q.n.count = 1 := by rw [Nd.count_eq, h1]; rfl
    have hz : q.n.items.length = 0 := by rw [h1]; rfl
    have HB := Lib.hid hb
    have HC := Lib.hid hc
    have HZ := Lib.hid hz
    clear hb hc h0 h1 hz
    obtain ⟨n, na, nc, ia, ic⟩ := q
    simp only [nCells] at *
    go_enter Tryd.func9, Tryd.ntmps9
    go_upto_region 1 with fail
    generalize w.alloc (.cells #[.int .i64 n.kind, .string n.word, .slice na n.names.length nc, .slice ia n.items.length ic] 25) = wx at *
    obtain ⟨c0, c1, c2, c3⟩ := hB.cells4
    have hz := HZ.out
    go_wp2_with fail
    refine wp_loop_rounds 1 ?_
    rw [rounds_succ]
    go_wp2_with fail
    go_ret
    exact ⟨1, rfl, by omega, by omega, fun _ => HC.out.symm, HB.out⟩
  | row q b off R h0 h1 h2 h3 h4 h5 ih =>
    intro w m hw hm
    have hb := (Below.refl w.heap.size w).alloc (Nat.le_refl _) (.cells (nCells q) 25)
    have hB := Blk.new w 25 (nCells q)
    have hl := h0.2.2.2
    have H3 := Lib.hid h3
    have H4 := Lib.hid h4
    have IH := Lib.hid ih
    have HB := Lib.hid hb
    have HW := Lib.hid hw
    have hcnt := Nd.count_eq q.n
    have HCN := Lib.hid hcnt
    clear h0 h2 h3 h4 h5 ih hw hcnt
    obtain ⟨n, na, nc, ia, ic⟩ := q
    simp only [nCells] at *
    subst h1
    unfold maxLen at hl
    have lic := hl.1
    have lic2 := hl.2
    go_enter Tryd.func9, Tryd.ntmps9
    go_upto_region 1 with fail
    have HW1 := Lib.hid (HW.out.trans (hb.mono HW.out.size))
    generalize w.alloc (.cells #[.int .i64 n.kind, .string n.word, .slice na n.names.length nc, .slice (some ⟨b, off, none⟩) n.items.length ic] 25) = wx at *
    obtain ⟨c0, c1, c2, c3⟩ := hB.cells4
    clear hb
    go_wp2_with fail
    go_loopg [11, 5, 7] n.items.length (fun gg iv kv _ wr => ∃ k z : Nat, k + gg = n.items.length ∧ iv = .int .i64 k ∧ kv = .int .i64 z ∧ 1 ≤ z ∧ z ≤ m + 1 ∧ (z ≤ m → z = 1 + countL (n.items.take k)) ∧ Below wx.heap.size wx wr)
    case atStart => exact ⟨0, 1, by omega, rfl, rfl, by omega, by omega, fun _ => by simp [countL], Below.refl _ _⟩
    case round =>
      obtain ⟨k, z, hkg, rfl, rfl, hz1, hzm, hzc, hbr⟩ := hrel
      have HZ := Lib.hid hzc
      have HBR := Lib.hid hbr
      clear hzc hbr
      cases gk with
      | zero =>
        obtain rfl : k = n.items.length := by omega
        go_wp2_with fail
        go_ret
        exact ⟨z, rfl, by omega, by omega, fun h => by rw [HCN.out, HZ.out h, List.take_length], bthen HB.out HBR.out⟩
      | succ gg =>
        have hkl : k < n.items.length := by omega
        have hrn := H3.out k hkl
        have hrl := (H4.out k hkl).call (HW1.out)
        obtain ⟨e0, e1, e2, e3⟩ := hrl.call HBR.out
        have hct := countL_take n.items k hkl
        rw [← hrn] at hct
        have hih := IH.out k hkl (wr.alloc (.cells (nCells (R k)) 25)) (m - z) (HW1.out.trans ((HBR.out.mono HW1.out.size).trans (((Below.refl wr.heap.size wr).alloc (Nat.le_refl _) _).mono (Nat.le_trans HW1.out.size HBR.out.size)))) (by omega)
        have hbn := (Below.refl wr.heap.size wr).alloc (Nat.le_refl _) (.cells (nCells (R k)) 25)
        obtain ⟨f0, f1, f2, f3⟩ := (Blk.new wr 25 (nCells (R k))).cells4
        have HIH := Lib.hid hih
        have HBN := Lib.hid hbn
        have HCT := Lib.hid hct
        clear hrn hrl hct hih hbn H3 H4 IH
        generalize R k = r at *
        obtain ⟨r, ma, mc, ja, jc⟩ := r
        simp only [nCells] at *
        by_cases hzm2 : z ≤ m
        case neg =>
          go_wp2_with fail
          go_ret
          exact ⟨z, rfl, by omega, by omega, fun h => by omega, bthen HB.out (bthen HBR.out HBN.out)⟩
        case pos =>
          have hsub : ((m - z : Nat) : Int) = (m : Int) - (z : Int) := by omega
          rw [hsub] at HIH
          clear hsub
          go_wp2_with (go_at_call 9; refine HIH.out.mono ?_; rintro e w3 ⟨y, rfl, hy1, hy2, hy3, hb3⟩)
          go_roundg gg
          case measure => omega
          case rel => exact ⟨k + 1, z + y, by omega, by go_num, by go_num, by omega, by omega, fun h => by rw [HCT.out, ← hy3 (by omega)]; have := HZ.out hzm2; omega, bthen HBR.out (bthen HBN.out hb3)⟩
end Go.Proofs.YtolbhhokpelchaaDoor
