/- The contracts of block.appendBlock, block.Print and block.Get, and of 'alive' of the statements of layer 6. -/
import Derived.Test.YtekcmgajjbdmgabDoorBlkE
import Derived.Test.YtekcmgajjbdmgabDoorLater
namespace Go.Proofs.YtekcmgajjbdmgabDoor
open Go.RowKit
open Go.WideShapes (bytes_inj)

theorem Tryd.infoB8 : (Tryd.prog.info? 5).map (fun i => (i.zero, i.size, i.bytes)) = some (some (.int .u8 0), 1, 1) := by kernel_rfl
theorem info_parts8 {x : Option TypeInfo} (h : x.map (fun i => (i.zero, i.size, i.bytes)) = some (some (.int .u8 0), 1, 1)) : ∃ i, x = some i ∧ i.zero = some (.int .u8 0) ∧ i.size = 1 ∧ i.bytes = 1 := by
  cases x with
  | none => cases h
  | some i => simp at h; exact ⟨i, rfl, h.1, h.2.1, h.2.2⟩

def OwnP (base : Nat) (l : List UInt8) (w : World) (e : Ending) (w' : World) : Prop := ∃ v, e = .returned v ∧ OwnB 5 w' base v l ∧ Below base w w' ∧ base ≤ w'.heap.size
theorem headT_bytes (k : ByteArray) : ((⟨#[100, 101, 102, 105, 110, 101, 32]⟩ ++ k) ++ ⟨#[32, 123, 10]⟩ : ByteArray).data.toList = headT k.data.toList := by
  simp [headT, ByteArray.data_append]
theorem headT_size (k : ByteArray) : ((⟨#[100, 101, 102, 105, 110, 101, 32]⟩ ++ k) ++ ⟨#[32, 123, 10]⟩ : ByteArray).size = k.size + 10 := by
  simp only [ByteArray.size_append]
  show 7 + k.size + 3 = _
  omega
theorem lineD_bytes (k v : ByteArray) : (((⟨#[9]⟩ ++ k) ++ ⟨#[9]⟩ ++ v) ++ ⟨#[10]⟩ : ByteArray).data.toList = lineD k.data.toList v.data.toList := by
  simp [lineD, ByteArray.data_append]
theorem lineD_size (k v : ByteArray) : (((⟨#[9]⟩ ++ k) ++ ⟨#[9]⟩ ++ v) ++ ⟨#[10]⟩ : ByteArray).size = k.size + v.size + 3 := by
  simp only [ByteArray.size_append]
  show 1 + k.size + 1 + v.size + 1 = _
  omega

set_option maxHeartbeats 3200000 in
set_option maxRecDepth 100000 in
theorem appendBlock_any (v : Value) (l : List UInt8) (q : DefAt) (base : Nat) (w : World) (hown : OwnB 5 w base v l) (hbase : base ≤ w.heap.size) (hl : l.length ≤ 10000000) (w0 : World) (hq : q.ok w0) (hw0 : Below w0.heap.size w0 w) (hz0' : w0.heap.size ≤ base) (hd : defC q.d = true) :
    Calls Tryd.prog 53 #[v, .agg (dCells q)] w (OwnP base (l ++ defT q.d) w) := by
  obtain ⟨i0, hi, hz0, hz1, hz2⟩ := info_parts8 Tryd.infoB8
  obtain ⟨d, ka, kc, va, vc⟩ := q
  obtain ⟨hk, hv, _⟩ := hq
  simp only at hk hv hd ⊢
  obtain ⟨g1, g2, g3, g4⟩ := (defC_iff d).1 hd
  have hks := bwC_size g1
  obtain ⟨s1, s2⟩ := okD_sizes g3 g4
  have hkl := keysT_len
  have hhs := headT_size d.kind
  have hhb := headT_bytes d.kind
  have hb1 := (Below.refl base w).alloc hbase (.cells #[.string d.kind, .slice ka d.keys.length kc, .slice va d.vals.length vc] 61)
  have hbw := (Below.refl w.heap.size w).alloc (Nat.le_refl _) (.cells #[.string d.kind, .slice ka d.keys.length kc, .slice va d.vals.length vc] 61)
  have hB := Blk.new w 61 #[.string d.kind, .slice ka d.keys.length kc, .slice va d.vals.length vc]
  have hown1 := hown.alloc (.cells #[.string d.kind, .slice ka d.keys.length kc, .slice va d.vals.length vc] 61)
  have HK := Lib.hid (fun W (h : Below base w W) => hk.call (hw0.trans (h.mono hz0')))
  have HV := Lib.hid (fun W (h : Below base w W) => hv.call (hw0.trans (h.mono hz0')))
  have hbz : base ≤ (w.alloc (.cells #[.string d.kind, .slice ka d.keys.length kc, .slice va d.vals.length vc] 61)).heap.size := Nat.le_trans hbase hbw.size
  have l1 : d.keys.length ≤ kc := hk.1
  have l2 := hk.2.1
  unfold maxLen at l2
  go_enter Tryd.func53, Tryd.ntmps53
  go_upto_region 1 with fail
  generalize w.alloc (.cells #[.string d.kind, .slice ka d.keys.length kc, .slice va d.vals.length vc] 61) = wx at *
  obtain ⟨x0, x1, x2⟩ := hB.cells3
  obtain ⟨H, hH⟩ : ∃ H : ByteArray, (⟨#[100, 101, 102, 105, 110, 101, 32]⟩ ++ d.kind) ++ ⟨#[32, 123, 10]⟩ = H := ⟨_, rfl⟩
  rw [hH] at hhs hhb
  have p1 : ¬ 9223372036854775807 < 7 + d.kind.size := by omega
  have p2 : ¬ 9223372036854775807 < 7 + d.kind.size + 3 := by omega
  have hHl : l.length + H.size ≤ 100000000 := by omega
  have hlk : l.length + (headT d.kind.data.toList).length ≤ 10000100 := by rw [← hhb, lenB]; omega
  have HLK := Lib.hid hlk
  have HH := Lib.hid hH
  have HHB := Lib.hid hhb
  clear hH hhb hlk
  go_wp2_with (at_builtin; refine (wpList_appB wx rfl _ _ 81 9 rfl base 5 i0 (.int .u8 0) Tryd.underlying81 Tryd.underlying9 hi hz0 hz1 hz2 rfl v l rfl hown1 H (by rw [← HH.out]; rfl) hHl hbz ?_))
  intro v1 w1 hown2 hg1
  have hb2 := hown1.grown hb1 hbz hg1
  have hz2' := Nat.le_trans hbz hg1.size
  have hB2 := hB.pushB hown1 (by decide) hg1
  rw [HHB.out] at hown2
  have HEQ := Lib.hid g3
  have hJD : l ++ headT d.kind.data.toList ++ keysT d.keys d.vals ++ [125, 10] = l ++ defT d := by simp [defT]
  have HJD := Lib.hid hJD
  have HTK := Lib.hid (keysT_take d.keys d.vals)
  have hkT : ∀ k, k ≤ d.keys.length → (keysT (d.keys.take k) (d.vals.take k)).length ≤ 64 * 278 := fun k hk => by
    have := keysT_len (d.keys.take k) (d.vals.take k) (fun x hx => s1 x (List.mem_of_mem_take hx)) (fun x hx => s2 x (List.mem_of_mem_take hx))
    have h2 : (d.keys.take k).length ≤ 64 := by rw [List.length_take]; omega
    have : (d.keys.take k).length * 278 ≤ 64 * 278 := Nat.mul_le_mul_right _ h2
    omega
  have HKT := Lib.hid hkT
  have HS1 := Lib.hid (fun (i : Nat) (h : i < d.keys.length) => s1 _ (List.getElem_mem h))
  have HS2 := Lib.hid (fun (i : Nat) (h : i < d.vals.length) => s2 _ (List.getElem_mem h))
  have hK0 : l ++ headT d.kind.data.toList ++ keysT (d.keys.take 0) (d.vals.take 0) = l ++ headT d.kind.data.toList := by simp [keysT]
  rw [← hK0] at hown2
  have HB2 := Lib.hid hB2
  have hl3 : d.vals.length ≤ vc := hv.1
  have hl4 := hv.2.1
  unfold maxLen at hl4
  clear hJD hkT hB2 hK0 hown hown1 hb1 hbw hB hg1 hhs hHl HH p1 p2 x0 x1 x2 hks hkl s1 s2 g1 g3 g4 hd hbz hk hv hw0
  obtain ⟨x0, x1, x2⟩ := HB2.out.cells3
  go_wp2_with fail
  generalize headT d.kind.data.toList = HT at *
  clear x0 x1 x2
  go_loopg [0, 16, 5, 6] d.keys.length (fun gg u iv _ _ wr => ∃ (k : Nat) (u' : Value), u' = u ∧ k + gg = d.keys.length ∧ iv = .int .i64 (k : Int) ∧ OwnB 5 wr base u' (l ++ HT ++ keysT (d.keys.take k) (d.vals.take k)) ∧ Blk wr w.heap.size 61 #[.string d.kind, .slice ka d.keys.length kc, .slice va d.vals.length vc] ∧ Below base w wr ∧ base ≤ wr.heap.size)
  case atStart => exact ⟨0, _, rfl, by omega, rfl, hown2, HB2.out, hb2, hz2'⟩
  case round =>
    clear hown2 hb2 hz2'
    obtain ⟨k, u', rfl, hkg, rfl, hown, hblk, hb, hz⟩ := hrel
    have hKL := HKT.out k (by omega)
    have HOW := Lib.hid hown
    have HBK := Lib.hid hblk
    have HB := Lib.hid hb
    have HZ := Lib.hid hz
    clear hown hblk hb hz HB2
    cases gk with
    | zero =>
      obtain rfl : k = d.keys.length := by omega
      have hown := HOW.out
      have hlv : d.vals.take d.keys.length = d.vals := List.take_of_length_le (by rw [HEQ.out]; exact Nat.le_refl _)
      rw [List.take_of_length_le (Nat.le_refl _), hlv] at hown
      rw [List.take_of_length_le (Nat.le_refl _), hlv] at hKL
      have hlen : (l ++ HT ++ keysT d.keys d.vals).length ≤ 20000000 := by simp only [List.length_append]; have := HLK.out; omega
      have hlen2 : (l ++ HT ++ keysT d.keys d.vals).length + (⟨#[125, 10]⟩ : ByteArray).size ≤ 100000000 := by show _ + 2 ≤ _; omega
      have HO2 := Lib.hid hown
      clear hown hlv hlen hkg
      have hzz := HZ.out
      generalize l ++ HT ++ keysT d.keys d.vals = Z at *
      go_wp2_with (at_builtin; refine (wpList_appB wr rfl _ _ 81 9 rfl base 5 i0 (.int .u8 0) Tryd.underlying81 Tryd.underlying9 hi hz0 hz1 hz2 rfl _ Z rfl HO2.out ⟨#[125, 10]⟩ rfl hlen2 hzz ?_))
      intro v3 w3 hown3 hg3
      have hb3 := HO2.out.grown HB.out hzz hg3
      have hz3 := Nat.le_trans hzz hg3.size
      have HO3 := Lib.hid hown3
      have HB3 := Lib.hid hb3
      have HZ3 := Lib.hid hz3
      clear hown3 hb3 hz3 hg3 hzz
      go_wp2_with fail
      go_ret
      exact ⟨v3, rfl, by rw [← HJD.out]; exact HO3.out, HB3.out, HZ3.out⟩
    | succ gg =>
      have hkl : k < d.keys.length := by omega
      have hkv : k < d.vals.length := by have := HEQ.out; omega
      obtain ⟨b1, o1, rfl⟩ : ∃ b1 o1, ka = some ⟨b1, o1, none⟩ := by
        rcases (HK.out _ HB.out).2.2.2 with h | ⟨b1, o1, h, _⟩
        · rw [h] at hkl; simp at hkl
        · exact ⟨b1, o1, h⟩
      obtain ⟨b2, o2, rfl⟩ : ∃ b2 o2, va = some ⟨b2, o2, none⟩ := by
        rcases (HV.out _ HB.out).2.2.2 with h | ⟨b2, o2, h, _⟩
        · rw [h] at hkv; simp at hkv
        · exact ⟨b2, o2, h⟩
      have e1 := (HK.out _ HB.out).at k hkl
      have e2 := (HV.out _ HB.out).at k hkv
      have m1 := HS1.out k hkl
      have m2 := HS2.out k hkv
      have ht := HTK.out k hkl hkv
      obtain ⟨X, hX⟩ : ∃ X, d.keys[k] = X := ⟨_, rfl⟩
      obtain ⟨Y, hY⟩ : ∃ Y, d.vals[k] = Y := ⟨_, rfl⟩
      rw [hX] at e1 m1 ht
      rw [hY] at e2 m2 ht
      have hls := lineD_size X Y
      have hlb := lineD_bytes X Y
      obtain ⟨x0, x1, x2⟩ := HBK.out.cells3
      have hlen : (l ++ HT ++ keysT (d.keys.take k) (d.vals.take k)).length ≤ 20000000 := by simp only [List.length_append]; have := HLK.out; omega
      have hJ : l ++ HT ++ keysT (d.keys.take (k + 1)) (d.vals.take (k + 1)) = (l ++ HT ++ keysT (d.keys.take k) (d.vals.take k)) ++ lineD X.data.toList Y.data.toList := by rw [ht]; simp
      have HJ := Lib.hid hJ
      clear hX hY ht hJ hKL
      obtain ⟨Z, hZ⟩ : ∃ Z, l ++ HT ++ keysT (d.keys.take k) (d.vals.take k) = Z := ⟨_, rfl⟩
      have hown := HOW.out
      rw [hZ] at hown hlen HJ
      clear hZ HOW
      obtain ⟨N, hN⟩ : ∃ N : ByteArray, ((⟨#[9]⟩ ++ X) ++ ⟨#[9]⟩ ++ Y) ++ ⟨#[10]⟩ = N := ⟨_, rfl⟩
      rw [hN] at hls hlb
      have hNl : Z.length + N.size ≤ 100000000 := by omega
      have HN := Lib.hid hN
      have p1 : ¬ 9223372036854775807 < 1 + X.size := by omega
      have p2 : ¬ 9223372036854775807 < 1 + X.size + 1 := by omega
      have p3 : ¬ 9223372036854775807 < 1 + X.size + 1 + Y.size := by omega
      have p4 : ¬ 9223372036854775807 < 1 + X.size + 1 + Y.size + 1 := by omega
      have hzz := HZ.out
      have HLB := Lib.hid hlb
      clear hN hls hlb
      go_wp2_with (at_builtin; refine (wpList_appB wr rfl _ _ 81 9 rfl base 5 i0 (.int .u8 0) Tryd.underlying81 Tryd.underlying9 hi hz0 hz1 hz2 rfl _ Z rfl hown N (by rw [← HN.out]; rfl) hNl hzz ?_))
      intro v3 w3 hown3 hg3
      have hb3 := hown.grown HB.out hzz hg3
      have hz3 := Nat.le_trans hzz hg3.size
      have hk3 := HBK.out.pushB hown (by decide) hg3
      rw [HLB.out] at hown3
      have HO3 := Lib.hid hown3
      have HB3 := Lib.hid hb3
      have HZ3 := Lib.hid hz3
      have HK3 := Lib.hid hk3
      clear hown3 hb3 hz3 hg3 hk3 hzz hown p1 p2 p3 p4 e1 e2 x0 x1 x2
      go_wp2_with fail
      go_roundg gg
      case measure => omega
      case rel => exact ⟨k + 1, _, rfl, by omega, by go_num, by rw [HJ.out]; exact HO3.out, HK3.out, HB3.out, HZ3.out⟩

theorem own_len {T : TypeId} {w : World} {base : Nat} {v : Value} {l : List UInt8} (h : OwnB T w base v l) : ∃ a c, v = .slice a l.length c ∧ l.length ≤ c := by
  rcases h.2 with ⟨rfl, h0⟩ | ⟨g, cap, cur, rfl, _, _, hn, _⟩
  · rw [h0]; exact ⟨none, 0, rfl, Nat.le_refl _⟩
  · exact ⟨_, _, rfl, hn⟩
def printT (ds : List Dfn) : ByteArray := if defsC ds = true ∧ (defsT ds).length ≤ 8192 then ⟨(defsT ds).toArray⟩ else ⟨#[]⟩
def printE (ds : List Dfn) : Int := if defsC ds = true then (if (defsT ds).length ≤ 8192 then 0 else 2) else 1
def PrintP (ds : List Dfn) (w : World) (e : Ending) (w' : World) : Prop := e = .returned (.tuple #[.string (printT ds), .int .i64 (printE ds)]) ∧ Below w.heap.size w w'
theorem defsC_iff (ds : List Dfn) : defsC ds = true ↔ ds.length ≤ 64 ∧ ∀ d ∈ ds, defC d = true := by simp [defsC]

set_option maxHeartbeats 3200000 in
set_option maxRecDepth 100000 in
theorem bPrint_any (a : Option Addr) (c : Nat) (ds : List Dfn) (w : World) (h : HasDefs w a c ds) : Calls Tryd.prog 29 #[.slice a ds.length c] w (PrintP ds w) := by
  have hr := bRight_any a c ds w h
  have h1 := h.1
  have h2 := h.2.1
  unfold maxLen at h2
  cases hc : defsC ds with
  | false =>
    have e1 : printT ds = ⟨#[]⟩ := by simp [printT, hc]
    have e2 : printE ds = 1 := by simp [printE, hc]
    unfold PrintP
    rw [e1, e2]
    rw [hc] at hr
    have HR := Lib.hid hr
    clear hr hc e1 e2 h
    go_enter Tryd.func29, Tryd.ntmps29
    go_wp2_with (go_at_call 52; refine HR.out.mono ?_; rintro e w2 ⟨rfl, hb2⟩)
    go_ret2
    exact ⟨rfl, hb2⟩
  | true =>
  rw [hc] at hr
  obtain ⟨h64, hall⟩ := (defsC_iff ds).1 hc
  have hlen := defsT_len ds hall
  have hlt : ∀ k, (defsT (ds.take k)).length ≤ 64 * 20000 := fun k => by
    have := defsT_len (ds.take k) (fun d hd => hall d (List.mem_of_mem_take hd))
    have h3 : (ds.take k).length ≤ 64 := by rw [List.length_take]; omega
    have : (ds.take k).length * 20000 ≤ 64 * 20000 := Nat.mul_le_mul_right _ h3
    omega
  have e1 : (defsT ds).length ≤ 8192 → printT ds = ⟨(defsT ds).toArray⟩ ∧ printE ds = 0 := fun h => by simp [printT, printE, hc, h]
  have e2 : ¬ (defsT ds).length ≤ 8192 → printT ds = ⟨#[]⟩ ∧ printE ds = 2 := fun h => by simp [printT, printE, hc, h]
  have E1 := Lib.hid e1
  have E2 := Lib.hid e2
  have HA := Lib.hid hall
  have HLT := Lib.hid hlt
  have HR := Lib.hid hr
  have HD := Lib.hid h
  unfold PrintP
  generalize printT ds = PT at *
  generalize printE ds = PE at *
  clear hr hc h hall hlen hlt e1 e2
  go_enter Tryd.func29, Tryd.ntmps29
  go_upto_region 4 with (go_at_call 52; refine HR.out.mono ?_; rintro e w2 ⟨rfl, hb2⟩)
  have HD2 := Lib.hid (HD.out.call hb2)
  have HB2 := Lib.hid hb2
  clear hb2 HD HR
  go_wp2_with fail
  go_loopg [4, 12, 6] ds.length (fun gg u iv _ wr => ∃ (k : Nat) (u' : Value), u' = u ∧ k + gg = ds.length ∧ iv = .int .i64 (k : Int) ∧ OwnB 5 wr w2.heap.size u' (defsT (ds.take k)) ∧ Below w2.heap.size w2 wr)
  case atStart => exact ⟨0, _, rfl, by omega, rfl, World.ownsRow_nil _ _ _ _, Below.refl _ _⟩
  case round =>
    obtain ⟨k, u', rfl, hkg, rfl, hown, hb⟩ := hrel
    have hlk := HLT.out k
    cases gk with
    | zero =>
      obtain rfl : k = ds.length := by omega
      rw [List.take_of_length_le (Nat.le_refl _)] at hown hlk
      have hconv := hown.str (P := Tryd.prog) (src := 81) (dst := 9) Tryd.underlying81 Tryd.underlying5 Tryd.underlying9
      obtain ⟨av, cv, hv, hlen⟩ := own_len hown
      have HB := Lib.hid hb
      by_cases h8 : (defsT ds).length ≤ 8192
      · obtain ⟨rfl, rfl⟩ := E1.out h8
        rw [hv] at hconv ⊢
        clear hv hkg hown hb hlk
        obtain ⟨Z, hZ⟩ : ∃ Z, defsT ds = Z := ⟨_, rfl⟩
        rw [hZ] at h8 hconv hlen ⊢
        have HZ := Lib.hid hZ
        clear hZ
        go_wp2_with fail
        go_ret2
        exact ⟨by rw [HZ.out]; rfl, bthen HB2.out HB.out⟩
      · obtain ⟨rfl, rfl⟩ := E2.out h8
        rw [hv]
        clear hv hkg hown hb hconv
        generalize defsT ds = Z at *
        go_wp2_with fail
        go_ret2
        exact ⟨rfl, bthen HB2.out HB.out⟩
    | succ gg =>
      have hkl : k < ds.length := by omega
      obtain ⟨b, off, rfl⟩ : ∃ b off, a = some ⟨b, off, none⟩ := by
        rcases HD2.out.place with h | h
        · rw [h] at hkl; simp at hkl
        · exact h
      obtain ⟨q, hq, ⟨c0, c1, c2⟩, hqo⟩ := (HD2.out.call hb).at k hkl
      obtain ⟨q', hq', ⟨c0', c1', c2'⟩, hqo'⟩ := HD2.out.at k hkl
      have hqq : q = q' := by
        have g0 := cellL hb c0'
        have g1 := cellL hb c1'
        have g2 := cellL hb c2'
        rw [c1] at g1
        rw [c2] at g2
        obtain ⟨d, ka, kc, va, vc⟩ := q
        obtain ⟨d', ka', kc', va', vc'⟩ := q'
        simp only at hq hq' g1 g2
        simp only [Option.some.injEq, Value.slice.injEq] at g1 g2
        rw [hq, hq', g1.1, g1.2.2, g2.1, g2.2.2]
      subst hqq
      have hx := Blk.new wr 61 (dCells q)
      have hbx := (Below.refl wr.heap.size wr).alloc (Nat.le_refl _) (.cells (dCells q) 61)
      have hbx2 := hb.alloc hb.size (.cells (dCells q) 61)
      have hown2 := hown.alloc (.cells (dCells q) 61)
      have hcall := appendBlock_any u' (defsT (ds.take k)) q w2.heap.size _ hown2 hbx2.size (by omega) w2 hqo' hbx2 (Nat.le_refl _) (by rw [hq]; exact HA.out _ (List.getElem_mem hkl))
      have hJ : defsT (ds.take (k + 1)) = defsT (ds.take k) ++ defT q.d := by rw [List.take_succ_eq_append_getElem hkl, defsT_snoc, hq]
      rw [← hJ] at hcall
      obtain ⟨d, ka, kc, va, vc⟩ := q
      have HC := Lib.hid hcall
      have HX := Lib.hid hx.cells3
      have HBX := Lib.hid hbx2
      clear hcall hx hbx hbx2 hq hq' hqo hqo' hb hown hown2 hJ c0' c1' c2' hlk
      simp only at c0 c1 c2
      go_upto_region 7 with fail
      obtain ⟨x0, x1, x2⟩ := HX.out
      go_wp2_with (go_at_call 53; refine HC.out.mono ?_; rintro e w3 ⟨v3, rfl, hown3, hb3, hz3⟩)
      go_roundg gg
      case measure => omega
      case rel => exact ⟨k + 1, v3, rfl, by omega, by go_num, hown3, HBX.out.trans hb3⟩
end Go.Proofs.YtekcmgajjbdmgabDoor
