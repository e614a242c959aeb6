/- The contract of routes.Find. -/
import Derived.Test.YtolbhhokpelchabDoorFndA
namespace Go.Proofs.YtolbhhokpelchabDoor
open Go.RowKit

theorem lead_any {w0 : World} {a : Option Addr} {c : Nat} {ls : List Lab} (hls : HasLabs w0 a c ls) (hrl : rightC ls = true) {fB lB dB : Nat} (hf : w0.heap.size ≤ fB) (hlf : lB ≠ fB) (hdf : dB ≠ fB) {q : RtAt} (h : q.ok w0) : LeadAll w0 a c ls fB lB dB q := by
  induction h with
  | flat q h0 h1 => exact lead_step hls hrl hf hlf hdf q h0.1 h0.2 (.inl h1)
  | row q b off R h0 h1 h2 h3 h4 h5 ih => exact lead_step hls hrl hf hlf hdf q h0.1 h0.2 (.inr ⟨b, off, h1, h2, fun i hi => ⟨R i, h3 i hi, h4 i hi, h5 i hi, ih i hi⟩⟩)
/-- the cells of a target lie there -/
def TgtLies (w : World) (b o : Nat) (t : TgtAt) : Prop := w.cell? ⟨b, o, none⟩ = some (.string t.1) ∧ t.2.lies w b (o + 1)
/-- the slice '.slice a ts.length c' reads as the targets ts -/
def HasTgts (w : World) (a : Option Addr) (c : Nat) (ts : List TgtAt) : Prop :=
  ts.length ≤ c ∧ c ≤ maxLen ∧ (∀ t ∈ ts, t.2.ok w) ∧ (ts = [] ∨ ∃ b off, a = some ⟨b, off, none⟩ ∧ b < w.heap.size ∧ ∀ i (h : i < ts.length), TgtLies w b (off + i * 10) ts[i])
theorem HasTgts.call {w w1 : World} {a : Option Addr} {c : Nat} {ts : List TgtAt} (h : HasTgts w a c ts) (hb : Below w.heap.size w w1) : HasTgts w1 a c ts := by
  obtain ⟨h1, h2, h3, h4⟩ := h
  refine ⟨h1, h2, fun t ht => (h3 t ht).call hb, h4.imp id ?_⟩
  rintro ⟨b, off, e, hlt, hc⟩
  exact ⟨b, off, e, Nat.lt_of_lt_of_le hlt hb.size, fun i hi => ⟨cellL hb (hc i hi).1, (hc i hi).2.call hb⟩⟩
theorem OwnT.tgts {w : World} {base : Nat} {v : Value} {ts : List TgtAt} (h : OwnT w base v ts) (hok : ∀ t ∈ ts, t.2.ok w) : ∃ a c, v = .slice a ts.length c ∧ HasTgts w a c ts := by
  rcases h.2 with ⟨rfl, h0⟩ | ⟨g, cap, cur, rfl, hb, hg, hn, hm, hcs, ht⟩
  · obtain rfl : ts = [] := List.eq_nil_of_length_eq_zero h0
    exact ⟨none, 0, rfl, Nat.le_refl _, by unfold maxLen; omega, hok, .inl rfl⟩
  · have hl := tgsV_len ts
    refine ⟨some ⟨g, 0, none⟩, cap, rfl, hn, hm, hok, .inr ⟨g, 0, rfl, lt_of_block hg, fun i hi => ?_⟩⟩
    have k := fun j (hj : j < 10) => (show w.cell? ⟨g, i * 10 + j, none⟩ = _ from h.cellAt (i * 10 + j) (by omega)).trans (tgsV_get ts i hi j hj)
    rw [Nat.zero_add]
    exact ⟨k 0 (by omega), k 1 (by omega), k 2 (by omega), k 3 (by omega), k 4 (by omega), k 5 (by omega), k 6 (by omega), k 7 (by omega), k 8 (by omega), k 9 (by omega)⟩
def findC (n : Rt) (ls : List Lab) : Bool := rteC n && rightC ls
/-- what Find answers -/
def FindP (n : Rt) (ls : List Lab) (w : World) (e : Ending) (w' : World) : Prop :=
  (findC n ls = false ∧ e = .returned (.tuple #[.slice none 0 0, .int .i64 1]) ∧ Below w.heap.size w w') ∨
  (findC n ls = true ∧ ∃ a' c' ts, e = .returned (.tuple #[.slice a' ts.length c', .int .i64 0]) ∧ proj ts = n.find ls [] ∧ HasTgts w' a' c' ts ∧ Below w.heap.size w w')
set_option maxHeartbeats 6400000 in
set_option maxRecDepth 100000 in
theorem find_any (q : RtAt) (a : Option Addr) (c : Nat) (ls : List Lab) (w : World) (h : q.ok w) (hL : HasLabs w a c ls) (hcn : q.n.count ≤ 100000) :
    Calls Tryd.prog 8 #[.agg (tCells q), .slice a ls.length c] w (FindP q.n ls w) := by
  have hb1 := (Below.refl w.heap.size w).alloc (Nat.le_refl _) (.cells (tCells q) 26)
  have hz1 : (w.alloc (.cells (tCells q) 26)).heap.size = w.heap.size + 1 := by simp
  have hb := hb1.alloc (by omega) (.cells #[.slice a ls.length c] 27)
  have hB := (Blk.new w 26 (tCells q)).alloc (.cells #[.slice a ls.length c] 27)
  have hLB := Blk.new (w.alloc (.cells (tCells q) 26)) 27 #[.slice a ls.length c]
  rw [hz1] at hLB
  have hz : ((w.alloc (.cells (tCells q) 26)).alloc (.cells #[.slice a ls.length c] 27)).heap.size = w.heap.size + 2 := by simp
  have hq1 := h.call hb
  have hr := rteRight_any q _ hq1
  have hlr := fun W (hW : Below w.heap.size w W) => right_any a c ls W (hL.call hW)
  have HL := Lib.hid hL
  have HO := Lib.hid h
  have HB := Lib.hid hb
  have HZ := Lib.hid hz
  have hfc : findC q.n ls = (rteC q.n && rightC ls) := rfl
  have HLR := Lib.hid hlr
  have HFC := Lib.hid hfc
  have HD : Hid (rteC q.n = true → rightRt 4 q.n = true) := Lib.hid (fun e => e)
  obtain ⟨B, hBB⟩ : ∃ B, rteC q.n = B := ⟨_, rfl⟩
  obtain ⟨D, hDD⟩ : ∃ D, rightC ls = D := ⟨_, rfl⟩
  rw [hBB] at hr HFC HD
  rw [hDD] at HFC
  have HDD := Lib.hid hDD
  simp only [hDD] at HLR
  have HR := Lib.hid hr
  clear hr hfc hlr hb1 hz1 hb hz h hL hq1 hBB hDD
  obtain ⟨n, ma, mc, ba, bc, ua, uc, ka, kc⟩ := q
  simp only [tCells] at *
  go_enter Tryd.func8, Tryd.ntmps8
  go_upto_region 1 with fail
  generalize (w.alloc (.cells #[.string n.recv, .slice ma n.ms.length mc, .slice ba n.bys.length bc, .int .i64 n.wait, .int .i64 n.every, .int .i64 n.rep, .slice ua n.mute.length uc, .bool n.on, .slice ka n.kids.length kc] 26)).alloc (.cells #[.slice a ls.length c] 27) = w1 at *
  obtain ⟨c0, c1, c2, c3, c4, c5, c6, c7, c8⟩ := hB.cells9
  cases B with
  | false =>
    go_wp2_with (go_at_call 9; refine HR.out.mono ?_; rintro e w2 ⟨rfl, hb2⟩)
    go_ret2
    exact .inl ⟨HFC.out, rfl, bthen HB.out hb2⟩
  | true =>
    cases D with
    | false =>
      go_wp2_with (first
        | (go_at_call 9; refine HR.out.mono ?_; rintro e w2 ⟨rfl, hb2⟩; have k1 := (hLB.call hb2).cell1)
        | (go_at_call 20; refine (HLR.out _ (bthen HB.out hb2)).mono ?_; rintro e w3 ⟨rfl, hb3⟩))
      go_ret2
      exact .inl ⟨HFC.out, rfl, bthen HB.out (bthen hb2 hb3)⟩
    | true =>
      go_upto_region 3 with (first
        | (go_at_call 9; refine HR.out.mono ?_; rintro e w2 ⟨rfl, hb2⟩; have k1 := (hLB.call hb2).cell1)
        | (go_at_call 20; refine (HLR.out _ (bthen HB.out hb2)).mono ?_; rintro e w3 ⟨rfl, hb3⟩))
      have hb4 := bthen HB.out (bthen hb2 hb3)
      have hB3 := (hB.call hb2).call hb3
      have hLB3 := (hLB.call hb2).call hb3
      have hz3 : w.heap.size + 2 ≤ w3.heap.size := by have := HZ.out; have := hb2.size; have := hb3.size; omega
      clear hB hLB hb2 hb3 c0 c1 c2 c3 c4 c5 c6 c7 c8 k1 HR HLR
      have hzf : (w3.alloc (.cells #[.slice none 0 0] 31)).heap.size = w3.heap.size + 1 := by simp
      have hF := (Blk.new w3 31 #[.slice none 0 0]).alloc (.cells #[leadF w3.heap.size (w.heap.size + 1) (w3.heap.size + 1)] 50)
      have hX := Blk.new (w3.alloc (.cells #[.slice none 0 0] 31)) 50 #[leadF w3.heap.size (w.heap.size + 1) (w3.heap.size + 1)]
      rw [hzf] at hX
      have hbw := (hb4.alloc hb4.size (.cells #[.slice none 0 0] 31)).alloc (by omega) (.cells #[leadF w3.heap.size (w.heap.size + 1) (w3.heap.size + 1)] 50)
      have hB5 := (hB3.alloc (.cells #[.slice none 0 0] 31)).alloc (.cells #[leadF w3.heap.size (w.heap.size + 1) (w3.heap.size + 1)] 50)
      have hL5 := (hLB3.alloc (.cells #[.slice none 0 0] 31)).alloc (.cells #[leadF w3.heap.size (w.heap.size + 1) (w3.heap.size + 1)] 50)
      have hLW : LeadW w a c ls w3.heap.size (w.heap.size + 1) (w3.heap.size + 1) _ (.slice none 0 0) [] := ⟨hbw, hF, OwnT.nil _ _, hL5, hX⟩
      have hcall := lead_any HL.out HDD.out (fB := w3.heap.size) (lB := w.heap.size + 1) (dB := w3.heap.size + 1) (by omega) (by omega) (by omega) HO.out 4 _ ⟨#[]⟩ _ [] (HD.out (by first | trivial | rfl)) (by show 0 + 8 * 4 ≤ 1000; omega) (by simp only [List.length_nil]; omega) (fun t ht => by cases ht) hLW
      obtain ⟨c0, c1, c2, c3, c4, c5, c6, c7, c8⟩ := hB5.cells9
      have x1 := hX.cell1
      have HCL := Lib.hid hcall
      clear hF hX hbw hB5 hL5 hLW hcall hB3 hLB3 hzf
      simp only [leadF, tCells] at *
      go_upto_region 6 with fail
      generalize (w3.alloc (.cells #[.slice none 0 0] 31)).alloc (.cells #[.func (.func 21) #[] #[.pointer (some ⟨w3.heap.size, 0, none⟩), .pointer (some ⟨w.heap.size + 1, 0, none⟩), .pointer (some ⟨w3.heap.size + 1, 0, none⟩)]] 50) = w5 at *
      go_wp2_with (go_at_call 21; refine HCL.out.mono ?_; rintro e w6 ⟨v6, t6, rfl, hp6, ho6, hL6, hF6⟩; obtain ⟨a6, c6', rfl, _, _⟩ := hL6.own.slice; have y1 := hL6.found.cell1)
      go_ret2
      obtain ⟨a7, c7', e7, ht7⟩ := hL6.own.tgts (fun t ht => (ho6 t ht).call hL6.below)
      simp only [Value.slice.injEq] at e7
      obtain ⟨rfl, _, rfl⟩ := e7
      exact .inr ⟨HFC.out, _, _, t6, rfl, by rw [hp6]; simp [proj], ht7, hL6.below⟩
end Go.Proofs.YtolbhhokpelchabDoor
