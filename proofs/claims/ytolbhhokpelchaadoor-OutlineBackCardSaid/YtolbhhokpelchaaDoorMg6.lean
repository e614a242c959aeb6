/- The contract of outline.caught around Print's own function. -/
import Derived.Test.YtolbhhokpelchaaDoorOutQ
import Derived.Test.YtolbhhokpelchaaDoorMg5
import Derived.Test.YtolbhhokpelchaaDoorOutF
namespace Go.Proofs.YtolbhhokpelchaaDoor
open Go.RowKit

set_option maxHeartbeats 1600000 in
theorem caughtW_any (p n : Option Addr) (w : World) (A : World → Prop) (Z : Int → World → Prop)
    (h : Calls Tryd.prog 30 #[.pointer p, .pointer n] (w.alloc (.cells #[.int .i64 0] 28)) (MayP w.heap.size A Z)) :
    Calls Tryd.prog 29 #[.func (.func 30) #[] #[.pointer p, .pointer n]] w fun e w' =>
      (e = .returned (.int .i64 0) ∧ ∃ w1, A w1 ∧ w' = w1.setCell ⟨w.heap.size, 0, none⟩ (.int .i64 0)) ∨ ∃ c w1, e = .returned (.int .i64 c) ∧ Z c w1 ∧ w' = w1.setCell ⟨w.heap.size, 0, none⟩ (.int .i64 c) := by
  have hmf : ∀ (fn : Fn) (first cap : Array Value) (w : World), (Instr.makeFunc fn first cap).run Tryd.prog w = .ok (.func fn first cap) w := fun _ _ _ _ => rfl
  have H := Lib.hid h
  clear h
  go_enter_defers Tryd.func29, Tryd.ntmps29
  go_wp2_with (go_at_call 30; refine H.out.mono ?_; rintro e w1 ⟨⟨rfl, hA⟩ | ⟨c, rfl, hZ⟩, hc, hz⟩)
  · refine leaves_cons (f := 51) (args := #[.pointer (some ⟨w.heap.size, 0, none⟩)]) (by simp) (by simp [go_sem]) ?_
    refine (catch_idle ⟨w.heap.size, 0, none⟩ _).mono ?_
    rintro e u' w'' ⟨rfl, rfl, rfl⟩
    have hr : (w1.setCell ⟨w.heap.size, 0, none⟩ (.int .i64 0)).cell? ⟨w.heap.size, 0, none⟩ = some (.int .i64 0) := World.cell?_setCell_same _ _ _ hc
    simp [Leaves, settle, results, Tryd.results29, go_sem, hr]
    exact .inl ⟨w1, hA, rfl⟩
  · refine leaves_cons (f := 51) (args := #[.pointer (some ⟨w.heap.size, 0, none⟩)]) (by simp) (by simp [go_sem]) ?_
    refine (catch_panicking ⟨w.heap.size, 0, none⟩ 0 c w1 hc hz).mono ?_
    rintro e u' w'' ⟨rfl, rfl, rfl⟩
    have hr : (w1.setCell ⟨w.heap.size, 0, none⟩ (.int .i64 c)).cell? ⟨w.heap.size, 0, none⟩ = some (.int .i64 c) := World.cell?_setCell_same _ _ _ hc
    simp [Leaves, settle, results, Tryd.results29, go_sem, hr]
    exact .inr ⟨w1, hZ, rfl⟩
end Go.Proofs.YtolbhhokpelchaaDoor
/- The contract of outline.Print. -/
namespace Go.Proofs.YtolbhhokpelchaaDoor
open Go.RowKit

/-- which error a node's text has, and the text -/
def printE (n : Nd) : Int := if nodeC n = false ∨ n.items.length = 0 then 1 else if (n.linesT 0).length ≤ 8192 then 0 else 2
def printS (n : Nd) : ByteArray := if nodeC n = false ∨ n.items.length = 0 then ⟨#[]⟩ else if (n.linesT 0).length ≤ 8192 then bytesA (n.linesT 0) else ⟨#[]⟩
theorem below_setN {B : Nat} {w0 w : World} {g i : Nat} (h : Below B w0 w) (hg : B ≤ g) (v : Value) : Below B w0 (w.setCell ⟨g, i, none⟩ v) :=
  ⟨h.os, h.tape, h.output, by simpa [World.setCell] using h.size, fun k hk => (Below.heap_setCell w ⟨g, i, none⟩ v k (by show k ≠ g; omega)).trans (h.block k hk)⟩
def PrintP (n : Nd) (w : World) (e : Ending) (w' : World) : Prop := e = .returned (.tuple #[.string (printS n), .int .i64 (printE n)]) ∧ Below w.heap.size w w'

set_option maxHeartbeats 3200000 in
set_option maxRecDepth 100000 in
theorem print1_any {w0 : World} {q : NdAt} (h : q.ok w0) (gw g1 ge B : Nat) (w : World) (hr : nodeC q.n = true) (hw : Below w0.heap.size w0 w) (hgw : w0.heap.size ≤ gw) (hB0 : w0.heap.size ≤ B) (hB : B ≤ w.heap.size) (ht : TxtAt w gw B []) (hg : Blk w g1 25 (nCells q)) (he : Blk w ge 28 #[.int .i64 0]) (hgb : ge < B) :
    Calls Tryd.prog 30 #[.pointer (some ⟨gw, 0, none⟩), .pointer (some ⟨g1, 0, none⟩)] w
      (MayP ge (fun w' => FrW gw B w w' ∧ TxtAt w' gw B (q.n.linesT 0) ∧ (q.n.linesT 0).length ≤ 8192) (fun c w' => c = 2 ∧ FrW gw B w w' ∧ 8192 < (q.n.linesT 0).length)) := by
  have hne : ge ≠ gw := by
    obtain ⟨v, h1, _⟩ := ht
    exact blkNe he h1 (by decide)
  have hke : ∀ w', FrW gw B w w' → Blk w' ge 28 #[.int .i64 0] := fun w' hf => (hf.blk ge he.lt hne (.inl hgb)).trans he
  have hI := wItems_any h 0 8 gw B [] w hr (by omega) hw hgw hB0 hB ht (by simp)
  rw [List.nil_append] at hI
  obtain ⟨R, hR⟩ : ∃ R, (MayP ge (fun w' => FrW gw B w w' ∧ TxtAt w' gw B (q.n.linesT 0) ∧ (q.n.linesT 0).length ≤ 8192) (fun c w' => c = 2 ∧ FrW gw B w w' ∧ 8192 < (q.n.linesT 0).length)) = R := ⟨_, rfl⟩
  have HR := Lib.hid hR
  rw [hR]
  have HI := Lib.hid hI
  have HKE := Lib.hid hke
  clear hI hR hke h hr hw ht he
  obtain ⟨n, na, nc, ia, ic⟩ := q
  simp only [nCells] at *
  obtain ⟨c0, c1, c2, c3⟩ := hg.cells4
  go_enter Tryd.func30, Tryd.ntmps30
  go_wp2_with (go_at_call 31; refine HI.out.mono ?_; rintro e w2 ⟨hf, ⟨h8, rfl, ht2⟩ | ⟨h8, rfl⟩⟩)
  · go_end0
    rw [← HR.out]
    exact ⟨.inl ⟨rfl, hf, ht2, h8⟩, (HKE.out _ hf).cell 0, (HKE.out _ hf).frozen 0⟩
  · simp only [bodyPost]
    refine ⟨trivial, ?_⟩
    rw [← HR.out]
    exact ⟨.inr ⟨2, rfl, rfl, hf, h8⟩, (HKE.out _ hf).cell 0, (HKE.out _ hf).frozen 0⟩

set_option maxHeartbeats 6400000 in
set_option maxRecDepth 100000 in
theorem oPrint_any (q : NdAt) (w : World) (h : q.ok w) : Calls Tryd.prog 11 #[.agg (nCells q)] w (PrintP q.n w) := by
  have hmf : ∀ (fn : Fn) (first cap : Array Value) (w : World), (Instr.makeFunc fn first cap).run Tryd.prog w = .ok (.func fn first cap) w := fun _ _ _ _ => rfl
  have hb := below_alK (o := .cells (nCells q) 25) (Below.refl w.heap.size w)
  have hk := Blk.new w 25 (nCells q)
  have hRG := oRight_any q _ (h.call hb)
  obtain ⟨R, hR⟩ : ∃ R, PrintP q.n w = R := ⟨_, rfl⟩
  have HR := Lib.hid hR
  rw [hR]
  have H1 := Lib.hid (fun gw g1 ge B W hr hw hgw hB0 hB ht hg he hgb => print1_any h gw g1 ge B W hr hw hgw hB0 hB ht hg he hgb)
  have HRG := Lib.hid hRG
  have HB := Lib.hid hb
  clear hRG hR h hb
  obtain ⟨n, na, nc, ia, ic⟩ := q
  simp only [nCells] at *
  obtain ⟨C, hC⟩ : ∃ C, nodeC n = C := ⟨_, rfl⟩
  rw [hC] at HRG
  have HC := Lib.hid hC
  clear hC
  go_enter Tryd.func11, Tryd.ntmps11
  go_upto_region 1 with fail
  generalize w.alloc (.cells #[.int .i64 n.kind, .string n.word, .slice na n.names.length nc, .slice ia n.items.length ic] 25) = wx at *
  obtain ⟨g1, hg1⟩ : ∃ g, w.heap.size = g := ⟨_, rfl⟩
  have HG := Lib.hid hg1
  rw [hg1] at hk ⊢
  clear hg1
  obtain ⟨c0, c1, c2, c3⟩ := hk.cells4
  cases C with
  | false =>
    go_wp2_with (go_at_call 12; refine HRG.out.mono ?_; rintro e w2 ⟨rfl, hb2⟩)
    rw [← HR.out]
    exact ⟨by rw [printS, printE, if_pos (.inl HC.out), if_pos (.inl HC.out)]; rfl, bthen HB.out hb2⟩
  | true =>
  by_cases hz : n.items.length = 0
  case pos =>
    have d0 : ((n.items.length : Int) == 0) = true := by rw [hz]; rfl
    have HZ := Lib.hid hz
    clear hz
    go_wp2_with (go_at_call 12; refine HRG.out.mono ?_; rintro e w2 ⟨rfl, hb2⟩; have hk2 := hk.call hb2; obtain ⟨d0, d1, d2, d3⟩ := hk2.cells4)
    rw [← HR.out]
    exact ⟨by rw [printS, printE, if_pos (.inr HZ.out), if_pos (.inr HZ.out)]; rfl, bthen HB.out hb2⟩
  case neg =>
    have d0 : ((n.items.length : Int) == 0) = false := beq_eq_false_iff_ne.2 (by omega)
    have HZ := Lib.hid hz
    clear hz
    go_upto_region 4 with (go_at_call 12; refine HRG.out.mono ?_; rintro e w2 ⟨rfl, hb2⟩; have hk2 := hk.call hb2; obtain ⟨d0, d1, d2, d3⟩ := hk2.cells4)
    have hb3 := below_alK (o := .cells #[.slice none 0 0] 50) (Below.refl w2.heap.size w2)
    have hb4 := below_alK (o := .cells #[.int .i64 0] 28) (Below.refl (w2.alloc (.cells #[.slice none 0 0] 50)).heap.size (w2.alloc (.cells #[.slice none 0 0] 50)))
    have hkw := (Blk.new w2 50 #[.slice none 0 0]).call hb4
    have hke := Blk.new (w2.alloc (.cells #[.slice none 0 0] 50)) 28 #[.int .i64 0]
    have hkn := (hk2.call hb3).call hb4
    have hbw := bthen (bthen HB.out hb2) (bthen hb3 hb4)
    have hgl : w.heap.size ≤ w2.heap.size := (bthen HB.out hb2).size
    have hsz : (w2.alloc (.cells #[.slice none 0 0] 50)).heap.size = w2.heap.size + 1 := by simp
    have hsz2 : ((w2.alloc (.cells #[.slice none 0 0] 50)).alloc (.cells #[.int .i64 0] 28)).heap.size = w2.heap.size + 2 := by simp
    have h1 := H1.out w2.heap.size g1 (w2.alloc (.cells #[.slice none 0 0] 50)).heap.size (w2.heap.size + 2) ((w2.alloc (.cells #[.slice none 0 0] 50)).alloc (.cells #[.int .i64 0] 28)) HC.out hbw hgl (by omega) (by rw [hsz2]; exact Nat.le_refl _) ⟨_, hkw, World.ownsRow_nil _ _ _ _⟩ hkn hke (by rw [hsz]; omega)
    have hca := caughtW_any _ _ _ _ _ h1
    have hBW := Lib.hid hbw
    have HCA := Lib.hid hca
    have hb5 := Lib.hid (bthen (bthen HB.out hb2) hb3)
    have hkw3 := Blk.new w2 50 #[.slice none 0 0]
    clear hbw h1 hca hke hkn hkw hk2 d0 d1 d2 d3 hb2 H1 hb3 hb4
    have HGL := Lib.hid hgl
    have HSZ := Lib.hid hsz
    have HSZ2 := Lib.hid hsz2
    clear hgl hsz hsz2 hkw3
    by_cases h8 : (n.linesT 0).length ≤ 8192
    case pos =>
      have HPE : Hid (printE n = 0) := Lib.hid (by rw [printE, if_neg (by simp [HC.out, HZ.out]), if_pos h8])
      have HPS : Hid (printS n = bytesA (n.linesT 0)) := Lib.hid (by rw [printS, if_neg (by simp [HC.out, HZ.out]), if_pos h8])
      have HC2 : Hid (Calls Tryd.prog 29 #[.func (.func 30) #[] #[.pointer (some ⟨w2.heap.size, 0, none⟩), .pointer (some ⟨g1, 0, none⟩)]] (w2.alloc (.cells #[.slice none 0 0] 50)) fun e w' => e = .returned (.int .i64 0) ∧ Below w.heap.size w w' ∧ ∃ a c, Blk w' w2.heap.size 50 #[.slice a (n.linesT 0).length c] ∧ OwnB 5 w' (w2.heap.size + 2) (.slice a (n.linesT 0).length c) (n.linesT 0)) := Lib.hid (HCA.out.mono (by
        rintro e w' (⟨rfl, w5, ⟨hf5, ⟨v, hv, ho⟩, _⟩, rfl⟩ | ⟨c, w5, rfl, ⟨rfl, _, h9⟩, rfl⟩)
        · obtain ⟨a, c, rfl⟩ := ho.form
          have hE : (w2.alloc (.cells #[.slice none 0 0] 50)).heap.size = w2.heap.size + 1 := HSZ.out
          refine ⟨rfl, ?_, a, c, ?_, ?_⟩
          · refine below_setN (hBW.out.trans (hf5.below (b := w.heap.size) (by rw [HSZ2.out]; have := HGL.out; omega) HGL.out (by have := HGL.out; omega))) ?_ _
            rw [hE]
            have := HGL.out
            omega
          · exact hv.setO _ _ (Nat.ne_of_lt (show w2.heap.size < (w2.alloc (.cells #[.slice none 0 0] 50)).heap.size by rw [hE]; omega))
          · refine World.ownsRow.kept ho (row := some (w2.heap.size + 1)) ⟨rfl, rfl, rfl, by simp [World.setCell], fun k _ hk => ?_⟩ ?_
            · exact Below.heap_setCell w5 _ _ k (fun e => hk (by rw [e, hE]))
            · cases e : Value.ownBlock (.slice a (n.linesT 0).length c) with
              | none => simp
              | some g =>
                right
                intro e2
                have := (World.ownsRow.lt ho g e).1
                have : g = w2.heap.size + 1 := by simpa using e2
                omega
        · omega))
      clear HCA h8
      generalize hT : n.linesT 0 = T at *
      clear hT
      go_wp2_with (go_at_call 29; refine HC2.out.mono ?_; rintro e w6 ⟨rfl, hb6, a6, c6, hk6, ho6⟩; have e6 := hk6.cell 0; have hst := ho6.str Tryd.underlying48 Tryd.underlying5 Tryd.underlying9)
      rw [← HR.out]
      exact ⟨by rw [HPE.out, HPS.out]; rfl, hb6⟩
    case neg =>
      have HPE : Hid (printE n = 2) := Lib.hid (by rw [printE, if_neg (by simp [HC.out, HZ.out]), if_neg h8])
      have HPS : Hid (printS n = ⟨#[]⟩) := Lib.hid (by rw [printS, if_neg (by simp [HC.out, HZ.out]), if_neg h8])
      have HC2 : Hid (Calls Tryd.prog 29 #[.func (.func 30) #[] #[.pointer (some ⟨w2.heap.size, 0, none⟩), .pointer (some ⟨g1, 0, none⟩)]] (w2.alloc (.cells #[.slice none 0 0] 50)) fun e w' => e = .returned (.int .i64 2) ∧ Below w.heap.size w w') := Lib.hid (HCA.out.mono (by
        rintro e w' (⟨rfl, w5, ⟨_, _, h9⟩, rfl⟩ | ⟨c, w5, rfl, ⟨rfl, hf5, h9⟩, rfl⟩)
        · omega
        · have hE : (w2.alloc (.cells #[.slice none 0 0] 50)).heap.size = w2.heap.size + 1 := HSZ.out
          refine ⟨rfl, ?_⟩
          refine below_setN (hBW.out.trans (hf5.below (b := w.heap.size) (by rw [HSZ2.out]; have := HGL.out; omega) HGL.out (by have := HGL.out; omega))) ?_ _
          rw [hE]
          have := HGL.out
          omega))
      clear HCA h8
      generalize hT : n.linesT 0 = T at *
      clear hT
      go_wp2_with (go_at_call 29; refine HC2.out.mono ?_; rintro e w6 ⟨rfl, hb6⟩)
      rw [← HR.out]
      exact ⟨by rw [HPE.out, HPS.out]; rfl, hb6⟩
end Go.Proofs.YtolbhhokpelchaaDoor
