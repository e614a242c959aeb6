/- A text that grows, in a block of its own: what stays of memory beside it; (*writer).put. -/
import Derived.Test.YtolbhhokpelchaaDoorMg1
import Derived.Test.YtolbhhokpelchaaDoorOutP
import Derived.Test.YtolbhhokpelchaaDoorOwn
import Derived.Test.YtolbhhokpelchaaDoorOutD
import Derived.Deep.LoopGhost
namespace Go.Proofs.YtolbhhokpelchaaDoor
open Go.RowKit

/-- all blocks stay but the writer's own and rows of bytes of the call's own -/
structure FrW (gw B : Nat) (w w' : World) : Prop where
  os : w'.os = w.os
  tape : w'.tape = w.tape
  output : w'.output = w.output
  size : w.heap.size ≤ w'.heap.size
  blk : ∀ k, k < w.heap.size → k ≠ gw → (k < B ∨ ∀ cs fr, w.heap[k]? ≠ some (.cells cs 5 fr)) → w'.heap[k]? = w.heap[k]?
theorem FrW.refl (gw B : Nat) (w : World) : FrW gw B w w := ⟨rfl, rfl, rfl, Nat.le_refl _, fun _ _ _ _ => rfl⟩
theorem FrW.trans {gw B : Nat} {w w1 w2 : World} (h : FrW gw B w w1) (k : FrW gw B w1 w2) : FrW gw B w w2 :=
  ⟨k.os.trans h.os, k.tape.trans h.tape, k.output.trans h.output, Nat.le_trans h.size k.size, fun i hi h1 h2 => by
    have e := h.blk i hi h1 h2
    exact (k.blk i (Nat.lt_of_lt_of_le hi h.size) h1 (h2.imp id fun g cs fr => by rw [e]; exact g cs fr)).trans e⟩
theorem FrW.of {gw B : Nat} {w w1 : World} (h : Below w.heap.size w w1) : FrW gw B w w1 := ⟨h.os, h.tape, h.output, h.size, fun k hk _ _ => h.block k hk⟩
theorem FrW.alloc {gw B : Nat} {w w1 : World} (h : FrW gw B w w1) (o : Obj) : FrW gw B w (w1.alloc o) := h.trans (FrW.of ((Below.refl _ _).alloc (Nat.le_refl _) o))
theorem FrW.below {gw B b : Nat} {w w1 : World} (h : FrW gw B w w1) (hb : b ≤ w.heap.size) (h1 : b ≤ gw) (h2 : b ≤ B) : Below b w w1 := ⟨h.os, h.tape, h.output, h.size, fun k hk => h.blk k (by omega) (by omega) (.inl (by omega))⟩
theorem Blk.frw {gw B g : Nat} {w w1 : World} {t : TypeId} {cs : Array Value} (h : Blk w g t cs) (hf : FrW gw B w w1) (hne : g ≠ gw) (ht : t ≠ 5) : Blk w1 g t cs :=
  (hf.blk g h.lt hne (.inr fun cs' fr e => ht (by
    have h0 : w.heap[g]? = some (.cells cs t (0, 0)) := h
    rw [h0] at e
    cases e
    rfl))).trans h
/-- the text so far -/
def TxtAt (w : World) (gw B : Nat) (L : Bs) : Prop := ∃ v, Blk w gw 50 #[v] ∧ OwnB 5 w B v L
theorem TxtAt.call {w w1 : World} {gw B : Nat} {L : Bs} (h : TxtAt w gw B L) (hb : Below w.heap.size w w1) : TxtAt w1 gw B L := by
  obtain ⟨v, h1, h2⟩ := h
  exact ⟨v, h1.call hb, h2.call hb⟩
theorem TxtAt.alloc {w : World} {gw B : Nat} {L : Bs} (h : TxtAt w gw B L) (o : Obj) : TxtAt (w.alloc o) gw B L := h.call ((Below.refl _ _).alloc (Nat.le_refl _) _)
/-- an append to the text, and the store of what it gives -/
theorem txt_push {w w2 : World} {gw B : Nat} {v v2 : Value} {L L2 : Bs} (hk : Blk w gw 50 #[v]) (ho : OwnB 5 w B v L) (hg : w.grownBy w2 v.ownBlock) (ho2 : OwnB 5 w2 B v2 L2) :
    Blk w2 gw 50 #[v] ∧ FrW gw B w (w2.setCell ⟨gw, 0, none⟩ v2) ∧ TxtAt (w2.setCell ⟨gw, 0, none⟩ v2) gw B L2 := by
  have hrow : ∀ g, v.ownBlock = some g → ∃ cs fr, w.heap[g]? = some (.cells cs 5 fr) := by
    intro g e
    rcases ho.2 with ⟨rfl, _⟩ | ⟨g', cap, cur, rfl, _, hh, _⟩
    · cases e
    · cases e
      exact ⟨cur, _, hh⟩
  have hrow2 : ∀ g, v2.ownBlock = some g → ∃ cs fr, w2.heap[g]? = some (.cells cs 5 fr) := by
    intro g e
    rcases ho2.2 with ⟨rfl, _⟩ | ⟨g', cap, cur, rfl, _, hh, _⟩
    · cases e
    · cases e
      exact ⟨cur, _, hh⟩
  have hne : some gw ≠ v.ownBlock := fun e => by
    obtain ⟨cs, fr, hh⟩ := hrow gw e.symm
    have h0 : w.heap[gw]? = some (.cells #[v] 50 (0, 0)) := hk
    rw [h0] at hh
    have ht : (50 : Nat) = 5 := by simpa using (Obj.cells.inj (Option.some.inj hh)).2.1
    exact absurd ht (by decide)
  have hk2 : Blk w2 gw 50 #[v] := (hg.block gw hk.lt hne).trans hk
  have hz : (w2.setCell ⟨gw, 0, none⟩ v2).heap.size = w2.heap.size := by simp [World.setCell]
  have hset : ∀ k, k ≠ gw → (w2.setCell ⟨gw, 0, none⟩ v2).heap[k]? = w2.heap[k]? := fun k hk => Below.heap_setCell w2 ⟨gw, 0, none⟩ v2 k hk
  refine ⟨hk2, ⟨hg.os, hg.tape, hg.output, by rw [hz]; exact hg.size, fun k hkl h1 h2 => ?_⟩, v2, ?_, ?_⟩
  · rw [hset k h1]
    refine hg.block k hkl fun e => ?_
    rcases h2 with h2 | h2
    · have := (World.ownsRow.lt ho k e.symm).1
      omega
    · obtain ⟨cs, fr, hh⟩ := hrow k e.symm
      exact h2 cs fr hh
  · have := hk2.set 0 v2
    simpa using this
  · refine World.ownsRow.kept ho2 (row := some gw) ⟨rfl, rfl, rfl, by rw [hz]; exact Nat.le_refl _, fun k _ hk => hset k (fun e => hk (by rw [e]))⟩ ?_
    cases e : v2.ownBlock with
    | none => simp
    | some g =>
      right
      intro e2
      obtain rfl : g = gw := by simpa using e2
      obtain ⟨cs, fr, hh⟩ := hrow2 g e
      have h0 : w2.heap[g]? = some (.cells #[v] 50 (0, 0)) := hk2
      rw [h0] at hh
      have ht : (50 : Nat) = 5 := by simpa using (Obj.cells.inj (Option.some.inj hh)).2.1
      exact absurd ht (by decide)
/-- the panic of a text that is too long -/
def longP : PanicEntry := { v := .iface 28 (.int .i64 2), recovered := false }
end Go.Proofs.YtolbhhokpelchaaDoor
/- The contract of (*writer).put. -/
namespace Go.Proofs.YtolbhhokpelchaaDoor
open Go.RowKit

/-- what is written behind a text: it is, or it is too long -/
def PutP (gw B : Nat) (L : Bs) (w : World) (e : Ending) (w' : World) : Prop :=
  FrW gw B w w' ∧ ((L.length ≤ 8192 ∧ e = .returned (.tuple #[]) ∧ TxtAt w' gw B L) ∨ (8192 < L.length ∧ e = .panicked [longP]))
theorem blkNe {w : World} {g g' : Nat} {t t' : TypeId} {cs cs' : Array Value} (h : Blk w g t cs) (h' : Blk w g' t' cs') (ht : t ≠ t') : g ≠ g' := fun e => by
  subst e
  have h0 : w.heap[g]? = some (.cells cs t (0, 0)) := h
  have h1 : w.heap[g]? = some (.cells cs' t' (0, 0)) := h'
  rw [h0] at h1
  cases h1
  exact ht rfl
theorem OwnB.form {T : TypeId} {w : World} {base : Nat} {v : Value} {l : List UInt8} (h : OwnB T w base v l) : ∃ a c, v = .slice a l.length c := by
  rcases h.2 with ⟨rfl, h0⟩ | ⟨g, cap, cur, rfl, _⟩
  · exact ⟨none, 0, by rw [h0]⟩
  · exact ⟨_, _, rfl⟩
theorem catB_take_le (ss : List ByteArray) (k : Nat) : (catB (ss.take k)).length ≤ (catB ss).length := by
  have : catB ss = catB (ss.take k) ++ catB (ss.drop k) := by
    unfold catB
    rw [← List.flatMap_append, List.take_append_drop]
  rw [this, List.length_append]
  omega

set_option maxHeartbeats 3200000 in
set_option maxRecDepth 100000 in
theorem put_any (gw B gp n : Nat) (L : Bs) (ss : List ByteArray) (w : World) (ht : TxtAt w gw B L) (hp : Blk w gp 9 (ss.map Value.string).toArray) (hn : n = ss.length) (hL : L.length ≤ 10000) (hss : (catB ss).length ≤ 1000000) (hl : ss.length ≤ 10) (hB : B ≤ w.heap.size) :
    Calls Tryd.prog 52 #[.pointer (some ⟨gw, 0, none⟩), .slice (some ⟨gp, 0, none⟩) n n] w (PutP gw B (L ++ catB ss) w) := by
  subst hn
  obtain ⟨i0, hi, hz0, hz1, hz2⟩ := info_partsQ Tryd.infoQ
  have hne : gp ≠ gw := by
    obtain ⟨v, h, _⟩ := ht
    exact blkNe hp h (by decide)
  have HP := Lib.hid hp
  have HT := Lib.hid ht
  have HLE := Lib.hid (catB_take_le ss)
  have HTK := Lib.hid (catB_take ss)
  obtain ⟨R, hR⟩ : ∃ R, PutP gw B (L ++ catB ss) w = R := ⟨_, rfl⟩
  have HR := Lib.hid hR
  rw [hR]
  clear hp ht hR
  go_enter Tryd.func52, Tryd.ntmps52
  go_wp2_with fail
  go_loopg [8, 5] ss.length (fun gg i _ wr => ∃ k : Nat, k + gg = ss.length ∧ i = .int .i64 k ∧ FrW gw B w wr ∧ TxtAt wr gw B (L ++ catB (ss.take k)))
  case atStart => exact ⟨0, by omega, rfl, FrW.refl _ _ _, by simpa [catB] using HT.out⟩
  case round =>
    obtain ⟨k, hkg, rfl, hf, htx⟩ := hrel
    obtain ⟨v, hk, ho⟩ := htx
    have hle := HLE.out k
    have hln : (L ++ catB (ss.take k)).length ≤ 1010000 := by rw [List.length_append]; omega
    cases gk with
    | zero =>
      obtain rfl : k = ss.length := by omega
      rw [List.take_length] at ho hln
      obtain ⟨a, c, rfl⟩ := ho.form
      have hc := hk.cell 0
      by_cases h8 : (L ++ catB ss).length ≤ 8192
      · have d8 : decide ((8192 : Int) < ((L ++ catB ss).length : Int)) = false := decide_eq_false (by omega)
        have HH : Hid (PutP gw B (L ++ catB ss) w (.returned (.tuple #[])) wr) := Lib.hid ⟨hf, .inl ⟨h8, rfl, _, hk, ho⟩⟩
        generalize L ++ catB ss = LL at *
        clear hk ho hf h8 hle hln
        go_wp2_with fail
        go_end0
        rw [← HR.out]
        exact HH.out
      · have d8 : decide ((8192 : Int) < ((L ++ catB ss).length : Int)) = true := decide_eq_true (by omega)
        have HH : Hid (PutP gw B (L ++ catB ss) w (.panicked [longP]) wr) := Lib.hid ⟨hf, .inr ⟨by omega, rfl⟩⟩
        generalize L ++ catB ss = LL at *
        clear hk ho hf h8 hle hln
        go_wp2_with fail
        simp only [bodyPost]
        refine ⟨trivial, ?_⟩
        rw [← HR.out]
        exact HH.out
    | succ gg =>
      have hkl : k < ss.length := by omega
      have hpc : wr.cell? ⟨gp, k, none⟩ = some (.string ss[k]) := by
        rw [(HP.out.frw hf hne (by decide)).cell k]
        simp [hkl]
      have htk := HTK.out k hkl
      have hle2 := HLE.out (k + 1)
      have hs1 : ss[k].size ≤ 1000000 := by
        rw [htk, List.length_append] at hle2
        have : ss[k].data.toList.length = ss[k].size := lenB _
        omega
      have HK2 := Lib.hid (show (L ++ catB (ss.take k)) ++ ss[k].data.toList = L ++ catB (ss.take (k + 1)) by rw [htk]; simp)
      have hbs : B ≤ wr.heap.size := Nat.le_trans hB hf.size
      have hc := hk.cell 0
      generalize ss[k] = S at *
      generalize L ++ catB (ss.take k) = LL at *
      clear htk hle hle2
      go_wp2_with (at_builtin; refine (wpList_appB wr rfl _ _ 48 9 rfl B 5 i0 (.int .u8 0) Tryd.underlying48 Tryd.underlying9 hi hz0 hz1 hz2 rfl v LL rfl ho S rfl (by omega) hbs ?_))
      intro v2 w2 ho2 hg2
      obtain ⟨L2, hL2⟩ : ∃ X, L ++ catB (ss.take (k + 1)) = X := ⟨_, rfl⟩
      have HL2 := Lib.hid hL2
      rw [HK2.out, hL2] at ho2
      clear hL2
      obtain ⟨a2, c2, rfl⟩ := ho2.form
      obtain ⟨a1, c1, rfl⟩ := ho.form
      obtain ⟨hk2, hf2, ht2⟩ := txt_push hk ho hg2 ho2
      have hc2 := hk2.cell 0
      have hz2' := hk2.frozen 0
      have hf3 := hf.trans hf2
      clear hk ho hg2 ho2 hk2 hf2 hpc hc
      go_wp2_with fail
      go_roundg gg
      case measure => omega
      case rel => exact ⟨k + 1, by omega, by go_num, hf3, by rw [HL2.out]; exact ht2⟩
end Go.Proofs.YtolbhhokpelchaaDoor
