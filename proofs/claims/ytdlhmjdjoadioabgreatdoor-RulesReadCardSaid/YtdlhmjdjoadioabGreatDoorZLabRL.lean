/- The contract of label.readLabel. -/
import Derived.Test.YtdlhmjdjoadioabGreatDoorMg10
import Derived.Laws.Rows
import Derived.Laws.Tables
namespace Go.Proofs.YtdlhmjdjoadioabGreatDoor
open Go.RowKit

theorem results_cell_tmp2 {P : Program} {fn : Func} {p u v : Tmp} {ty : TypeId} (h : fn.results = #[.cell p ty, .tmp u, .tmp v]) (tmps : Array Value) (w : World) (g : Nat) (t : TypeId) (cs : Array Value) (fr : Nat × Nat) (d : TypeDesc)
    (hp : tmps.getD p undef = .pointer (some ⟨g, 0, none⟩)) (hg : w.heap[g]? = some (.cells cs t fr))
    (hu : P.underlying ty = some d) (hd : (match d with | .struct _ | .array _ _ => true | _ => false) = true) (hi : (P.info? ty).map (·.size) = some cs.size) :
    (results fn tmps).run P w = .ok (.tuple #[.agg cs, tmps.getD u undef, tmps.getD v undef]) w := by
  have hp' : tmps[p]?.getD undef = .pointer (some ⟨g, 0, none⟩) := by simpa using hp
  simp [results, h, hp', asAddr, run_loadVar_row w g t ty cs fr d hg hu hd hi]
theorem below_setRowL {base : Nat} {w w1 : World} {g : Nat} (h : Below base w w1) (hg : base ≤ g) (hs : base ≤ w1.heap.size) (V : Array Value) : Below base w (w1.setRow g V) := by
  refine h.grown (row := some g) ⟨rfl, rfl, rfl, by simp [World.setRow], fun k _ hk => setRow_other w1 g k _ (fun e => hk (by rw [e]))⟩ ?_ ?_
  · exact hs
  · intro k hk; cases hk; exact hg

def LabelPost (o : Option (Lab × Bs)) (w : World) (e : Ending) (w' : World) : Prop :=
  (match o with
    | some (l, r) => e = .returned (.tuple #[.agg #[.string l.1, .string l.2], .string ⟨r.toArray⟩, .bool true])
    | none => ∃ (l : Lab) (r : ByteArray), e = .returned (.tuple #[.agg #[.string l.1, .string l.2], .string r, .bool false])) ∧ Below w.heap.size w w'

set_option maxHeartbeats 1600000 in
set_option maxRecDepth 100000 in
theorem readLabel_any (s ahead : ByteArray) (w : World) (hm : MaxC w) (hs : s.size ≤ 1000000) :
    Calls Tryz.prog 48 #[.string s, .string ahead] w (LabelPost (rdLab s.data.toList ahead.data.toList) w) := by
  have hcp := fun W => Tryz.strings_CutPrefix s ahead W
  obtain ⟨R, hR⟩ : ∃ R, rdLab s.data.toList ahead.data.toList = R := ⟨_, rfl⟩
  rw [hR]
  unfold rdLab at hR
  have htl : (Lib.trimPrefix s.data.toList ahead.data.toList).length ≤ 1000000 := by
    unfold Lib.trimPrefix
    split
    · simp; omega
    · simpa using hs
  generalize Lib.trimPrefix s.data.toList ahead.data.toList = T at *
  generalize Lib.hasPrefix s.data.toList ahead.data.toList = B at *
  have hcu := fun W m (hmW : W.cell? ⟨3, 0, none⟩ = some (.int .i64 m)) => Tryz.strings_Cut ⟨T.toArray⟩ ⟨#[61, 34]⟩ m W (by simp [ByteArray.size]; omega) hmW
  rw [show (⟨T.toArray⟩ : ByteArray).data.toList = T from rfl, show (⟨#[61, 34]⟩ : ByteArray).data.toList = [61, 34] from rfl] at hcu
  have hcl : (Lib.cut T [61, 34]).2.1.length ≤ 1000000 := by
    unfold Lib.cut
    split
    · simp; omega
    · simp
  generalize Lib.cut T [61, 34] = C at *
  have hrq := fun W => readQuoted_any ⟨C.2.1.toArray⟩ W (by simpa [ByteArray.size] using hcl)
  rw [show (⟨C.2.1.toArray⟩ : ByteArray).data.toList = C.2.1 from rfl] at hrq
  generalize readQ C.2.1 [] = Q at *
  obtain ⟨n, q, f⟩ := C
  simp only at hR hcu hrq
  have HCP := Lib.hid hcp
  have HCU := Lib.hid hcu
  have HRQ := Lib.hid hrq
  clear hcp hcu hrq htl hcl
  have hm1 := hm.call ((Below.refl _ w).alloc (Nat.le_refl _) (.cells #[.string ⟨#[]⟩, .string ⟨#[]⟩] 60))
  have hbx0 := Blk.new w 60 #[.string ⟨#[]⟩, .string ⟨#[]⟩]
  have hb0 := (Below.refl _ w).alloc (Nat.le_refl _) (.cells #[.string ⟨#[]⟩, .string ⟨#[]⟩] 60)
  obtain ⟨m, hm2⟩ := hm1
  have HM := Lib.hid hm2
  clear hm2 hm
  cases B with
  | false =>
        have hre : none = R := by rw [← hR]; rfl
        subst hre
        clear hR
        go_enter Tryz.func48, Tryz.ntmps48
        go_wp2_with (first
          | (go_at_call 46; (with_reducible refine (HCP.out _).mono ?_); rintro e w1 ⟨rfl, rfl⟩)
          | (go_at_call 64; (with_reducible refine (HCU.out _ m HM.out).mono ?_); rintro e w2 ⟨rfl, n2, rfl⟩; have hbx := hbx0.call (below_drewN (Below.refl _ _) n2); have hb2 := below_drewN hb0 n2; have hz2 := hb2.size))
        refine bodyPost_ret (v := .tuple #[.agg #[.string ⟨#[]⟩, .string ⟨#[]⟩], .string ⟨#[]⟩, .bool false]) ?_ rfl ⟨⟨(⟨#[]⟩, ⟨#[]⟩), ⟨#[]⟩, rfl⟩, (hb2.setCell (Nat.le_refl _) _).setCell (Nat.le_refl _) _⟩
        refine (results_cell_tmp2 rfl _ _ w.heap.size _ #[.string ⟨#[]⟩, .string ⟨#[]⟩] _ _ ?_ ((hbx.set 0 _).set 1 _) Tryz.underlying60 rfl (by kernel_rfl)).trans ?_
        · rfl
        · rfl
  | true =>
    cases f with
    | false =>
        have hre : none = R := by rw [← hR]; rfl
        subst hre
        clear hR
        go_enter Tryz.func48, Tryz.ntmps48
        go_wp2_with (first
          | (go_at_call 46; (with_reducible refine (HCP.out _).mono ?_); rintro e w1 ⟨rfl, rfl⟩)
          | (go_at_call 64; (with_reducible refine (HCU.out _ m HM.out).mono ?_); rintro e w2 ⟨rfl, n2, rfl⟩; have hbx := hbx0.call (below_drewN (Below.refl _ _) n2); have hb2 := below_drewN hb0 n2; have hz2 := hb2.size))
        refine bodyPost_ret (v := .tuple #[.agg #[.string ⟨#[]⟩, .string ⟨#[]⟩], .string ⟨#[]⟩, .bool false]) ?_ rfl ⟨⟨(⟨#[]⟩, ⟨#[]⟩), ⟨#[]⟩, rfl⟩, (hb2.setCell (Nat.le_refl _) _).setCell (Nat.le_refl _) _⟩
        refine (results_cell_tmp2 rfl _ _ w.heap.size _ #[.string ⟨#[]⟩, .string ⟨#[]⟩] _ _ ?_ ((hbx.set 0 _).set 1 _) Tryz.underlying60 rfl (by kernel_rfl)).trans ?_
        · rfl
        · rfl
    | true =>
      cases Q with
      | none =>
        have hre : none = R := by rw [← hR]; rfl
        subst hre
        clear hR
        go_enter Tryz.func48, Tryz.ntmps48
        go_wp2_with (first
          | (go_at_call 46; (with_reducible refine (HCP.out _).mono ?_); rintro e w1 ⟨rfl, rfl⟩)
          | (go_at_call 64; (with_reducible refine (HCU.out _ m HM.out).mono ?_); rintro e w2 ⟨rfl, n2, rfl⟩; have hbx := hbx0.call (below_drewN (Below.refl _ _) n2); have hb2 := below_drewN hb0 n2; have hz2 := hb2.size)
          | (go_at_call 65; (with_reducible refine (HRQ.out _).mono ?_); rintro e w3 ⟨rfl, hb3⟩; have hbx3 := hbx.call hb3; have hb4 := bthen hb2 hb3; have hz4 := hb4.size; have q1 := hbx3.cell 0; have q2 := hbx3.cell 1; have f1 := hbx3.frozen 0; have f2 := hbx3.frozen 1; have q3 := fun v0 => (hbx3.set 0 v0).cell 1; have f3 := fun v0 => (hbx3.set 0 v0).frozen 1))
        refine bodyPost_ret (v := .tuple #[.agg #[.string ⟨n.toArray⟩, .string ⟨#[]⟩], .string ⟨#[]⟩, .bool false]) ?_ rfl ⟨⟨(⟨n.toArray⟩, ⟨#[]⟩), ⟨#[]⟩, rfl⟩, (hb4.setCell (Nat.le_refl _) _).setCell (Nat.le_refl _) _⟩
        refine (results_cell_tmp2 rfl _ _ w.heap.size _ #[.string ⟨n.toArray⟩, .string ⟨#[]⟩] _ _ ?_ ((hbx3.set 0 _).set 1 _) Tryz.underlying60 rfl (by kernel_rfl)).trans ?_
        · rfl
        · rfl
      | some p =>
        obtain ⟨v, r⟩ := p
        have hre : some ((⟨n.toArray⟩, ⟨v.toArray⟩), r) = R := by rw [← hR]; rfl
        subst hre
        clear hR
        go_enter Tryz.func48, Tryz.ntmps48
        go_wp2_with (first
          | (go_at_call 46; (with_reducible refine (HCP.out _).mono ?_); rintro e w1 ⟨rfl, rfl⟩)
          | (go_at_call 64; (with_reducible refine (HCU.out _ m HM.out).mono ?_); rintro e w2 ⟨rfl, n2, rfl⟩; have hbx := hbx0.call (below_drewN (Below.refl _ _) n2); have hb2 := below_drewN hb0 n2; have hz2 := hb2.size)
          | (go_at_call 65; (with_reducible refine (HRQ.out _).mono ?_); rintro e w3 ⟨rfl, hb3⟩; have hbx3 := hbx.call hb3; have hb4 := bthen hb2 hb3; have hz4 := hb4.size; have q1 := hbx3.cell 0; have q2 := hbx3.cell 1; have f1 := hbx3.frozen 0; have f2 := hbx3.frozen 1; have q3 := fun v0 => (hbx3.set 0 v0).cell 1; have f3 := fun v0 => (hbx3.set 0 v0).frozen 1))
        refine bodyPost_ret (v := .tuple #[.agg #[.string ⟨n.toArray⟩, .string ⟨v.toArray⟩], .string ⟨r.toArray⟩, .bool true]) ?_ rfl ⟨rfl, (hb4.setCell (Nat.le_refl _) _).setCell (Nat.le_refl _) _⟩
        refine (results_cell_tmp2 rfl _ _ w.heap.size _ #[.string ⟨n.toArray⟩, .string ⟨v.toArray⟩] _ _ ?_ ((hbx3.set 0 _).set 1 _) Tryz.underlying60 rfl (by kernel_rfl)).trans ?_
        · rfl
        · rfl
end Go.Proofs.YtdlhmjdjoadioabGreatDoor
