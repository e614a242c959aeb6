/- The contract of rules.Fires. -/
import Derived.Test.YtdlhmjdjoadioabGreatDoorMg6
import Derived.Test.YtdlhmjdjoadioabGreatDoorZLater
import Derived.BigQuiet
import Derived.Deep.RegionHeld3
namespace Go.Proofs.YtdlhmjdjoadioabGreatDoor
open Go.RowKit

set_option maxHeartbeats 6400000 in
set_option maxRecDepth 100000 in
theorem fires_any (r : Rul) (a : Option Addr) (c : Nat) (v : Int) (w : World) (h : RulAt w r a c) : Calls Tryz.prog 30 #[.agg (rCells r a c), .int .i64 v] w (BoolB (firesC r v) w) := by
  have HR := Lib.hid (fun W (h : RulAt W r a c) => rulRight_any r a c W h)
  have hb := (Below.refl w.heap.size w).alloc (Nat.le_refl _) (.cells (rCells r a c) 24)
  have hB := Blk.new w 24 (rCells r a c)
  have hA := h.call hb
  have hi := rulC_iff r
  have HI := Lib.hid hi
  clear hi h
  obtain ⟨n, m, k, l, f, p, t, ls⟩ := r
  obtain ⟨R, hR⟩ : ∃ R, firesC ⟨n, m, k, l, f, p, t, ls⟩ v = R := ⟨_, rfl⟩
  rw [hR]
  simp only [rCells] at *
  unfold firesC at hR
  have HQ := Lib.hid hR
  clear hR
  go_enter Tryz.func30, Tryz.ntmps30
  go_upto_region 1 with fail
  generalize w.alloc (.cells #[.string n, .string m, .int .i64 k, .int .i64 l, .int .i64 f, .int .i64 p, .int .i64 t, .slice a ls.length c] 24) = wx at *
  have HBB := Lib.hid hb
  have HAA := Lib.hid hA
  have HC := Lib.hid (fun W (h : Below wx.heap.size wx W) => (hB.call h).cells8)
  clear hA hB hb
  cases hr : rulC ⟨n, m, k, l, f, p, t, ls⟩ with
  | false =>
    rw [hr] at HR
    obtain rfl : R = false := by have := HQ.out; rw [hr] at this; exact this.symm
    clear hr HI HQ
    have hc := fun x => HC.out (later wx x) (later_below wx x)
    have c0 := fun x => (hc x).1
    have c1 := fun x => (hc x).2.1
    have c2 := fun x => (hc x).2.2.1
    have c3 := fun x => (hc x).2.2.2.1
    have c4 := fun x => (hc x).2.2.2.2.1
    have c5 := fun x => (hc x).2.2.2.2.2.1
    have c6 := fun x => (hc x).2.2.2.2.2.2.1
    have c7 := fun x => (hc x).2.2.2.2.2.2.2
    clear hc
    refine wp_region_later (by kernel_rfl) (by kernel_rfl) ?_
    repeat (go_big_quiet_step ((go_at_call 16; exact calls_later (HR.out _ (HAA.out.call (later_below _ _))))))
    refine wpQuiet_nil ?_
    rintro _ ⟨x, rfl⟩
    have hb2 := later_below wx x
    generalize later wx x = w7 at *
    go_wp2_with fail
    go_ret
    exact ⟨rfl, bthen HBB.out hb2⟩
  | true =>
    obtain ⟨_, _, ⟨hk1, hk5⟩, _⟩ := HI.out.1 hr
    rw [hr] at HR
    have HQ2 : Hid (R = compC k l v) := Lib.hid (by have := HQ.out; rw [hr] at this; exact this.symm)
    clear HQ
    have hk : k = 1 ∨ k = 2 ∨ k = 3 ∨ k = 4 ∨ k = 5 := by omega
    clear hr HI hk1 hk5
    rcases hk with rfl | rfl | rfl | rfl | rfl
    · have i1 := fun (x y : Nat) (W : World) => (show (Instr.index 48 (.agg (howsV x y)) (.int .i64 1)).run Tryz.prog W = .ok (.agg #[.string ⟨#[62]⟩, .func (.func 41) #[] #[]]) W by kernel_rfl)
      have i2 := fun (W : World) => (show (Instr.field 47 (.agg #[.string ⟨#[62]⟩, .func (.func 41) #[] #[]]) 1).run Tryz.prog W = .ok (.func (.func 41) #[] #[]) W by kernel_rfl)
      have HH := Lib.hid (fun W => hows1_any v l W)
      go_region_held3 (fun w' => w'.cell? ⟨w.heap.size, 0, none⟩ = some (.string n) ∧ w'.cell? ⟨w.heap.size, 1, none⟩ = some (.string m) ∧ w'.cell? ⟨w.heap.size, 2, none⟩ = some (.int .i64 1) ∧ w'.cell? ⟨w.heap.size, 3, none⟩ = some (.int .i64 l) ∧ w'.cell? ⟨w.heap.size, 4, none⟩ = some (.int .i64 f) ∧ w'.cell? ⟨w.heap.size, 5, none⟩ = some (.int .i64 p) ∧ w'.cell? ⟨w.heap.size, 6, none⟩ = some (.int .i64 t) ∧ w'.cell? ⟨w.heap.size, 7, none⟩ = some (.slice a ls.length c))
        (first | exact HC.out _ (Below.refl _ _).drew | exact HC.out _ (bthen (Below.refl _ _).drew hb2) | exact HC.out _ (bthen (bthen (Below.refl _ _).drew hb2) hb3))
        (first
        | (go_at_call 16; refine (HR.out _ (HAA.out.call (Below.refl _ _).drew)).mono ?_; rintro e w2 ⟨rfl, hb2⟩)
        | (go_at_call 19; refine (hows_any _).mono ?_; rintro e w3 ⟨x, y, rfl, hx, hy, hb3⟩)
        | (go_at_call 41; refine (HH.out _).mono ?_; rintro e w4 ⟨rfl, rfl⟩))
      all_goals
        go_wp2_with fail
        go_ret
        exact ⟨by rw [HQ2.out]; simp [compC], bthen HBB.out (bthen (bthen (Below.refl _ _).drew hb2) hb3)⟩
    · have i1 := fun (x y : Nat) (W : World) => (show (Instr.index 48 (.agg (howsV x y)) (.int .i64 2)).run Tryz.prog W = .ok (.agg #[.string ⟨#[62, 61]⟩, .func (.func 60) #[] #[.pointer (some ⟨x, 0, none⟩)]]) W by kernel_rfl)
      have i2 := fun (x : Nat) (W : World) => (show (Instr.field 47 (.agg #[.string ⟨#[62, 61]⟩, .func (.func 60) #[] #[.pointer (some ⟨x, 0, none⟩)]]) 1).run Tryz.prog W = .ok (.func (.func 60) #[] #[.pointer (some ⟨x, 0, none⟩)]) W by kernel_rfl)
      have HH := Lib.hid (fun (q : Nat) W h => not2_any v l q W h)
      go_region_held3 (fun w' => w'.cell? ⟨w.heap.size, 0, none⟩ = some (.string n) ∧ w'.cell? ⟨w.heap.size, 1, none⟩ = some (.string m) ∧ w'.cell? ⟨w.heap.size, 2, none⟩ = some (.int .i64 2) ∧ w'.cell? ⟨w.heap.size, 3, none⟩ = some (.int .i64 l) ∧ w'.cell? ⟨w.heap.size, 4, none⟩ = some (.int .i64 f) ∧ w'.cell? ⟨w.heap.size, 5, none⟩ = some (.int .i64 p) ∧ w'.cell? ⟨w.heap.size, 6, none⟩ = some (.int .i64 t) ∧ w'.cell? ⟨w.heap.size, 7, none⟩ = some (.slice a ls.length c))
        (first | exact HC.out _ (Below.refl _ _).drew | exact HC.out _ (bthen (Below.refl _ _).drew hb2) | exact HC.out _ (bthen (bthen (Below.refl _ _).drew hb2) hb3))
        (first
        | (go_at_call 16; refine (HR.out _ (HAA.out.call (Below.refl _ _).drew)).mono ?_; rintro e w2 ⟨rfl, hb2⟩)
        | (go_at_call 19; refine (hows_any _).mono ?_; rintro e w3 ⟨x, y, rfl, hx, hy, hb3⟩)
        | (go_at_call 60; refine (HH.out _ _ (by first | exact hx | exact hx.trans rfl)).mono ?_; rintro e w4 ⟨rfl, rfl⟩))
      all_goals
        go_wp2_with fail
        go_ret
        exact ⟨by rw [HQ2.out]; simp [compC], bthen HBB.out (bthen (bthen (Below.refl _ _).drew hb2) hb3)⟩
    · have i1 := fun (x y : Nat) (W : World) => (show (Instr.index 48 (.agg (howsV x y)) (.int .i64 3)).run Tryz.prog W = .ok (.agg #[.string ⟨#[60]⟩, .func (.func 42) #[] #[]]) W by kernel_rfl)
      have i2 := fun (W : World) => (show (Instr.field 47 (.agg #[.string ⟨#[60]⟩, .func (.func 42) #[] #[]]) 1).run Tryz.prog W = .ok (.func (.func 42) #[] #[]) W by kernel_rfl)
      have HH := Lib.hid (fun W => hows2_any v l W)
      go_region_held3 (fun w' => w'.cell? ⟨w.heap.size, 0, none⟩ = some (.string n) ∧ w'.cell? ⟨w.heap.size, 1, none⟩ = some (.string m) ∧ w'.cell? ⟨w.heap.size, 2, none⟩ = some (.int .i64 3) ∧ w'.cell? ⟨w.heap.size, 3, none⟩ = some (.int .i64 l) ∧ w'.cell? ⟨w.heap.size, 4, none⟩ = some (.int .i64 f) ∧ w'.cell? ⟨w.heap.size, 5, none⟩ = some (.int .i64 p) ∧ w'.cell? ⟨w.heap.size, 6, none⟩ = some (.int .i64 t) ∧ w'.cell? ⟨w.heap.size, 7, none⟩ = some (.slice a ls.length c))
        (first | exact HC.out _ (Below.refl _ _).drew | exact HC.out _ (bthen (Below.refl _ _).drew hb2) | exact HC.out _ (bthen (bthen (Below.refl _ _).drew hb2) hb3))
        (first
        | (go_at_call 16; refine (HR.out _ (HAA.out.call (Below.refl _ _).drew)).mono ?_; rintro e w2 ⟨rfl, hb2⟩)
        | (go_at_call 19; refine (hows_any _).mono ?_; rintro e w3 ⟨x, y, rfl, hx, hy, hb3⟩)
        | (go_at_call 42; refine (HH.out _).mono ?_; rintro e w4 ⟨rfl, rfl⟩))
      all_goals
        go_wp2_with fail
        go_ret
        exact ⟨by rw [HQ2.out]; simp [compC], bthen HBB.out (bthen (bthen (Below.refl _ _).drew hb2) hb3)⟩
    · have i1 := fun (x y : Nat) (W : World) => (show (Instr.index 48 (.agg (howsV x y)) (.int .i64 4)).run Tryz.prog W = .ok (.agg #[.string ⟨#[60, 61]⟩, .func (.func 60) #[] #[.pointer (some ⟨y, 0, none⟩)]]) W by kernel_rfl)
      have i2 := fun (y : Nat) (W : World) => (show (Instr.field 47 (.agg #[.string ⟨#[60, 61]⟩, .func (.func 60) #[] #[.pointer (some ⟨y, 0, none⟩)]]) 1).run Tryz.prog W = .ok (.func (.func 60) #[] #[.pointer (some ⟨y, 0, none⟩)]) W by kernel_rfl)
      have HH := Lib.hid (fun (q : Nat) W h => not1_any v l q W h)
      go_region_held3 (fun w' => w'.cell? ⟨w.heap.size, 0, none⟩ = some (.string n) ∧ w'.cell? ⟨w.heap.size, 1, none⟩ = some (.string m) ∧ w'.cell? ⟨w.heap.size, 2, none⟩ = some (.int .i64 4) ∧ w'.cell? ⟨w.heap.size, 3, none⟩ = some (.int .i64 l) ∧ w'.cell? ⟨w.heap.size, 4, none⟩ = some (.int .i64 f) ∧ w'.cell? ⟨w.heap.size, 5, none⟩ = some (.int .i64 p) ∧ w'.cell? ⟨w.heap.size, 6, none⟩ = some (.int .i64 t) ∧ w'.cell? ⟨w.heap.size, 7, none⟩ = some (.slice a ls.length c))
        (first | exact HC.out _ (Below.refl _ _).drew | exact HC.out _ (bthen (Below.refl _ _).drew hb2) | exact HC.out _ (bthen (bthen (Below.refl _ _).drew hb2) hb3))
        (first
        | (go_at_call 16; refine (HR.out _ (HAA.out.call (Below.refl _ _).drew)).mono ?_; rintro e w2 ⟨rfl, hb2⟩)
        | (go_at_call 19; refine (hows_any _).mono ?_; rintro e w3 ⟨x, y, rfl, hx, hy, hb3⟩)
        | (go_at_call 60; refine (HH.out _ _ (by first | exact hy | exact hy.trans rfl)).mono ?_; rintro e w4 ⟨rfl, rfl⟩))
      all_goals
        go_wp2_with fail
        go_ret
        exact ⟨by rw [HQ2.out]; simp [compC], bthen HBB.out (bthen (bthen (Below.refl _ _).drew hb2) hb3)⟩
    · have i1 := fun (x y : Nat) (W : World) => (show (Instr.index 48 (.agg (howsV x y)) (.int .i64 5)).run Tryz.prog W = .ok (.agg #[.string ⟨#[61, 61]⟩, .func (.func 43) #[] #[]]) W by kernel_rfl)
      have i2 := fun (W : World) => (show (Instr.field 47 (.agg #[.string ⟨#[61, 61]⟩, .func (.func 43) #[] #[]]) 1).run Tryz.prog W = .ok (.func (.func 43) #[] #[]) W by kernel_rfl)
      have HH := Lib.hid (fun W => hows3_any v l W)
      go_region_held3 (fun w' => w'.cell? ⟨w.heap.size, 0, none⟩ = some (.string n) ∧ w'.cell? ⟨w.heap.size, 1, none⟩ = some (.string m) ∧ w'.cell? ⟨w.heap.size, 2, none⟩ = some (.int .i64 5) ∧ w'.cell? ⟨w.heap.size, 3, none⟩ = some (.int .i64 l) ∧ w'.cell? ⟨w.heap.size, 4, none⟩ = some (.int .i64 f) ∧ w'.cell? ⟨w.heap.size, 5, none⟩ = some (.int .i64 p) ∧ w'.cell? ⟨w.heap.size, 6, none⟩ = some (.int .i64 t) ∧ w'.cell? ⟨w.heap.size, 7, none⟩ = some (.slice a ls.length c))
        (first | exact HC.out _ (Below.refl _ _).drew | exact HC.out _ (bthen (Below.refl _ _).drew hb2) | exact HC.out _ (bthen (bthen (Below.refl _ _).drew hb2) hb3))
        (first
        | (go_at_call 16; refine (HR.out _ (HAA.out.call (Below.refl _ _).drew)).mono ?_; rintro e w2 ⟨rfl, hb2⟩)
        | (go_at_call 19; refine (hows_any _).mono ?_; rintro e w3 ⟨x, y, rfl, hx, hy, hb3⟩)
        | (go_at_call 43; refine (HH.out _).mono ?_; rintro e w4 ⟨rfl, rfl⟩))
      all_goals
        go_wp2_with fail
        go_ret
        exact ⟨by rw [HQ2.out]; simp [compC], bthen HBB.out (bthen (bthen (Below.refl _ _).drew hb2) hb3)⟩
end Go.Proofs.YtdlhmjdjoadioabGreatDoor
