/- The contract of outline.caught around Parse's own function. -/
import Derived.Test.YtolbhhokpelchaaDoorOutP
namespace Go.Proofs.YtolbhhokpelchaaDoor
open Go.RowKit

/-- what a function that may panic leaves -/
def MayP (B : Nat) (A : World → Prop) (Z : Int → World → Prop) (e : Ending) (w' : World) : Prop :=
  ((e = .returned (.tuple #[]) ∧ A w') ∨ ∃ c, e = .panicked [{ v := .iface 28 (.int .i64 c), recovered := false }] ∧ Z c w') ∧ w'.cell? ⟨B, 0, none⟩ = some (.int .i64 0) ∧ w'.frozen? ⟨B, 0, none⟩ = false

set_option maxHeartbeats 1600000 in
theorem caughtP_any (p n : Option Addr) (w : World) (A : World → Prop) (Z : Int → World → Prop)
    (h : Calls Tryd.prog 37 #[.pointer p, .pointer n] (w.alloc (.cells #[.int .i64 0] 28)) (MayP w.heap.size A Z)) :
    Calls Tryd.prog 29 #[.func (.func 37) #[] #[.pointer p, .pointer n]] w fun e w' =>
      (e = .returned (.int .i64 0) ∧ ∃ w1, A w1 ∧ w' = w1.setCell ⟨w.heap.size, 0, none⟩ (.int .i64 0)) ∨ ∃ c w1, e = .returned (.int .i64 c) ∧ Z c w1 ∧ w' = w1.setCell ⟨w.heap.size, 0, none⟩ (.int .i64 c) := by
  have hmf : ∀ (fn : Fn) (first cap : Array Value) (w : World), (Instr.makeFunc fn first cap).run Tryd.prog w = .ok (.func fn first cap) w := fun _ _ _ _ => rfl
  have H := Lib.hid h
  clear h
  go_enter_defers Tryd.func29, Tryd.ntmps29
  go_wp2_with (go_at_call 37; refine H.out.mono ?_; rintro e w1 ⟨⟨rfl, hA⟩ | ⟨c, rfl, hZ⟩, hc, hz⟩)
  · refine leaves_cons (f := 51) (args := #[.pointer (some ⟨w.heap.size, 0, none⟩)]) (by simp) (by simp [go_sem]) ?_
    refine (catch_idle ⟨w.heap.size, 0, none⟩ _).mono ?_
    rintro e u' w'' ⟨rfl, rfl, rfl⟩
    have hr : (w1.setCell ⟨w.heap.size, 0, none⟩ (.int .i64 0)).cell? ⟨w.heap.size, 0, none⟩ = some (.int .i64 0) := World.cell?_setCell_same _ _ _ hc
    simp [Leaves, settle, results, Tryd.results29, go_sem, hr]
    exact .inl ⟨w1, hA, rfl⟩
  · refine leaves_cons (f := 51) (args := #[.pointer (some ⟨w.heap.size, 0, none⟩)]) (by simp) (by simp [go_sem]) ?_
    refine (catch_panicking ⟨w.heap.size, 0, none⟩ 0 c w1 hc hz).mono ?_
    rintro e u' w'' ⟨rfl, rfl, rfl⟩
    have hr : (w1.setCell ⟨w.heap.size, 0, none⟩ (.int .i64 c)).cell? ⟨w.heap.size, 0, none⟩ = some (.int .i64 c) := World.cell?_setCell_same _ _ _ hc
    simp [Leaves, settle, results, Tryd.results29, go_sem, hr]
    exact .inr ⟨w1, hZ, rfl⟩
end Go.Proofs.YtolbhhokpelchaaDoor
