/- What may panic: outline.must, caught's own deferred function, caught. -/
import Derived.Test.YtolbhhokpelchaaDoorOutA
import Derived.Defers
import Derived.Recover
import Derived.Laws.Pointers
namespace Go.Proofs.YtolbhhokpelchaaDoor
open Go.RowKit

/-- the panic of a line that is not as it must be -/
def lineP : PanicEntry := { v := .iface 28 (.int .i64 250), recovered := false }

theorem must_ok (w : World) : Calls Tryd.prog 59 #[.bool true] w fun e w' => e = .returned (.tuple #[]) ∧ w = w' := by
  go_enter Tryd.func59, Tryd.ntmps59
  go_wp2
  go_end0
  exact ⟨rfl, rfl⟩
theorem must_not (w : World) : Calls Tryd.prog 59 #[.bool false] w fun e w' => e = .panicked [lineP] ∧ w = w' := by
  go_enter Tryd.func59, Tryd.ntmps59
  go_wp2
  simp [bodyPost, lineP]

theorem asErr (v : Value) (xT : TypeId) (w : World) : (Instr.typeAssert (.iface 28 v) xT 28 false).run Tryd.prog w = .ok v w := by kernel_rfl

set_option maxHeartbeats 1600000 in
theorem catch_panicking (p : Addr) (x e : Int) (w : World) (hc : w.cell? p = some (.int .i64 x)) (hz : w.frozen? p = false) :
    CallsD Tryd.prog 51 #[.pointer (some p)] (.panicking [{ v := .iface 28 (.int .i64 e), recovered := false }]) w fun en u' w' =>
      en = .returned (.tuple #[]) ∧ u' = .panicking [{ v := .iface 28 (.int .i64 e), recovered := true }] ∧ w' = w.setCell p (.int .i64 e) := by
  refine callsD_of_wpS Tryd.func51 rfl fun c₀ cs hu => ?_
  apply wpS_seq
  apply wpS_region
  simp [wpOpsS, go_sem, recoverD, hu, Tryd.ntmps51, Exit.thenS]
  apply wpS_seq
  apply wpS_region
  simp [wpOpsS, go_sem, Exit.thenS]
  refine wpS_cond (t := true) (by simp [Act.eval, Array.replicate]) ?_
  simp only [if_true]
  apply wpS_region
  simp [wpOpsS, go_sem, asErr, hc, hz, bodyPostS, results, Tryd.results51]

theorem catch_idle (p : Addr) (w : World) :
    CallsD Tryd.prog 51 #[.pointer (some p)] .returning w fun en u' w' => en = .returned (.tuple #[]) ∧ u' = .returning ∧ w' = w := by
  refine callsD_of_wpS Tryd.func51 rfl fun c₀ cs hu => ?_
  apply wpS_seq
  apply wpS_region
  simp [wpOpsS, go_sem, recoverD, hu, Tryd.ntmps51, Exit.thenS]
  apply wpS_seq
  apply wpS_region
  simp [wpOpsS, go_sem, Exit.thenS]
  refine wpS_cond (t := false) (by simp [Act.eval, Array.replicate]) ?_
  simp only [Bool.false_eq_true, if_false]
  refine wpS_of_wp (wp_skip ?_)
  cases c₀
  simp_all [bodyPostS, results, Tryd.results51]
end Go.Proofs.YtolbhhokpelchaaDoor
