/- Forks: the law's walk. -/
import Derived.Test.YtfjjmhbffbhhdaaD1
namespace Go.Proofs.Ytfjjmhbffbhhdaa
open Go.RowKit

theorem dk1 : dstep 0 = 11400714819323198485 := by decide +kernel
theorem dk2 : dmix (dstep 0) = 16294208416658607535 := by decide +kernel

theorem beq_nat (a b : Nat) : ((a : Int) == (b : Int)) = decide (a = b) := by
  by_cases h : a = b
  · subst h; rw [decide_eq_true rfl]; exact beq_self_eq_true _
  · rw [decide_eq_false h]; exact beq_eq_false_iff_ne.2 (by omega)
theorem IsD.at {w : World} {b s t : Nat} (h : IsD w b s) (e : s = t) : IsD w b t := e ▸ h
theorem Drawn.at {w w' : World} {b s t : Nat} (h : Drawn w w' b s) (e : s = t) : Drawn w w' b t := e ▸ h
end Go.Proofs.Ytfjjmhbffbhhdaa
