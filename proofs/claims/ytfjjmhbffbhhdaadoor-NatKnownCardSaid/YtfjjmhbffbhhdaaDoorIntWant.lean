/- Signs, sums, products and comparisons of the program's integers. -/
import Derived.Test.YtfjjmhbffbhhdaaDoorQNum
import Derived.Test.YtfjjmhbffbhhdaaDoorDivN
import Derived.Test.YtfjjmhbffbhhdaaDoorReg
namespace Go.Proofs.YtfjjmhbffbhhdaaDoor
open Go.RowKit

end Go.Proofs.YtfjjmhbffbhhdaaDoor

/- Sums of the program's integers. -/
namespace Go.Proofs.YtfjjmhbffbhhdaaDoor
open Go.RowKit

end Go.Proofs.YtfjjmhbffbhhdaaDoor

/- Differences and comparisons of the program's integers. -/
namespace Go.Proofs.YtfjjmhbffbhhdaaDoor
open Go.RowKit

end Go.Proofs.YtfjjmhbffbhhdaaDoor

/- The quotient of the program's integers. -/
namespace Go.Proofs.YtfjjmhbffbhhdaaDoor
open Go.RowKit

def qdiv (x y : Int) : Int := if 0 < y then x / y else (-x) / (-y)
def qmod (x y : Int) : Int := x - qdiv x y * y
theorem qdiv_unique {x y q r : Int} (h : x = q * y + r) (hr : (0 ≤ r ∧ r < y) ∨ (y < r ∧ r ≤ 0)) : q = qdiv x y ∧ r = qmod x y := by
  have h1 : q = qdiv x y := by
    unfold qdiv
    rcases hr with ⟨h1, h2⟩ | ⟨h1, h2⟩
    · rw [if_pos (by omega)]
      exact (Int.ediv_emod_unique (a := x) (b := y) (r := r) (q := q) (by omega)).2 ⟨by rw [h, Int.mul_comm]; omega, h1, h2⟩ |>.1.symm
    · rw [if_neg (by omega)]
      exact (Int.ediv_emod_unique (a := -x) (b := -y) (r := -r) (q := q) (by omega)).2 ⟨by rw [h]; grind, by omega, by omega⟩ |>.1.symm
  refine ⟨h1, ?_⟩
  unfold qmod
  rw [← h1]
  omega
theorem qdiv_parts {x y : Int} (hy : y ≠ 0) : x = qdiv x y * y + qmod x y ∧ ((0 ≤ qmod x y ∧ qmod x y < y) ∨ (y < qmod x y ∧ qmod x y ≤ 0)) := by
  refine ⟨by unfold qmod; omega, ?_⟩
  rcases Int.lt_or_le 0 y with h | h
  · left
    have e : qmod x y = x % y := by unfold qmod qdiv; rw [if_pos h, Int.mul_comm]; have := Int.mul_ediv_add_emod x y; omega
    rw [e]; exact ⟨Int.emod_nonneg _ (by omega), Int.emod_lt_of_pos _ h⟩
  · right
    have e : qmod x y = -((-x) % (-y)) := by unfold qmod qdiv; rw [if_neg (by omega)]; have := Int.mul_ediv_add_emod (-x) (-y); grind
    have h1 := Int.emod_nonneg (-x) (b := -y) (by omega)
    have h2 := Int.emod_lt_of_pos (-x) (b := -y) (by omega)
    rw [e]; omega

end Go.Proofs.YtfjjmhbffbhhdaaDoor

/- The operations on integers, in the words of an open statement. -/
namespace Go.Proofs.YtfjjmhbffbhhdaaDoor
open Go.RowKit

end Go.Proofs.YtfjjmhbffbhhdaaDoor
