/- A row of two integers less a multiple of another row. -/
import Derived.Test.YtfjjmhbffbhhdaaDoorRow
namespace Go.Proofs.YtfjjmhbffbhhdaaDoor
open Go.RowKit

def RetRow (W : World) (x y : Int) : Ending → World → Prop := fun e w' =>
  ∃ g1 s1 p1 l1 c1 g2 s2 p2 l2 c2, e = .returned (.agg #[.bool g1, .int .u64 s1, .slice p1 l1 c1, .bool g2, .int .u64 s2, .slice p2 l2 c2]) ∧ IsI w' g1 s1 p1 l1 c1 x ∧ IsI w' g2 s2 p2 l2 c2 y ∧ Below W.heap.size W w'

end Go.Proofs.YtfjjmhbffbhhdaaDoor
