/- Integers of 64 bits; the program's integer of a document's; the two of the laws. -/
import Derived.Test.YtfjjmhbffbhhdaaDoorReg
import Derived.Test.YtfjjmhbffbhhdaaDoorQNum
import Derived.Test.YtfjjmhbffbhhdaaDoorIntWant
import Derived.Test.YtfjjmhbffbhhdaaDoorDivS
namespace Go.Proofs.YtfjjmhbffbhhdaaDoor
open Go.RowKit

def RetRI (W : World) (z : Int) : Ending → World → Prop := fun e w' => ∃ g p l c, e = .returned (.agg #[.bool g, .slice p l c]) ∧ IsRI w' g p l c z ∧ Below W.heap.size W w'
end Go.Proofs.YtfjjmhbffbhhdaaDoor
