/- What slots hold in an open statement that stores nothing: plain values. -/
import Derived.Test.YtfjjmhbffbhhdaaInv
import Derived.Test.YtfjjmhbffbhhdaaMem
namespace Go.Proofs.Ytfjjmhbffbhhdaa
open Go.RowKit

inductive PWant where
  | is (v : Value)
  | any
def PMeans (_ : World) : PWant → Value → Prop
  | .is x, v => v = x
  | .any, _ => True
def PTab (t : List PWant) (off : Nat) (i : Nat) (v : Value) (w : World) : Prop := PMeans w (t.getD (i - off) .any) v
theorem PTab.stable {t : List PWant} {off : Nat} : ∀ i v w w', Below w.heap.size w w' → PTab t off i v w → PTab t off i v w' := fun _ _ _ _ _ h => h
end Go.Proofs.Ytfjjmhbffbhhdaa
