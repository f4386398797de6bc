/- Draws leave what was written. -/
import Derived.Test.YtciohlbpjaighaaDoorMem
namespace Go.Proofs.YtciohlbpjaighaaDoor
open Go.RowKit

theorem Only.drewN {w w' : World} {b off n : Nat} (h : Only w w' b off n) : ∀ k, Only w (w'.drewN k) b off n
  | 0 => h
  | k + 1 => (Only.drewN h k).drew
theorem At.drewN {w : World} {k : IntKind} {b off : Nat} {xs : List Nat} (h : At w k b off xs) (n : Nat) : At (w.drewN n) k b off xs := h.mono (below_drewN (Below.refl _ _) n)
end Go.Proofs.YtciohlbpjaighaaDoor
