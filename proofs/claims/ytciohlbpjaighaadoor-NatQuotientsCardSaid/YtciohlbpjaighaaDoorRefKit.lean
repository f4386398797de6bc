/- Lengths of the document's numbers. -/
import Derived.Test.YtciohlbpjaighaaDoorRef
namespace Go.Proofs.YtciohlbpjaighaaDoor
open Go.RowKit

theorem dr_ds (n : Nat) : (dr n).length ≤ 2 * (ds n).length := by
  refine digs_length_le (by omega) ?_
  have := lt_ds n
  rw [show (2 : Nat) ^ 64 = (2 ^ 32) ^ 2 from by omega, ← Nat.pow_mul] at this
  exact this
theorem IsR.short {w : World} {p : Option Addr} {l c n k : Nat} (h : IsR w p l c n) (hk : (ds n).length ≤ k) : l ≤ 2 * k := by
  have h1 := h.1; have h2 := dr_ds n; omega
theorem dr_mul (m n : Nat) : (dr (m * n)).length ≤ (dr m).length + (dr n).length := by
  refine digs_length_le (by omega) ?_
  rw [Nat.pow_add]
  exact Nat.mul_lt_mul'' (lt_pow_digs (by omega) m) (lt_pow_digs (by omega) n)
end Go.Proofs.YtciohlbpjaighaaDoor
