/- The document's own numbers: made, measured, as bytes. -/
import Derived.Test.YthenfejgnjdkjaaGreatDoorShiftS
namespace Go.Proofs.YthenfejgnjdkjaaGreatDoor
open Go.RowKit

def dr (n : Nat) : List Nat := digs (2 ^ 32) n

def IsR (w : World) (p : Option Addr) (l c : Nat) (n : Nat) : Prop :=
  l = (dr n).length ∧ l ≤ c ∧ (n ≠ 0 → ∃ b off, p = some ⟨b, off, none⟩ ∧ At w .u32 b off (dr n))

theorem IsR.mono {w w' : World} {p : Option Addr} {l c n : Nat} (h : IsR w p l c n) (hb : Below w.heap.size w w') : IsR w' p l c n := by
  obtain ⟨h1, h2, h3⟩ := h
  refine ⟨h1, h2, fun hn => ?_⟩
  obtain ⟨b, off, h4, h5⟩ := h3 hn
  exact ⟨b, off, h4, h5.mono hb⟩

end Go.Proofs.YthenfejgnjdkjaaGreatDoor

/- Lengths of the document's numbers. -/
namespace Go.Proofs.YthenfejgnjdkjaaGreatDoor
open Go.RowKit

theorem dr_ds (n : Nat) : (dr n).length ≤ 2 * (ds n).length := by
  refine digs_length_le (by omega) ?_
  have := lt_ds n
  rw [show (2 : Nat) ^ 64 = (2 ^ 32) ^ 2 from by omega, ← Nat.pow_mul] at this
  exact this
theorem IsR.short {w : World} {p : Option Addr} {l c n k : Nat} (h : IsR w p l c n) (hk : (ds n).length ≤ k) : l ≤ 2 * k := by
  have h1 := h.1; have h2 := dr_ds n; omega
end Go.Proofs.YthenfejgnjdkjaaGreatDoor
