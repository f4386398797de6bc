/- The checksum of any bytes, the program's and the document's. -/
import Derived.Test.YtfjjmhbffbhhdaaB8
import Derived.Test.YtfjjmhbffbhhdaaO0
namespace Go.Proofs.Ytfjjmhbffbhhdaa
open Go.RowKit

theorem IsB.cases {w : World} {p : Option Addr} {l c : Nat} {bs : List Nat} (h : IsB w p l c bs) :
    (bs = [] ∧ l = 0) ∨ (∃ b off, p = some ⟨b, off, none⟩ ∧ 0 < l ∧ bs.length = l ∧ l ≤ c ∧ At w .u8 b off bs ∧ ∀ x ∈ bs, x < 256) := by
  obtain ⟨h1, h2, ⟨rfl, rfl, rfl⟩ | ⟨b, off, sp, rfl, h4, h5⟩⟩ := h
  · exact Or.inl ⟨List.eq_nil_of_length_eq_zero h1, rfl⟩
  · by_cases h0 : l = 0
    · subst h0; exact Or.inl ⟨List.eq_nil_of_length_eq_zero h1, rfl⟩
    · have h6 := World.cell?_spot (h5 0 (by omega))
      have hsp : sp = none := by simpa [Addr.add] using h6
      subst hsp
      exact Or.inr ⟨b, off, rfl, by omega, h1, h4, fun i hi => by rw [← Go.WideShapes.add_plain]; exact h5 i hi, h2⟩

theorem step_wrap {f x : Nat} (hf : f < 2 ^ 64) (hx : x < 256) : IntKind.u64.wrap (bits .xor .u64 (f : Int) (x : Int) * 1099511628211) = ((fnvStep f x : Nat) : Int) := by
  rw [u64_xor_nat f x (by omega) (by omega), IntKind.wrap_u64]
  unfold fnvStep
  generalize f ^^^ x = t
  omega

end Go.Proofs.Ytfjjmhbffbhhdaa
