/- The greatest divisor of an integer and 0, and how it is made of them; of any two integers. -/
import Derived.Test.YtfjjmhbffbhhdaaGreatDoorBez
import Derived.Test.YtfjjmhbffbhhdaaGreatDoorGcd
import Derived.Test.YtfjjmhbffbhhdaaGreatDoorLaw2
import Derived.Test.YtfjjmhbffbhhdaaGreatDoorQNum
import Derived.Test.YtfjjmhbffbhhdaaGreatDoorFrm
namespace Go.Proofs.YtfjjmhbffbhhdaaGreatDoor
open Go.RowKit

end Go.Proofs.YtfjjmhbffbhhdaaGreatDoor

/- What the law of Bezout's factors rests on. -/
namespace Go.Proofs.YtfjjmhbffbhhdaaGreatDoor
open Go.RowKit

theorem run_nText : RowKit.Hid (∀ (a : Array Value) (w : World), Sem.run Tryz.prog (callFunc 31 a) w = .ok (.enter 31 a) w) := fun a w => by go_simp
end Go.Proofs.YtfjjmhbffbhhdaaGreatDoor

/- The program's fractions: their records, boxes of them, single operations on them. -/
namespace Go.Proofs.YtfjjmhbffbhhdaaGreatDoor
open Go.RowKit

theorem IsI.kept {w w' : World} {b : Nat} {k : BK} {u v : Value} {g : Bool} {s : Int} {p : Option Addr} {l c : Nat} {z : Int} (h : IsI w g s p l c z) (hb : BoxHas w b k u) (hs : Stored w w' b k v) : IsI w' g s p l c z := ⟨h.1, h.2.stored hb hs⟩
theorem BoxHas.frac {w : World} {b : Nat} {v : Value} (h : BoxHas w b .frac v) : ∃ g s p l c t q k d, v = .agg #[.bool g, .int .u64 s, .slice p l c, .int .u64 t, .slice q k d] ∧ w.cell? ⟨b, 0, none⟩ = some (.bool g) ∧ w.cell? ⟨b, 1, none⟩ = some (.int .u64 s) ∧ w.cell? ⟨b, 2, none⟩ = some (.slice p l c) ∧ w.cell? ⟨b, 3, none⟩ = some (.int .u64 t) ∧ w.cell? ⟨b, 4, none⟩ = some (.slice q k d) := by
  obtain ⟨cs, rfl, hf, hc⟩ := h
  match cs, hf with
  | [a, b', c', d', e'], hf =>
    obtain ⟨⟨g, rfl⟩, ⟨s, rfl⟩, ⟨p, l, c, rfl⟩, ⟨t, rfl⟩, ⟨q, k, d, rfl⟩, -⟩ := hf
    exact ⟨_, _, _, _, _, _, _, _, _, rfl, hc 0 _ rfl, hc 1 _ rfl, hc 2 _ rfl, hc 3 _ rfl, hc 4 _ rfl⟩
section
variable {P : Program} {E : Operand → Value} {w : World} {d : Option Tmp} {ty : TypeId} {pos : String} {af : Array Edge} {gd : Option (Nat × Bool)}
end
end Go.Proofs.YtfjjmhbffbhhdaaGreatDoor
