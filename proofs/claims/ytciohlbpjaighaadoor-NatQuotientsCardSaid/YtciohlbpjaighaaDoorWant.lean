/- What an operation of a statement yields, in words of the program's numbers. -/
import Derived.Test.YtciohlbpjaighaaDoorBox
import Derived.Test.YtciohlbpjaighaaDoorRegion
namespace Go.Proofs.YtciohlbpjaighaaDoor
open Go.RowKit

/-- The value says the program's number n; the document's number n. -/
def Num (w : World) (v : Value) (n : Nat) : Prop := ∃ s p l c, v = .agg #[.int .u64 s, .slice p l c] ∧ IsN w s p l c n
def RNum (w : World) (v : Value) (n : Nat) : Prop := ∃ p l c, v = .slice p l c ∧ IsR w p l c n
/-- The value is a row of these numbers. -/
def RowOf (w : World) (v : Value) (k : IntKind) (xs : List Nat) : Prop := ∃ b off c, v = .slice (some ⟨b, off, none⟩) xs.length c ∧ xs.length ≤ c ∧ At w k b off xs

/-- The value is a row of l digits, of whatever form, that say n. -/
def WRow (w : World) (v : Value) (l n : Nat) : Prop := ∃ b off c xs, v = .slice (some ⟨b, off, none⟩) l c ∧ xs.length = l ∧ l ≤ c ∧ (∀ x ∈ xs, x < 2 ^ 64) ∧ val (2 ^ 64) xs = n ∧ At w .u64 b off xs
theorem WRow.mono {w w' : World} {v : Value} {l n : Nat} (h : WRow w v l n) (hb : Below w.heap.size w w') : WRow w' v l n := by
  obtain ⟨b, off, c, xs, h1, h2, h3, h4, h5, h6⟩ := h
  exact ⟨b, off, c, xs, h1, h2, h3, h4, h5, h6.mono hb⟩

theorem Num.mono {w w' : World} {v : Value} {n : Nat} (h : Num w v n) (hb : Below w.heap.size w w') : Num w' v n := by
  obtain ⟨s, p, l, c, h1, h2⟩ := h
  exact ⟨s, p, l, c, h1, h2.mono hb⟩
theorem RNum.mono {w w' : World} {v : Value} {n : Nat} (h : RNum w v n) (hb : Below w.heap.size w w') : RNum w' v n := by
  obtain ⟨p, l, c, h1, h2⟩ := h
  exact ⟨p, l, c, h1, h2.mono hb⟩
theorem RowOf.mono {w w' : World} {v : Value} {k : IntKind} {xs : List Nat} (h : RowOf w v k xs) (hb : Below w.heap.size w w') : RowOf w' v k xs := by
  obtain ⟨b, off, c, h1, h2, h3⟩ := h
  exact ⟨b, off, c, h1, h2, h3.mono hb⟩

/-- The parts of a value of the program's integers say the integer z; the value does; the document's. -/
def IsI (w : World) (g : Bool) (s : Int) (p : Option Addr) (l c : Nat) (z : Int) : Prop := g = decide (z < 0) ∧ IsN w s p l c z.natAbs
theorem IsI.mono {w w' : World} {g : Bool} {s : Int} {p : Option Addr} {l c : Nat} {z : Int} (h : IsI w g s p l c z) (hb : Below w.heap.size w w') : IsI w' g s p l c z := ⟨h.1, h.2.mono hb⟩
def INum (w : World) (v : Value) (z : Int) : Prop := ∃ g s p l c, v = .agg #[.bool g, .int .u64 s, .slice p l c] ∧ IsI w g s p l c z
theorem INum.mono {w w' : World} {v : Value} {z : Int} (h : INum w v z) (hb : Below w.heap.size w w') : INum w' v z := by
  obtain ⟨g, s, p, l, c, h1, h2⟩ := h
  exact ⟨g, s, p, l, c, h1, h2.mono hb⟩
def IsRI (w : World) (g : Bool) (p : Option Addr) (l c : Nat) (z : Int) : Prop := g = decide (z < 0) ∧ IsR w p l c z.natAbs
theorem IsRI.mono {w w' : World} {g : Bool} {p : Option Addr} {l c : Nat} {z : Int} (h : IsRI w g p l c z) (hb : Below w.heap.size w w') : IsRI w' g p l c z := ⟨h.1, h.2.mono hb⟩
def RINum (w : World) (v : Value) (z : Int) : Prop := ∃ g p l c, v = .agg #[.bool g, .slice p l c] ∧ IsRI w g p l c z
theorem RINum.mono {w w' : World} {v : Value} {z : Int} (h : RINum w v z) (hb : Below w.heap.size w w') : RINum w' v z := by
  obtain ⟨g, p, l, c, h1, h2⟩ := h
  exact ⟨g, p, l, c, h1, h2.mono hb⟩

inductive Want where
  | is (v : Value)
  | num (n : Nat)
  | rnum (n : Nat)
  | row (k : IntKind) (xs : List Nat)
  | two (x y : Want)
  | three (x y z : Want)
  | newbox (base : Nat)
  | wrow (l n : Nat)
  | int (z : Int)
  | rint (z : Int)
  | that (p : Stable)
  | any

/-- A block of its own for one of the program's numbers, 0 as yet. -/
def NewBox (base : Nat) (w : World) (v : Value) : Prop := ∃ b, v = .pointer (some ⟨b, 0, none⟩) ∧ base ≤ b ∧ w.cell? ⟨b, 0, none⟩ = some (.int .u64 0) ∧ w.cell? ⟨b, 1, none⟩ = some (.slice none 0 0) ∧ w.frozen? ⟨b, 0, none⟩ = false ∧ w.frozen? ⟨b, 1, none⟩ = false

def Means (w : World) : Want → Value → Prop
  | .is x, v => v = x
  | .num n, v => Num w v n
  | .rnum n, v => RNum w v n
  | .row k xs, v => RowOf w v k xs
  | .two x y, v => ∃ a b, v = .tuple #[a, b] ∧ Means w x a ∧ Means w y b
  | .three x y z, v => ∃ a b c, v = .tuple #[a, b, c] ∧ Means w x a ∧ Means w y b ∧ Means w z c
  | .newbox base, v => NewBox base w v
  | .wrow l n, v => WRow w v l n
  | .int z, v => INum w v z
  | .rint z, v => RINum w v z
  | .that p, v => p.says w v
  | .any, _ => True

theorem Means.mono {w w' : World} {x : Want} {v : Value} (h : Means w x v) (hb : Below w.heap.size w w') : Means w' x v := by
  induction x generalizing v with
  | is x => exact h
  | num n => exact Num.mono h hb
  | rnum n => exact RNum.mono h hb
  | row k xs => exact RowOf.mono h hb
  | two x y hx hy =>
    obtain ⟨a, b, h1, h2, h3⟩ := h
    exact ⟨a, b, h1, hx h2, hy h3⟩
  | three x y z hx hy hz =>
    obtain ⟨a, b, c, h1, h2, h3, h4⟩ := h
    exact ⟨a, b, c, h1, hx h2, hy h3, hz h4⟩
  | newbox base =>
    obtain ⟨b, h1, h2, h3, h4, h5, h6⟩ := h
    exact ⟨b, h1, h2, wcell hb h3, wcell hb h4, wfree hb h3 h5, wfree hb h4 h6⟩
  | wrow l n => exact WRow.mono h hb
  | int z => exact INum.mono h hb
  | rint z => exact RINum.mono h hb
  | that p => exact p.mono _ _ _ hb h
  | any => trivial

/-- What a table says of operation number i. -/
def Tab (t : List Want) (off : Nat) (i : Nat) (v : Value) (w : World) : Prop := Means w (t.getD (i - off) .any) v
theorem Tab.stable {t : List Want} {off : Nat} : ∀ i v w w', Below w.heap.size w w' → Tab t off i v w → Tab t off i v w' := fun _ _ _ _ hb h => Means.mono h hb

end Go.Proofs.YtciohlbpjaighaaDoor
