/- Rows of integers: as values, in boxes. -/
import Derived.Test.YtfjjmhbffbhhdaaDoorReg
import Derived.Test.YtfjjmhbffbhhdaaDoorQNum
import Derived.Test.YtfjjmhbffbhhdaaDoorIntWant
import Derived.Test.YtfjjmhbffbhhdaaDoorDivN
namespace Go.Proofs.YtfjjmhbffbhhdaaDoor
open Go.RowKit

def IsInts (w : World) : List Int → List Value → Prop
  | [], cs => cs = []
  | z :: zs, cs => ∃ g s p l c cs', cs = .bool g :: .int .u64 s :: .slice p l c :: cs' ∧ IsI w g s p l c z ∧ IsInts w zs cs'
theorem IsInts.mono {w w' : World} (hb : Below w.heap.size w w') : ∀ {zs : List Int} {cs : List Value}, IsInts w zs cs → IsInts w' zs cs
  | [], _, h => h
  | _ :: _, _, ⟨g, s, p, l, c, cs', h1, h2, h3⟩ => ⟨g, s, p, l, c, cs', h1, h2.mono hb, IsInts.mono hb h3⟩
theorem IsInts.stored {w w' : World} {b : Nat} {k : BK} {u x : Value} (hb : BoxHas w b k u) (hs : Stored w w' b k x) : ∀ {zs : List Int} {cs : List Value}, IsInts w zs cs → IsInts w' zs cs
  | [], _, h => h
  | _ :: _, _, ⟨g, s, p, l, c, cs', h1, h2, h3⟩ => ⟨g, s, p, l, c, cs', h1, ⟨h2.1, h2.2.stored hb hs⟩, IsInts.stored hb hs h3⟩
def ints (zs : List Int) : Stable where
  says w v := ∃ cs, v = .agg cs.toArray ∧ IsInts w zs cs
  mono := by
    rintro w w' v hb ⟨cs, h1, h2⟩
    exact ⟨cs, h1, IsInts.mono hb h2⟩
  stored := by
    rintro w w' v b k u x hb hs ⟨cs, h1, h2⟩
    exact ⟨cs, h1, IsInts.stored hb hs h2⟩

theorem BoxHas.cell {w : World} {b : Nat} {k : BK} {cs : List Value} (h : BoxHas w b k (.agg cs.toArray)) (i : Nat) (x : Value) (hx : cs[i]? = some x) : w.cell? ⟨b, i, none⟩ = some x := by
  obtain ⟨cs', he, _, h3⟩ := h
  injection he with he
  have : cs = cs' := by simpa using he
  subst this
  exact h3 i x hx

end Go.Proofs.YtfjjmhbffbhhdaaDoor
