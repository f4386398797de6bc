/- What an open statement over bytes yields, operation by operation. -/
import Derived.Test.YtdmoiagliflecaaInv
import Derived.Test.YtdmoiagliflecaaO9
namespace Go.Proofs.Ytdmoiagliflecaa
open Go.RowKit

inductive OWant where
  | any
  | is (v : Value)
  | row (xs : List Nat)
  | str (xs : List Nat)
  | made
def OMeans (w : World) : OWant → Value → Prop
  | .any, _ => True
  | .is u, v => v = u
  | .row xs, v => ∃ b off c, v = .slice (some ⟨b, off, none⟩) xs.length c ∧ At w .u8 b off xs
  | .str xs, v => ∃ p l c, v = .slice p l c ∧ IsS w p l c xs
  | .made, v => ∃ g, v = .slice (some ⟨g, 0, none⟩) 0 0 ∧ w.heap[g]? = some (.cells #[] 5 (0, 0))
theorem OMeans.mono {w w' : World} {x : OWant} {v : Value} (h : OMeans w x v) (hb : Below w.heap.size w w') : OMeans w' x v := by
  cases x with
  | any => trivial
  | is u => exact h
  | row xs => obtain ⟨b, off, c, h1, h2⟩ := h; exact ⟨b, off, c, h1, h2.mono hb⟩
  | str xs => obtain ⟨p, l, c, h1, h2⟩ := h; exact ⟨p, l, c, h1, h2.mono hb⟩
  | made => obtain ⟨g, h1, h2⟩ := h; exact ⟨g, h1, (hb.block g (Array.getElem?_eq_some_iff.1 h2).1).trans h2⟩
def OTab (t : List OWant) (off : Nat) (i : Nat) (v : Value) (w : World) : Prop := OMeans w (t.getD (i - off) .any) v
theorem OTab.stable {t : List OWant} {off : Nat} : ∀ i v w w', Below w.heap.size w w' → OTab t off i v w → OTab t off i v w' := fun _ _ _ _ hb h => OMeans.mono h hb

theorem ocell {W w1 : World} (hb : Below W.heap.size W w1) {a : Addr} {v : Value} (h : W.cell? a = some v) : w1.cell? a = some v := by
  rw [hb.cell (World.block_lt_of_cell? _ _ h)]; exact h
theorem IsB.of_at {w : World} {b off l c : Nat} {bs : List Nat} (h : At w .u8 b off bs) (hl : bs.length = l) (hlc : l ≤ c) (ht : ∀ x ∈ bs, x < 256) : IsB w (some ⟨b, off, none⟩) l c bs :=
  ⟨hl, ht, Or.inr ⟨b, off, none, rfl, hlc, fun i hi => by rw [Go.WideShapes.add_plain]; exact h i hi⟩⟩
theorem RetC.isS {W w' : World} {bs : List Nat} {e : Ending} (h : RetC W bs e w') (ht : ∀ x ∈ bs, x < 256) : ∃ v, e = .returned v ∧ (∃ p l c, v = .slice p l c ∧ IsS w' p l c bs) ∧ Below W.heap.size W w' := by
  obtain ⟨⟨rfl, rfl⟩ | ⟨g, h1, rfl, h2, h3, h4⟩, hb⟩ := h
  · exact ⟨_, rfl, ⟨none, 0, 0, rfl, rfl, ht, Or.inl ⟨rfl, rfl, rfl⟩⟩, hb⟩
  · exact ⟨_, rfl, ⟨_, _, _, rfl, rfl, ht, Or.inr ⟨g, 0, rfl, Nat.le_refl _, h3⟩⟩, hb⟩
end Go.Proofs.Ytdmoiagliflecaa
