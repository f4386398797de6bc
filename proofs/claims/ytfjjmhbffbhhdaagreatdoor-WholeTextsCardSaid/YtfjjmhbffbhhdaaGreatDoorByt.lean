/- Rows of bytes and quadruples, through stores to boxes; a raw number as a place in a slice, the same in every world. -/
import Derived.Test.YtfjjmhbffbhhdaaGreatDoorRIntDiv
import Derived.Test.YtfjjmhbffbhhdaaGreatDoorShiftS
import Derived.Lib.Hide
namespace Go.Proofs.YtfjjmhbffbhhdaaGreatDoor
open Go.RowKit

theorem setAll_far {b : Nat} {a : Addr} : ∀ (w : World) (i : Nat) (vs : List Value), (∀ j, j < vs.length → (⟨b, i + j, none⟩ : Addr) ≠ a) → (setAll w b i vs).cell? a = w.cell? a
  | _, _, [], _ => rfl
  | w, i, v :: vs, h => by
    rw [setAll, setAll_far _ _ _ (fun j hj => by have := h (j + 1) (by simp; omega); rwa [show i + (j + 1) = i + 1 + j by omega] at this)]
    exact World.cell?_setCell_other _ _ _ _ (h 0 (by simp))
theorem u8_stored {w w' : World} {b : Nat} {k : BK} {u v : Value} (hb : BoxHas w b k u) (hs : Stored w w' b k v) {a : Addr} {x : Int} (h : w.cell? a = some (.int .u8 x)) : w'.cell? a = some (.int .u8 x) := by
  obtain ⟨cs, rfl, hfit, rfl⟩ := hs
  rw [setAll_far]
  · exact h
  · intro j hj e
    subst e
    rw [Nat.zero_add] at h
    have hl := hfit.length
    obtain ⟨t, ht⟩ : ∃ t, k.shape[j]? = some t := ⟨_, List.getElem?_eq_getElem (by omega)⟩
    obtain ⟨y, hy, hok⟩ := hb.cellAt ht
    rw [h] at hy
    injection hy with hy
    subst hy
    cases t <;> simp [CT.ok] at hok
theorem IsB.stored {w w' : World} {b : Nat} {k : BK} {u v : Value} {p : Option Addr} {l c : Nat} {bs : List Nat} (h : IsB w p l c bs) (hb : BoxHas w b k u) (hs : Stored w w' b k v) : IsB w' p l c bs := by
  obtain ⟨h1, h2, h3 | ⟨b', off, sp, h3, h4, h5⟩⟩ := h
  · exact ⟨h1, h2, Or.inl h3⟩
  · exact ⟨h1, h2, Or.inr ⟨b', off, sp, h3, h4, fun i hi => u8_stored hb hs (h5 i hi)⟩⟩
def fourS (A B C D : Want) (h : (A.safe && B.safe && C.safe && D.safe) = true) : Stable where
  says w v := ∃ a b c d, v = .tuple #[a, b, c, d] ∧ Means w A a ∧ Means w B b ∧ Means w C c ∧ Means w D d
  mono _ _ _ hb := fun ⟨a, b, c, d, e, h1, h2, h3, h4⟩ => ⟨a, b, c, d, e, h1.mono hb, h2.mono hb, h3.mono hb, h4.mono hb⟩
  stored _ _ _ _ _ _ _ hb hs := fun ⟨a, b, c, d, e, h1, h2, h3, h4⟩ => by
    simp only [Bool.and_eq_true] at h
    exact ⟨a, b, c, d, e, h1.stored h.1.1.1 hb hs, h2.stored h.1.1.2 hb hs, h3.stored h.1.2 hb hs, h4.stored h.2 hb hs⟩
section
variable {P : Program} {E : Operand → Value} {w : World} {d : Option Tmp} {ty : TypeId} {pos : String} {af : Array Edge} {gd : Option (Nat × Bool)} {x : Operand} {X Y Z T : Want} {hs : (X.safe && Y.safe && Z.safe && T.safe) = true}
theorem ev_ex40 (h : Means w (.that (fourS X Y Z T hs)) (E x)) : Does P ⟨d, .extract x 0, ty, pos, af, gd⟩ E w fun v' w' => Means w' X v' ∧ Below w.heap.size w w' := by
  obtain ⟨a, b, c, d, e, h1, h2, h3, h4⟩ := h
  exact Does.value (v := a) (w' := w) (by go_simp) ⟨h1, Below.refl _ _⟩
theorem ev_ex41 (h : Means w (.that (fourS X Y Z T hs)) (E x)) : Does P ⟨d, .extract x 1, ty, pos, af, gd⟩ E w fun v' w' => Means w' Y v' ∧ Below w.heap.size w w' := by
  obtain ⟨a, b, c, d, e, h1, h2, h3, h4⟩ := h
  exact Does.value (v := b) (w' := w) (by go_simp) ⟨h2, Below.refl _ _⟩
theorem ev_ex42 (h : Means w (.that (fourS X Y Z T hs)) (E x)) : Does P ⟨d, .extract x 2, ty, pos, af, gd⟩ E w fun v' w' => Means w' Z v' ∧ Below w.heap.size w w' := by
  obtain ⟨a, b, c, d, e, h1, h2, h3, h4⟩ := h
  exact Does.value (v := c) (w' := w) (by go_simp) ⟨h3, Below.refl _ _⟩
theorem ev_ex43 (h : Means w (.that (fourS X Y Z T hs)) (E x)) : Does P ⟨d, .extract x 3, ty, pos, af, gd⟩ E w fun v' w' => Means w' T v' ∧ Below w.heap.size w w' := by
  obtain ⟨a, b, c, d, e, h1, h2, h3, h4⟩ := h
  exact Does.value (v := d) (w' := w) (by go_simp) ⟨h4, Below.refl _ _⟩
end

end Go.Proofs.YtfjjmhbffbhhdaaGreatDoor
