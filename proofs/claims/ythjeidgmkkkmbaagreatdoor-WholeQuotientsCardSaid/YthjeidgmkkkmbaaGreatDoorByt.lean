/- Rows of bytes and quadruples, through stores to boxes; a raw number as a place in a slice, the same in every world. -/
import Derived.Test.YthjeidgmkkkmbaaGreatDoorRIntDiv
import Derived.Test.YthjeidgmkkkmbaaGreatDoorCut
namespace Go.Proofs.YthjeidgmkkkmbaaGreatDoor
open Go.RowKit

theorem setAll_far {b : Nat} {a : Addr} : ∀ (w : World) (i : Nat) (vs : List Value), (∀ j, j < vs.length → (⟨b, i + j, none⟩ : Addr) ≠ a) → (setAll w b i vs).cell? a = w.cell? a
  | _, _, [], _ => rfl
  | w, i, v :: vs, h => by
    rw [setAll, setAll_far _ _ _ (fun j hj => by have := h (j + 1) (by simp; omega); rwa [show i + (j + 1) = i + 1 + j by omega] at this)]
    exact World.cell?_setCell_other _ _ _ _ (h 0 (by simp))
theorem u8_stored {w w' : World} {b : Nat} {k : BK} {u v : Value} (hb : BoxHas w b k u) (hs : Stored w w' b k v) {a : Addr} {x : Int} (h : w.cell? a = some (.int .u8 x)) : w'.cell? a = some (.int .u8 x) := by
  obtain ⟨cs, rfl, hfit, rfl⟩ := hs
  rw [setAll_far]
  · exact h
  · intro j hj e
    subst e
    rw [Nat.zero_add] at h
    have hl := hfit.length
    obtain ⟨t, ht⟩ : ∃ t, k.shape[j]? = some t := ⟨_, List.getElem?_eq_getElem (by omega)⟩
    obtain ⟨y, hy, hok⟩ := hb.cellAt ht
    rw [h] at hy
    injection hy with hy
    subst hy
    cases t <;> simp [CT.ok] at hok
theorem IsB.stored {w w' : World} {b : Nat} {k : BK} {u v : Value} {p : Option Addr} {l c : Nat} {bs : List Nat} (h : IsB w p l c bs) (hb : BoxHas w b k u) (hs : Stored w w' b k v) : IsB w' p l c bs := by
  obtain ⟨h1, h2, h3 | ⟨b', off, sp, h3, h4, h5⟩⟩ := h
  · exact ⟨h1, h2, Or.inl h3⟩
  · exact ⟨h1, h2, Or.inr ⟨b', off, sp, h3, h4, fun i hi => u8_stored hb hs (h5 i hi)⟩⟩
/-- A slice of these bytes. -/
def bytesS (xs : List Nat) : Stable where
  says w v := ∃ p l c, v = .slice p l c ∧ IsB w p l c xs
  mono _ _ _ hb := fun ⟨p, l, c, h1, h2⟩ => ⟨p, l, c, h1, h2.mono hb⟩
  stored _ _ _ _ _ _ _ hb hs := fun ⟨p, l, c, h1, h2⟩ => ⟨p, l, c, h1, h2.stored hb hs⟩
/-- A row of bytes with a place in memory. -/
def rowS (xs : List Nat) : Stable where
  says w v := (∀ x ∈ xs, x < 256) ∧ RowOf w v .u8 xs
  mono _ _ _ hb := fun ⟨h0, h⟩ => ⟨h0, h.mono hb⟩
  stored _ _ _ _ _ _ _ hb hs := fun ⟨h0, b, off, c, h1, h2, h3⟩ => ⟨h0, b, off, c, h1, h2, fun i hi => u8_stored hb hs (h3 i hi)⟩
def fourS (A B C D : Want) (h : (A.safe && B.safe && C.safe && D.safe) = true) : Stable where
  says w v := ∃ a b c d, v = .tuple #[a, b, c, d] ∧ Means w A a ∧ Means w B b ∧ Means w C c ∧ Means w D d
  mono _ _ _ hb := fun ⟨a, b, c, d, e, h1, h2, h3, h4⟩ => ⟨a, b, c, d, e, h1.mono hb, h2.mono hb, h3.mono hb, h4.mono hb⟩
  stored _ _ _ _ _ _ _ hb hs := fun ⟨a, b, c, d, e, h1, h2, h3, h4⟩ => by
    simp only [Bool.and_eq_true] at h
    exact ⟨a, b, c, d, e, h1.stored h.1.1.1 hb hs, h2.stored h.1.1.2 hb hs, h3.stored h.1.2 hb hs, h4.stored h.2 hb hs⟩
section
variable {P : Program} {E : Operand → Value} {w : World} {d : Option Tmp} {ty : TypeId} {pos : String} {af : Array Edge} {gd : Option (Nat × Bool)} {x : Operand} {X Y Z T : Want} {hs : (X.safe && Y.safe && Z.safe && T.safe) = true}
theorem ev_ex40 (h : Means w (.that (fourS X Y Z T hs)) (E x)) : Does P ⟨d, .extract x 0, ty, pos, af, gd⟩ E w fun v' w' => Means w' X v' ∧ Below w.heap.size w w' := by
  obtain ⟨a, b, c, d, e, h1, h2, h3, h4⟩ := h
  exact Does.value (v := a) (w' := w) (by go_simp) ⟨h1, Below.refl _ _⟩
theorem ev_ex41 (h : Means w (.that (fourS X Y Z T hs)) (E x)) : Does P ⟨d, .extract x 1, ty, pos, af, gd⟩ E w fun v' w' => Means w' Y v' ∧ Below w.heap.size w w' := by
  obtain ⟨a, b, c, d, e, h1, h2, h3, h4⟩ := h
  exact Does.value (v := b) (w' := w) (by go_simp) ⟨h2, Below.refl _ _⟩
theorem ev_ex42 (h : Means w (.that (fourS X Y Z T hs)) (E x)) : Does P ⟨d, .extract x 2, ty, pos, af, gd⟩ E w fun v' w' => Means w' Z v' ∧ Below w.heap.size w w' := by
  obtain ⟨a, b, c, d, e, h1, h2, h3, h4⟩ := h
  exact Does.value (v := c) (w' := w) (by go_simp) ⟨h3, Below.refl _ _⟩
theorem ev_ex43 (h : Means w (.that (fourS X Y Z T hs)) (E x)) : Does P ⟨d, .extract x 3, ty, pos, af, gd⟩ E w fun v' w' => Means w' T v' ∧ Below w.heap.size w w' := by
  obtain ⟨a, b, c, d, e, h1, h2, h3, h4⟩ := h
  exact Does.value (v := d) (w' := w) (by go_simp) ⟨h4, Below.refl _ _⟩
end

theorem pick_cut2 (n : Int) (L : Nat) (h1 : -9223372036854775808 ≤ n) (h2 : n ≤ 9223372036854775807) (hL : L ≤ 9223372036854775807) : ∃ v : Nat, v ≤ L ∧ ∀ w, 
    Calls Tryz.prog 7 #[.int .i64 n, .int .i64 (IntKind.i64.wrap ((L : Int) + 1))] w fun e w' => ∃ u, e = .returned u ∧ u = .int .i64 (v : Int) ∧ Below w.heap.size w w' := by
  rcases Nat.lt_or_ge L 9223372036854775807 with hl | hl
  · have hw : IntKind.i64.wrap ((L : Int) + 1) = (L : Int) + 1 := by rw [IntKind.wrap_i64]; omega
    rw [hw]
    have hlt : n.tmod ((L : Int) + 1) < (L : Int) + 1 := Int.tmod_lt_of_pos n (by omega)
    have hgt : -((L : Int) + 1) < n.tmod ((L : Int) + 1) := by
      have := Int.tmod_lt_of_pos (-n) (show (0 : Int) < (L : Int) + 1 by omega)
      rw [Int.neg_tmod] at this
      omega
    obtain ⟨t, ht⟩ : ∃ t, n.tmod ((L : Int) + 1) = t := ⟨_, rfl⟩
    rw [ht] at hlt hgt
    have wt : IntKind.i64.wrap t = t := by rw [IntKind.wrap_i64]; omega
    obtain ⟨v, hv⟩ : ∃ v : Nat, (v : Int) = if t < 0 then IntKind.i64.wrap (t + ((L : Int) + 1)) else t := by
      rw [IntKind.wrap_i64]
      split
      · exact ⟨(t + ((L : Int) + 1)).toNat, by omega⟩
      · exact ⟨t.toNat, by omega⟩
    refine ⟨v, ?_, fun w => (pick_of n ((L : Int) + 1) t v w (by omega) ht wt hv).mono fun e w' h => ⟨_, h.2, rfl, by rw [h.1]; exact Below.refl _ _⟩⟩
    rw [IntKind.wrap_i64] at hv
    split at hv <;> omega
  · obtain rfl : L = 9223372036854775807 := by omega
    have hw : IntKind.i64.wrap (((9223372036854775807 : Nat) : Int) + 1) = -9223372036854775808 := by rw [IntKind.wrap_i64]; omega
    rw [hw]
    obtain ⟨t, ht⟩ : ∃ t, n.tmod (-9223372036854775808) = t := ⟨_, rfl⟩
    have htv : t = if n = -9223372036854775808 then 0 else n := by
      rw [← ht, Int.tmod_neg]
      split
      · rename_i h; subst h; decide
      · rcases Int.lt_or_le n 0 with h | h
        · have h3 : (-n).tmod 9223372036854775808 = -n := Int.tmod_eq_of_lt (by omega) (by omega)
          rw [Int.neg_tmod] at h3
          omega
        · exact Int.tmod_eq_of_lt h (by omega)
    have wt : IntKind.i64.wrap t = t := by rw [IntKind.wrap_i64]; split at htv <;> omega
    obtain ⟨v, hv⟩ : ∃ v : Nat, (v : Int) = if t < 0 then IntKind.i64.wrap (t + -9223372036854775808) else t := by
      rw [IntKind.wrap_i64]
      split
      · exact ⟨((t + -9223372036854775808 + 9223372036854775808) % 18446744073709551616 - 9223372036854775808).toNat, by split at htv <;> omega⟩
      · exact ⟨t.toNat, by omega⟩
    refine ⟨v, ?_, fun w => (pick_of n (-9223372036854775808) t v w (by decide) ht wt hv).mono fun e w' h => ⟨_, h.2, rfl, by rw [h.1]; exact Below.refl _ _⟩⟩
    rw [IntKind.wrap_i64] at hv
    split at hv <;> split at htv <;> omega
/-- The laws' 'two' of integers. -/
theorem two2_want (w : World) (u v : Value) (bs cs : List Nat) (f g : Bool) (x y : Int) (hx : sgn f (nb (bs.take 40)) = x) (hy : sgn g (nb (cs.take 40)) = y) (h1 : Means w (.that (bytesS bs)) u) (h2 : Means w (.that (bytesS cs)) v) :
    Calls Tryz.prog 6 #[u, v, .bool f, .bool g] w (Gives w (.that (fourS (.int x) (.int y) (.rint x) (.rint y) rfl))) := by
  obtain ⟨p, l, c, rfl, h1⟩ := h1
  obtain ⟨q, k, d, rfl, h2⟩ := h2
  subst hx; subst hy
  exact (two2_any p q l c k d bs cs f g w h1 h2).mono fun _ _ ⟨_, _, _, _, _, _, _, _, _, _, _, _, _, _, _, _, _, _, h, a, b, c, d, hb⟩ => ⟨_, h, ⟨_, _, _, _, rfl, ⟨_, _, _, _, _, rfl, a⟩, ⟨_, _, _, _, _, rfl, b⟩, ⟨_, _, _, _, rfl, c⟩, ⟨_, _, _, _, rfl, d⟩⟩, hb⟩
theorem few_want (w : World) (u : Value) (bs : List Nat) (n : Nat) (hn : n ≤ 1000000000) (h : Means w (.that (bytesS bs)) u) :
    Calls Tryz.prog 15 #[u, .int .i64 (n : Int)] w (Gives w (.that (rowS (bs.take n)))) := by
  obtain ⟨p, l, c, rfl, h⟩ := h
  exact (few_any p l c n bs w hn h).mono fun _ _ ⟨b, off, c, h1, h2, _, h3, _, hb⟩ => ⟨_, h1, ⟨fun x hx => h.2.1 x (List.mem_of_mem_take hx), b, off, c, rfl, h2, h3⟩, hb⟩
theorem rFrom_want (w : World) (u : Value) (bs : List Nat) (n : Nat) (hn : nb bs = n) (hl : bs.length ≤ 1000000) (h : Means w (.that (rowS bs)) u) :
    Calls Tryz.prog 14 #[u] w (Gives w (.rnum n)) := by
  obtain ⟨h0, b, off, c, rfl, h1, h2⟩ := h
  subst hn
  exact (rFrom_any b off c _ bs w rfl hl h2 h0).mono fun _ _ h => h.want
theorem hInt_want (w : World) (u : Value) (z : Int) (hz : (ds z.natAbs).length ≤ 60) (h : RINum w u z) : Calls Tryz.prog 17 #[u] w (Gives w (.int z)) := by
  obtain ⟨g, p, l, c, rfl, h⟩ := h
  exact (hInt_any z g p l c w hz h).mono fun _ _ h => h.want
theorem rCmp_gives (w : World) (u v : Value) (m n : Nat) (k : Int) (hk : cmp3 m n = k) (hm : (ds m).length ≤ 1000) (h1 : RNum w u m) (h2 : RNum w v n) :
    Calls Tryz.prog 20 #[u, v] w (Gives w (.is (.int .i64 k))) := by
  obtain ⟨p, l, c, rfl, h1⟩ := h1
  obtain ⟨q, k', d, rfl, h2⟩ := h2
  have := h1.short hm
  refine (rCmp_any p q l k' c d m n w (by omega) h1 h2).mono fun _ _ h => ?_
  unfold RetC at h
  rw [hk] at h
  exact ⟨_, h.1, rfl, h.2⟩
theorem iDivNone_want (w : World) (u v : Value) (x : Int) (h1 : INum w u x) (h2 : INum w v 0) : Calls Tryz.prog 8 #[u, v] w (Gives w (.three (.int 0) (.int 0) (.is (.bool false)))) := by
  obtain ⟨g, s, p, l, c, rfl, h1⟩ := h1
  obtain ⟨f, t, q, k, d, rfl, h2⟩ := h2
  exact (iDiv_none x g f s t p q l c k d w h1 h2).mono fun _ _ ⟨_, _, _, _, _, _, _, _, _, _, h, a, b, hb⟩ => ⟨_, h, ⟨_, _, _, rfl, ⟨_, _, _, _, _, rfl, a⟩, ⟨_, _, _, _, _, rfl, b⟩, rfl⟩, hb⟩
end Go.Proofs.YthjeidgmkkkmbaaGreatDoor
