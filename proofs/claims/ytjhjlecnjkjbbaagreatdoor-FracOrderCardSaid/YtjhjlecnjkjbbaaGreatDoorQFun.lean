/- The greatest divisor of an integer and 0, and how it is made of them; of any two integers. -/
import Derived.Test.YtjhjlecnjkjbbaaGreatDoorBez
import Derived.Test.YtjhjlecnjkjbbaaGreatDoorGcd
import Derived.Test.YtjhjlecnjkjbbaaGreatDoorLaw2
import Derived.Test.YtjhjlecnjkjbbaaGreatDoorQNum
import Derived.Test.YtjhjlecnjkjbbaaGreatDoorFrm
import Derived.Test.YtjhjlecnjkjbbaaGreatDoorDivN
namespace Go.Proofs.YtjhjlecnjkjbbaaGreatDoor
open Go.RowKit

end Go.Proofs.YtjhjlecnjkjbbaaGreatDoor

/- What the law of Bezout's factors rests on. -/
namespace Go.Proofs.YtjhjlecnjkjbbaaGreatDoor
open Go.RowKit

theorem sized_of {m : Nat} (h : (ds m).length ≤ 100) : Sized m := by
  intro k hk
  have h1 := ds_mono hk
  have h2 := bitLen_ds k
  have h3 := bitLen_lt_pow.1 (getD_lt (ds_lt k) (by omega) ((ds k).length - 1))
  exact ⟨by omega, by omega⟩
theorem iGcd_val (w : World) (u v : Value) (x y : Int) (n : Nat) (hn : Nat.gcd x.natAbs y.natAbs = n) (hx : (ds x.natAbs).length ≤ 40) (hy : (ds y.natAbs).length ≤ 40) (hT : Tab64 w) (h1 : INum w u x) (h2 : INum w v y) :
    Calls Tryz.prog 26 #[u, v] w fun e w' => ∃ v', e = .returned v' ∧ Num w' v' n ∧ Below w.heap.size w w' := by
  obtain ⟨g, s, p, l, c, rfl, h1⟩ := h1
  obtain ⟨f, t, q, k, d, rfl, h2⟩ := h2
  subst hn
  exact (gcd_any (x.natAbs + y.natAbs) x.natAbs y.natAbs g f s t p q l c k d w (sized_of (by have := ds_add x.natAbs y.natAbs; omega)) (by omega) (by omega) h1.2 h2.2 hT).mono fun e w' ⟨s, p, l, c, h, hi, hb⟩ => ⟨_, h, ⟨s, p, l, c, rfl, hi⟩, hb⟩
theorem iFrom_val (w : World) (u : Value) (n : Nat) (h : Num w u n) : Calls Tryz.prog 28 #[.bool false, u] w fun e w' => ∃ v', e = .returned v' ∧ INum w' v' (n : Int) ∧ Below w.heap.size w w' :=
  iFrom_want w u false n h
theorem nText_one (w : World) (u : Value) (h : Num w u 1) : Calls Tryz.prog 30 #[u] w fun e w' => ∃ v', e = .returned v' ∧ v' = .string ⟨#[49]⟩ ∧ Below w.heap.size w w' := by
  obtain ⟨s, p, l, c, rfl, ⟨_, h2, h3, h4, h5⟩ | ⟨h, _⟩⟩ := h
  · subst h2 h3 h4 h5
    exact (text_short 1 _ w small_1).mono fun e w' ⟨h, hb⟩ => ⟨_, h, rfl, hb⟩
  · omega
theorem run_iGcd : RowKit.Hid (∀ (a : Array Value) (w : World), Sem.run Tryz.prog (callFunc 26 a) w = .ok (.enter 26 a) w) := fun a w => by go_simp
theorem run_iFrom : RowKit.Hid (∀ (a : Array Value) (w : World), Sem.run Tryz.prog (callFunc 28 a) w = .ok (.enter 28 a) w) := fun a w => by go_simp
theorem run_nText : RowKit.Hid (∀ (a : Array Value) (w : World), Sem.run Tryz.prog (callFunc 30 a) w = .ok (.enter 30 a) w) := fun a w => by go_simp
end Go.Proofs.YtjhjlecnjkjbbaaGreatDoor

/- The program's fractions: their records, boxes of them, single operations on them. -/
namespace Go.Proofs.YtjhjlecnjkjbbaaGreatDoor
open Go.RowKit

def dn (x : Rat) : Nat := if x.den = 1 then 0 else x.den
theorem dn_zero {x : Rat} : dn x = 0 ↔ x.den = 1 := by
  unfold dn
  have := x.den_pos
  split <;> omega
theorem dn_den {x : Rat} (h : x.den ≠ 1) : dn x = x.den := by unfold dn; rw [if_neg h]
theorem dn_one {x : Rat} (h : x.den = 1) : dn x = 0 := dn_zero.2 h
theorem dn_inj {x y : Rat} : dn x = dn y ↔ x.den = y.den := by
  unfold dn
  have := x.den_pos; have := y.den_pos
  split <;> split <;> omega
theorem dn_le (x : Rat) : dn x ≤ x.den := by unfold dn; split <;> omega
def IsQ (w : World) (g : Bool) (s : Int) (p : Option Addr) (l c : Nat) (t : Int) (q : Option Addr) (k d : Nat) (x : Rat) : Prop := IsI w g s p l c x.num ∧ IsN w t q k d (dn x)
theorem IsI.kept {w w' : World} {b : Nat} {k : BK} {u v : Value} {g : Bool} {s : Int} {p : Option Addr} {l c : Nat} {z : Int} (h : IsI w g s p l c z) (hb : BoxHas w b k u) (hs : Stored w w' b k v) : IsI w' g s p l c z := ⟨h.1, h.2.stored hb hs⟩
def fracS (x : Rat) : Stable where
  says w v := ∃ g s p l c t q k d, v = .agg #[.bool g, .int .u64 s, .slice p l c, .int .u64 t, .slice q k d] ∧ IsQ w g s p l c t q k d x
  mono _ _ _ hb := fun ⟨g, s, p, l, c, t, q, k, d, h, h1, h2⟩ => ⟨g, s, p, l, c, t, q, k, d, h, h1.mono hb, h2.mono hb⟩
  stored _ _ _ _ _ _ _ hb hs := fun ⟨g, s, p, l, c, t, q, k, d, h, h1, h2⟩ => ⟨g, s, p, l, c, t, q, k, d, h, h1.kept hb hs, h2.stored hb hs⟩
theorem fracS_zero {w : World} : Means w (.that (fracS 0)) (.agg #[.bool false, .int .u64 0, .slice none 0 0, .int .u64 0, .slice none 0 0]) :=
  ⟨_, _, _, _, _, _, _, _, _, rfl, ⟨rfl, Or.inl ⟨by show (0 : Nat) < 2 ^ 64; omega, rfl, rfl, rfl, rfl⟩⟩, Or.inl ⟨by show (0 : Nat) < 2 ^ 64; omega, rfl, rfl, rfl, rfl⟩⟩
theorem BoxHas.frac {w : World} {b : Nat} {v : Value} (h : BoxHas w b .frac v) : ∃ g s p l c t q k d, v = .agg #[.bool g, .int .u64 s, .slice p l c, .int .u64 t, .slice q k d] ∧ w.cell? ⟨b, 0, none⟩ = some (.bool g) ∧ w.cell? ⟨b, 1, none⟩ = some (.int .u64 s) ∧ w.cell? ⟨b, 2, none⟩ = some (.slice p l c) ∧ w.cell? ⟨b, 3, none⟩ = some (.int .u64 t) ∧ w.cell? ⟨b, 4, none⟩ = some (.slice q k d) := by
  obtain ⟨cs, rfl, hf, hc⟩ := h
  match cs, hf with
  | [a, b', c', d', e'], hf =>
    obtain ⟨⟨g, rfl⟩, ⟨s, rfl⟩, ⟨p, l, c, rfl⟩, ⟨t, rfl⟩, ⟨q, k, d, rfl⟩, -⟩ := hf
    exact ⟨_, _, _, _, _, _, _, _, _, rfl, hc 0 _ rfl, hc 1 _ rfl, hc 2 _ rfl, hc 3 _ rfl, hc 4 _ rfl⟩
theorem Stored.mkFrac {w : World} {b : Nat} {g : Bool} {s : Int} {p : Option Addr} {l c : Nat} {t : Int} {q : Option Addr} {k d : Nat} :
    Stored w (((((w.setCell ⟨b, 0, none⟩ (.bool g)).setCell ⟨b, 1, none⟩ (.int .u64 s)).setCell ⟨b, 2, none⟩ (.slice p l c)).setCell ⟨b, 3, none⟩ (.int .u64 t)).setCell ⟨b, 4, none⟩ (.slice q k d)) b .frac (.agg #[.bool g, .int .u64 s, .slice p l c, .int .u64 t, .slice q k d]) :=
  ⟨[_, _, _, _, _], rfl, ⟨⟨_, rfl⟩, ⟨_, rfl⟩, ⟨_, _, _, rfl⟩, ⟨_, rfl⟩, ⟨_, _, _, rfl⟩, trivial⟩, rfl⟩
section
variable {P : Program} {E : Operand → Value} {w : World} {d : Option Tmp} {ty : TypeId} {pos : String} {af : Array Edge} {gd : Option (Nat × Bool)}
set_option maxRecDepth 100000 in
theorem ev_faQ0 {x : Operand} {b : Nat} (h : E x = .pointer (some ⟨b, 0, none⟩)) : Does Tryz.prog ⟨d, .fieldAddr 39 x 0, ty, pos, af, gd⟩ E w fun v' w' => Means w' (.is (.pointer (some ⟨b, 0, none⟩))) v' ∧ Below w.heap.size w w' := by
  exact Does.value (v := .pointer (some ⟨b, 0, none⟩)) (w' := w) (by go_simp) ⟨rfl, Below.refl _ _⟩
set_option maxRecDepth 100000 in
theorem ev_faQ1 {x : Operand} {b : Nat} (h : E x = .pointer (some ⟨b, 0, none⟩)) : Does Tryz.prog ⟨d, .fieldAddr 39 x 1, ty, pos, af, gd⟩ E w fun v' w' => Means w' (.is (.pointer (some ⟨b, 3, none⟩))) v' ∧ Below w.heap.size w w' := by
  exact Does.value (v := .pointer (some ⟨b, 3, none⟩)) (w' := w) (by go_simp) ⟨rfl, Below.refl _ _⟩
theorem ev_ldQ {x : Operand} {b : Nat} {X : Want} (h : E x = .pointer (some ⟨b, 0, none⟩)) (hs : Says w b .frac X) : Does Tryz.prog ⟨d, .load 39 x, ty, pos, af, gd⟩ E w fun v' w' => Means w' X v' ∧ Below w.heap.size w w' := by
  obtain ⟨v, hb, hm⟩ := hs
  obtain ⟨g, s, p, l, c, t, q, k, d, rfl, q0, q1, q2, q3, q4⟩ := hb.frac
  exact Does.value (w' := w) (by go_simp) ⟨hm, Below.refl _ _⟩
theorem ev_ldQ0 {x : Operand} {b : Nat} {X : Rat} (h : E x = .pointer (some ⟨b, 0, none⟩)) (hs : Says w b .frac (.that (fracS X))) : Does Tryz.prog ⟨d, .load 37 x, ty, pos, af, gd⟩ E w fun v' w' => Means w' (.int X.num) v' ∧ Below w.heap.size w w' := by
  obtain ⟨v, hb, hm⟩ := hs
  obtain ⟨g, s, p, l, c, t, q, k, d, rfl, q0, q1, q2, q3, q4⟩ := hb.frac
  obtain ⟨_, _, _, _, _, _, _, _, _, e, h1, h2⟩ := hm
  cases e
  exact Does.value (v := .agg #[.bool g, .int .u64 s, .slice p l c]) (w' := w) (by go_simp) ⟨⟨_, _, _, _, _, rfl, h1⟩, Below.refl _ _⟩
theorem ev_ldQ3 {x : Operand} {b : Nat} {X : Rat} (h : E x = .pointer (some ⟨b, 3, none⟩)) (hs : Says w b .frac (.that (fracS X))) : Does Tryz.prog ⟨d, .load 35 x, ty, pos, af, gd⟩ E w fun v' w' => Means w' (.num (dn X)) v' ∧ Below w.heap.size w w' := by
  obtain ⟨v, hb, hm⟩ := hs
  obtain ⟨g, s, p, l, c, t, q, k, d, rfl, q0, q1, q2, q3, q4⟩ := hb.frac
  obtain ⟨_, _, _, _, _, _, _, _, _, e, h1, h2⟩ := hm
  cases e
  exact Does.value (v := .agg #[.int .u64 t, .slice q k d]) (w' := w) (by go_simp) ⟨⟨_, _, _, _, rfl, h2⟩, Below.refl _ _⟩
theorem ev_stQ {x y : Operand} {b : Nat} {z : Rat} (h : E x = .pointer (some ⟨b, 0, none⟩)) {X0 : Want} (hh : Holds w b .frac X0) (hm : Means w (.that (fracS z)) (E y)) : Does Tryz.prog ⟨none, .store 39 x y, ty, pos, af, gd⟩ E w fun _ w' => ∃ v, Stored w w' b .frac v ∧ Means w (.that (fracS z)) v := by
  obtain ⟨⟨u, hb, -⟩, hf⟩ := hh
  obtain ⟨g0, s0, p0, l0, c0, u0, v0, x0, y0, rfl, q0, q1, q2, q3, q4⟩ := hb.frac
  have t0 := hf 0 (by show 0 < 5; decide); have t1 := hf 1 (by show 1 < 5; decide); have t2 := hf 2 (by show 2 < 5; decide); have t3 := hf 3 (by show 3 < 5; decide); have t4 := hf 4 (by show 4 < 5; decide)
  obtain ⟨g, s, p, l, c, t, q, k, d, e2, hI⟩ := hm
  exact Does.skip (by go_simp) ⟨_, Stored.mkFrac (b := b), ⟨g, s, p, l, c, t, q, k, d, rfl, hI⟩⟩
set_option maxRecDepth 100000 in
theorem ev_alQ : Does Tryz.prog ⟨d, .alloc 39, ty, pos, af, gd⟩ E w fun v w' => v = .pointer (some ⟨w.heap.size, 0, none⟩) ∧ Below w.heap.size w w' ∧ w.heap.size < w'.heap.size ∧ BoxHas w' w.heap.size .frac (.agg #[.bool false, .int .u64 0, .slice none 0 0, .int .u64 0, .slice none 0 0]) ∧ BoxFree w' w.heap.size .frac :=
  Does.value (w' := w.alloc (.cells #[.bool false, .int .u64 0, .slice none 0 0, .int .u64 0, .slice none 0 0] 39)) (by go_simp) ⟨rfl, below_alloc (Below.refl _ _) _, by simp, BoxHas.made' w .frac [.bool false, .int .u64 0, .slice none 0 0, .int .u64 0, .slice none 0 0] 39 ⟨⟨_, rfl⟩, ⟨_, rfl⟩, ⟨_, _, _, rfl⟩, ⟨_, rfl⟩, ⟨_, _, _, rfl⟩, trivial⟩, BoxFree.made' w .frac _ _⟩
set_option maxRecDepth 100000 in
theorem ev_mkQ1 {x : Operand} {n : Int} {X : Rat} (hm : Means w (.int n) (E x)) (hn : X.num = n) (hd : X.den = 1) : Does Tryz.prog ⟨d, .build 39 #[(0, x)], ty, pos, af, gd⟩ E w fun v' w' => Means w' (.that (fracS X)) v' ∧ Below w.heap.size w w' := by
  obtain ⟨g, s, p, l, c, e, hI⟩ := hm
  subst hn
  exact Does.value (v := .agg #[.bool g, .int .u64 s, .slice p l c, .int .u64 0, .slice none 0 0]) (w' := w) (by go_simp) ⟨⟨_, _, _, _, _, _, _, _, _, rfl, hI, by rw [dn_one hd]; exact Or.inl ⟨by omega, rfl, rfl, rfl, rfl⟩⟩, Below.refl _ _⟩
set_option maxRecDepth 100000 in
theorem ev_mkQ2 {x y : Operand} {n : Int} {m : Nat} {X : Rat} (hm : Means w (.int n) (E x)) (hk : Means w (.num m) (E y)) (hn : X.num = n) (hd : dn X = m) : Does Tryz.prog ⟨d, .build 39 #[(0, x), (1, y)], ty, pos, af, gd⟩ E w fun v' w' => Means w' (.that (fracS X)) v' ∧ Below w.heap.size w w' := by
  obtain ⟨g, s, p, l, c, e, hI⟩ := hm
  obtain ⟨t, q, k, d, e', hJ⟩ := hk
  subst hn; subst hd
  exact Does.value (v := .agg #[.bool g, .int .u64 s, .slice p l c, .int .u64 t, .slice q k d]) (w' := w) (by go_simp) ⟨⟨_, _, _, _, _, _, _, _, _, rfl, hI, hJ⟩, Below.refl _ _⟩
end
theorem Frm.putQ {w W : World} {L : List Bx} {V : List (Value × Want)} (J : Hid (Frm w W L V)) {m : Nat} (hm : W.heap.size = m) {g : Bool} {s : Int} {p : Option Addr} {l c : Nat} {t : Int} {q : Option Addr} {k d : Nat} {X : Rat} (h : IsQ w g s p l c t q k d X) :
    ∃ W' b, W' = W.alloc (.cells #[.bool g, .int .u64 s, .slice p l c, .int .u64 t, .slice q k d] 39) ∧ b = m ∧ W'.heap.size = m + 1 ∧ Hid (Frm w W' (L ++ [⟨b, .frac, .that (fracS X)⟩]) V) :=
  Frm.put J hm (x := .that (fracS X)) (cs := [_, _, _, _, _]) _ ⟨⟨_, rfl⟩, ⟨_, rfl⟩, ⟨_, _, _, rfl⟩, ⟨_, rfl⟩, ⟨_, _, _, rfl⟩, trivial⟩ rfl (Means.mono (x := .that (fracS X)) ⟨_, _, _, _, _, _, _, _, _, rfl, h⟩ J.out.be)
theorem Frm.putQ0 {w W : World} {L : List Bx} {V : List (Value × Want)} (J : Hid (Frm w W L V)) {m : Nat} (hm : W.heap.size = m) :
    ∃ W' b, W' = W.alloc (.cells #[.bool false, .int .u64 0, .slice none 0 0, .int .u64 0, .slice none 0 0] 39) ∧ b = m ∧ W'.heap.size = m + 1 ∧ Hid (Frm w W' (L ++ [⟨b, .frac, .that (fracS 0)⟩]) V) :=
  Frm.put J hm (x := .that (fracS 0)) (cs := [_, _, _, _, _]) _ ⟨⟨_, rfl⟩, ⟨_, rfl⟩, ⟨_, _, _, rfl⟩, ⟨_, rfl⟩, ⟨_, _, _, rfl⟩, trivial⟩ rfl fracS_zero
end Go.Proofs.YtjhjlecnjkjbbaaGreatDoor

/- The small functions of package frac. -/
namespace Go.Proofs.YtjhjlecnjkjbbaaGreatDoor
open Go.RowKit

theorem run_Of : RowKit.Hid (∀ (a : Array Value) (w : World), Sem.run Tryz.prog (callFunc 34 a) w = .ok (.enter 34 a) w) := fun a w => by go_simp
theorem run_iDiv : RowKit.Hid (∀ (a : Array Value) (w : World), Sem.run Tryz.prog (callFunc 110 a) w = .ok (.enter 110 a) w) := fun a w => by go_simp
theorem run_nDiv : RowKit.Hid (∀ (a : Array Value) (w : World), Sem.run Tryz.prog (callFunc 74 a) w = .ok (.enter 74 a) w) := fun a w => by go_simp
theorem run_nSmall : RowKit.Hid (∀ (a : Array Value) (w : World), Sem.run Tryz.prog (callFunc 76 a) w = .ok (.enter 76 a) w) := fun a w => by go_simp
theorem run_qDivisor : RowKit.Hid (∀ (a : Array Value) (w : World), Sem.run Tryz.prog (callFunc 57 a) w = .ok (.enter 57 a) w) := fun a w => by go_simp
theorem run_qIsOne : RowKit.Hid (∀ (a : Array Value) (w : World), Sem.run Tryz.prog (callFunc 98 a) w = .ok (.enter 98 a) w) := fun a w => by go_simp
theorem run_qIsWhole : RowKit.Hid (∀ (a : Array Value) (w : World), Sem.run Tryz.prog (callFunc 53 a) w = .ok (.enter 53 a) w) := fun a w => by go_simp
theorem run_qIsZero : RowKit.Hid (∀ (a : Array Value) (w : World), Sem.run Tryz.prog (callFunc 89 a) w = .ok (.enter 89 a) w) := fun a w => by go_simp
theorem run_qPart : RowKit.Hid (∀ (a : Array Value) (w : World), Sem.run Tryz.prog (callFunc 59 a) w = .ok (.enter 59 a) w) := fun a w => by go_simp
theorem run_qPositive : RowKit.Hid (∀ (a : Array Value) (w : World), Sem.run Tryz.prog (callFunc 58 a) w = .ok (.enter 58 a) w) := fun a w => by go_simp
theorem ev_eqlU {E : Operand → Value} {w : World} {d : Option Tmp} {ty : TypeId} {pos : String} {af : Array Edge} {gd : Option (Nat × Bool)} {x y : Operand} {a b : Int} (h1 : E x = .int .u64 a) (h2 : E y = .int .u64 b) {v : Bool} (hv : (a == b) = v) : Does Tryz.prog ⟨d, .binOp .eql 32 x y 32, ty, pos, af, gd⟩ E w fun v' w' => v' = .bool v ∧ Below w.heap.size w w' :=
  Does.value (w' := w) (by go_simp) ⟨congrArg Value.bool hv, Below.refl _ _⟩
theorem small_lt (w : World) (u : Value) (n : Nat) (hn : n < 2 ^ 64) (h : Num w u n) : Calls Tryz.prog 76 #[u] w (Gives w (.two (.is (.int .u64 (n : Int))) (.is (.bool true)))) := by
  obtain ⟨s, p, l, c, rfl, h | h⟩ := h
  · obtain ⟨-, rfl, -, rfl, -⟩ := h
    exact (nsmall_any _ p 0 c w).mono fun _ _ ⟨h, hb⟩ => ⟨_, h, ⟨_, _, rfl, rfl, rfl⟩, hb⟩
  · omega
theorem small_ge (w : World) (u : Value) (n : Nat) (hn : 2 ^ 64 ≤ n) (h : Num w u n) : Calls Tryz.prog 76 #[u] w (Gives w (.two (.is (.int .u64 0)) (.is (.bool false)))) := by
  obtain ⟨s, p, l, c, rfl, h | h⟩ := h
  · omega
  · obtain ⟨-, rfl, -, -, -, hl, -⟩ := h
    have e : (((l : Nat) : Int) == 0) = false := beq_eq_false_iff_ne.2 (by have := ds_pos n; omega)
    have := nsmall_any 0 p l c w
    rw [e] at this
    exact this.mono fun _ _ ⟨h, hb⟩ => ⟨_, h, ⟨_, _, rfl, rfl, rfl⟩, hb⟩
theorem nDiv_gives (w : World) (u v : Value) (m n : Nat) (hm : (ds m).length ≤ 60) (hn : 0 < n) (h1 : Num w u m) (h2 : Num w v n) :
    Calls Tryz.prog 74 #[u, v] w (Gives w (.three (.num (m / n)) (.num (m % n)) (.is (.bool true)))) := by
  obtain ⟨s, p, l, c, rfl, h1⟩ := h1
  obtain ⟨t, q, k, d, rfl, h2⟩ := h2
  refine (div_any s t p q l c k d m n w (by omega) hn h1 h2).mono ?_
  rintro e w' ⟨s, p, l, c, t, q, k, d, rfl, h3, h4, hb⟩
  exact ⟨_, rfl, ⟨_, _, _, rfl, ⟨s, p, l, c, rfl, h3⟩, ⟨t, q, k, d, rfl, h4⟩, rfl⟩, hb⟩
theorem of_gives (n : Nat) (hn : n < 2 ^ 64) (w : World) : Calls Tryz.prog 34 #[.int .u64 (n : Int)] w (Gives w (.num n)) :=
  (of_any _ w).mono fun _ _ ⟨h, hb⟩ => ⟨_, h, ⟨_, _, _, _, rfl, Or.inl ⟨hn, rfl, rfl, rfl, rfl⟩⟩, hb⟩
set_option maxRecDepth 100000 in
set_option maxHeartbeats 4000000 in
theorem qIsZero_val (w : World) (u1 : Value) (n : Nat) (b : Bool) (hb : decide (n = 0) = b) (h1 : Means w (.num n) u1) :
    Calls Tryz.prog 89 #[u1] w (Gives w (.is (.bool b))) := by
  obtain ⟨s1, p1, l1, c1, rfl, h1⟩ := h1
  have H1 := Lib.hid h1; clear h1
  rcases Nat.lt_or_ge n (2 ^ 64) with hn | hn
  · skip
    have HN := Lib.hid hn; clear hn
    have HBV := Lib.hid hb
    have HE : Hid (((n : Int) == 0) = b) := Lib.hid (by rw [← hb, Bool.eq_iff_iff, beq_iff_eq, decide_eq_true_eq]; omega)
    clear hb
    go_enter Tryz.func89, Tryz.ntmps89
    have J := Frm.start (w := w) (V := []) fn
    refine wp_seq_h ?_; intro K1 hK1; go_wp2
    obtain ⟨W2, b2, eW2, eb2, sz2, J⟩ := Frm.putN J rfl H1.out
    rw [← eW2, ← eb2]
    clear eW2 eb2 sz2
    refine hK1.out _ _ ?_; clear hK1
    refine region_c [7, 8, 6, 9, 10, 4, 5] [.num n, .two (.is (.int .u64 (n : Int))) (.is (.bool true)), .two (.is (.int .u64 (n : Int))) (.is (.bool true)), .is (.int .u64 (n : Int)), .is (.bool true), .is (.int .u64 (n : Int)), .is (.bool true)] [] [] [] J ?_ ?_
    · refine .pl rfl (fun _ _ W Γ => ev_ldN (Γ.s rfl) (Γ.l 0 rfl)) ?_
      refine .pl rfl (fun _ _ W Γ => ev_call1 (Γ.f _) run_nSmall (small_lt W _ n HN.out (Γ.w (d := 6) 0 rfl))) ?_
      refine .pl rfl (fun _ _ W Γ => ev_moveM (Γ.w 1 rfl)) ?_
      refine .pl rfl (fun _ _ W Γ => ev_ex20 (Γ.w 2 rfl)) ?_
      refine .pl rfl (fun _ _ W Γ => ev_ex21 (Γ.w 2 rfl)) ?_
      refine .pl rfl (fun _ _ W Γ => ev_assign _ (Γ.k 3 rfl)) ?_
      refine .pl rfl (fun _ _ W Γ => ev_assign _ (Γ.k 4 rfl)) ?_
      exact .nil
    clear J; intro K3 hK3; simp only [fx]; intro _ f3 W3 J; refine hK3.out _ _ ?_; clear hK3
    refine region_c [11, 12, 13, 14, 15, 3] [.is (.bool true), .is (.bool true), .is (.int .u64 (n : Int)), .is (.bool b), .is (.bool b), .is (.bool b)] [] [] [] J ?_ ?_
    · refine .pl rfl (fun _ _ W Γ => ev_move _ (Γ.s rfl)) ?_
      refine .pl rfl (fun _ _ W Γ => ev_move _ (Γ.k 0 rfl)) ?_
      refine .gu rfl rfl rfl rfl (fun _ _ W Γ => ev_move _ (Γ.s rfl)) ?_
      refine .gu rfl rfl rfl rfl (fun _ _ W Γ => ev_eqlU (Γ.k 2 rfl) (Γ.c _) HE.out) ?_
      refine .pl rfl (fun _ _ W Γ => ev_pick (Γ.k 1 rfl) (Γ.k 3 rfl)) ?_
      refine .pl rfl (fun _ _ W Γ => ev_assign _ (Γ.k 4 rfl)) ?_
      exact .nil
    clear J; intro K4 hK4; simp only [fx]; intro _ f4 W4 J; refine hK4.out _ _ ?_; clear hK4
    refine wp_ret ?_
    exact bodyPost_ret (v := .bool b) (by simp [results, Tryz.results89, go_sem]) rfl ⟨_, rfl, rfl, J.out.be⟩
  · skip
    have HN := Lib.hid hn; clear hn
    have HBV := Lib.hid hb
    clear hb
    go_enter Tryz.func89, Tryz.ntmps89
    have J := Frm.start (w := w) (V := []) fn
    refine wp_seq_h ?_; intro K1 hK1; go_wp2
    obtain ⟨W2, b2, eW2, eb2, sz2, J⟩ := Frm.putN J rfl H1.out
    rw [← eW2, ← eb2]
    clear eW2 eb2 sz2
    refine hK1.out _ _ ?_; clear hK1
    refine region_c [7, 8, 6, 9, 10, 4, 5] [.num n, .two (.is (.int .u64 0)) (.is (.bool false)), .two (.is (.int .u64 0)) (.is (.bool false)), .is (.int .u64 0), .is (.bool false), .is (.int .u64 0), .is (.bool false)] [] [] [] J ?_ ?_
    · refine .pl rfl (fun _ _ W Γ => ev_ldN (Γ.s rfl) (Γ.l 0 rfl)) ?_
      refine .pl rfl (fun _ _ W Γ => ev_call1 (Γ.f _) run_nSmall (small_ge W _ n HN.out (Γ.w (d := 6) 0 rfl))) ?_
      refine .pl rfl (fun _ _ W Γ => ev_moveM (Γ.w 1 rfl)) ?_
      refine .pl rfl (fun _ _ W Γ => ev_ex20 (Γ.w 2 rfl)) ?_
      refine .pl rfl (fun _ _ W Γ => ev_ex21 (Γ.w 2 rfl)) ?_
      refine .pl rfl (fun _ _ W Γ => ev_assign _ (Γ.k 3 rfl)) ?_
      refine .pl rfl (fun _ _ W Γ => ev_assign _ (Γ.k 4 rfl)) ?_
      exact .nil
    clear J; intro K3 hK3; simp only [fx]; intro _ f3 W3 J; refine hK3.out _ _ ?_; clear hK3
    refine region_c [11, 12, 13, 14, 15, 3] [.is (.bool false), .is (.bool false), .is undef, .is undef, .is (.bool false), .is (.bool false)] [] [] [] J ?_ ?_
    · refine .pl rfl (fun _ _ W Γ => ev_move _ (Γ.s rfl)) ?_
      refine .pl rfl (fun _ _ W Γ => ev_move _ (Γ.k 0 rfl)) ?_
      refine .off rfl rfl rfl rfl ?_
      refine .off rfl rfl rfl rfl ?_
      refine .pl rfl (fun _ _ W Γ => ev_pick (Γ.k 1 rfl) (Γ.c _)) ?_
      refine .pl rfl (fun _ _ W Γ => ev_assign _ (Γ.k 4 rfl)) ?_
      exact .nil
    clear J; intro K4 hK4; simp only [fx]; intro _ f4 W4 J; refine hK4.out _ _ ?_; clear hK4
    refine wp_ret ?_
    obtain rfl : b = false := by rw [← HBV.out]; exact decide_eq_false (by have := HN.out; omega)
    exact bodyPost_ret (v := .bool false) (by simp [results, Tryz.results89, go_sem]) rfl ⟨_, rfl, rfl, J.out.be⟩
set_option maxRecDepth 100000 in
set_option maxHeartbeats 4000000 in
theorem qIsOne_val (w : World) (u1 : Value) (n : Nat) (b : Bool) (hb : decide (n = 1) = b) (h1 : Means w (.num n) u1) :
    Calls Tryz.prog 98 #[u1] w (Gives w (.is (.bool b))) := by
  obtain ⟨s1, p1, l1, c1, rfl, h1⟩ := h1
  have H1 := Lib.hid h1; clear h1
  rcases Nat.lt_or_ge n (2 ^ 64) with hn | hn
  · skip
    have HN := Lib.hid hn; clear hn
    have HBV := Lib.hid hb
    have HE : Hid (((n : Int) == 1) = b) := Lib.hid (by rw [← hb, Bool.eq_iff_iff, beq_iff_eq, decide_eq_true_eq]; omega)
    clear hb
    go_enter Tryz.func98, Tryz.ntmps98
    have J := Frm.start (w := w) (V := []) fn
    refine wp_seq_h ?_; intro K1 hK1; go_wp2
    obtain ⟨W2, b2, eW2, eb2, sz2, J⟩ := Frm.putN J rfl H1.out
    rw [← eW2, ← eb2]
    clear eW2 eb2 sz2
    refine hK1.out _ _ ?_; clear hK1
    refine region_c [7, 8, 6, 9, 10, 4, 5] [.num n, .two (.is (.int .u64 (n : Int))) (.is (.bool true)), .two (.is (.int .u64 (n : Int))) (.is (.bool true)), .is (.int .u64 (n : Int)), .is (.bool true), .is (.int .u64 (n : Int)), .is (.bool true)] [] [] [] J ?_ ?_
    · refine .pl rfl (fun _ _ W Γ => ev_ldN (Γ.s rfl) (Γ.l 0 rfl)) ?_
      refine .pl rfl (fun _ _ W Γ => ev_call1 (Γ.f _) run_nSmall (small_lt W _ n HN.out (Γ.w (d := 6) 0 rfl))) ?_
      refine .pl rfl (fun _ _ W Γ => ev_moveM (Γ.w 1 rfl)) ?_
      refine .pl rfl (fun _ _ W Γ => ev_ex20 (Γ.w 2 rfl)) ?_
      refine .pl rfl (fun _ _ W Γ => ev_ex21 (Γ.w 2 rfl)) ?_
      refine .pl rfl (fun _ _ W Γ => ev_assign _ (Γ.k 3 rfl)) ?_
      refine .pl rfl (fun _ _ W Γ => ev_assign _ (Γ.k 4 rfl)) ?_
      exact .nil
    clear J; intro K3 hK3; simp only [fx]; intro _ f3 W3 J; refine hK3.out _ _ ?_; clear hK3
    refine region_c [11, 12, 13, 14, 15, 3] [.is (.bool true), .is (.bool true), .is (.int .u64 (n : Int)), .is (.bool b), .is (.bool b), .is (.bool b)] [] [] [] J ?_ ?_
    · refine .pl rfl (fun _ _ W Γ => ev_move _ (Γ.s rfl)) ?_
      refine .pl rfl (fun _ _ W Γ => ev_move _ (Γ.k 0 rfl)) ?_
      refine .gu rfl rfl rfl rfl (fun _ _ W Γ => ev_move _ (Γ.s rfl)) ?_
      refine .gu rfl rfl rfl rfl (fun _ _ W Γ => ev_eqlU (Γ.k 2 rfl) (Γ.c _) HE.out) ?_
      refine .pl rfl (fun _ _ W Γ => ev_pick (Γ.k 1 rfl) (Γ.k 3 rfl)) ?_
      refine .pl rfl (fun _ _ W Γ => ev_assign _ (Γ.k 4 rfl)) ?_
      exact .nil
    clear J; intro K4 hK4; simp only [fx]; intro _ f4 W4 J; refine hK4.out _ _ ?_; clear hK4
    refine wp_ret ?_
    exact bodyPost_ret (v := .bool b) (by simp [results, Tryz.results98, go_sem]) rfl ⟨_, rfl, rfl, J.out.be⟩
  · skip
    have HN := Lib.hid hn; clear hn
    have HBV := Lib.hid hb
    clear hb
    go_enter Tryz.func98, Tryz.ntmps98
    have J := Frm.start (w := w) (V := []) fn
    refine wp_seq_h ?_; intro K1 hK1; go_wp2
    obtain ⟨W2, b2, eW2, eb2, sz2, J⟩ := Frm.putN J rfl H1.out
    rw [← eW2, ← eb2]
    clear eW2 eb2 sz2
    refine hK1.out _ _ ?_; clear hK1
    refine region_c [7, 8, 6, 9, 10, 4, 5] [.num n, .two (.is (.int .u64 0)) (.is (.bool false)), .two (.is (.int .u64 0)) (.is (.bool false)), .is (.int .u64 0), .is (.bool false), .is (.int .u64 0), .is (.bool false)] [] [] [] J ?_ ?_
    · refine .pl rfl (fun _ _ W Γ => ev_ldN (Γ.s rfl) (Γ.l 0 rfl)) ?_
      refine .pl rfl (fun _ _ W Γ => ev_call1 (Γ.f _) run_nSmall (small_ge W _ n HN.out (Γ.w (d := 6) 0 rfl))) ?_
      refine .pl rfl (fun _ _ W Γ => ev_moveM (Γ.w 1 rfl)) ?_
      refine .pl rfl (fun _ _ W Γ => ev_ex20 (Γ.w 2 rfl)) ?_
      refine .pl rfl (fun _ _ W Γ => ev_ex21 (Γ.w 2 rfl)) ?_
      refine .pl rfl (fun _ _ W Γ => ev_assign _ (Γ.k 3 rfl)) ?_
      refine .pl rfl (fun _ _ W Γ => ev_assign _ (Γ.k 4 rfl)) ?_
      exact .nil
    clear J; intro K3 hK3; simp only [fx]; intro _ f3 W3 J; refine hK3.out _ _ ?_; clear hK3
    refine region_c [11, 12, 13, 14, 15, 3] [.is (.bool false), .is (.bool false), .is undef, .is undef, .is (.bool false), .is (.bool false)] [] [] [] J ?_ ?_
    · refine .pl rfl (fun _ _ W Γ => ev_move _ (Γ.s rfl)) ?_
      refine .pl rfl (fun _ _ W Γ => ev_move _ (Γ.k 0 rfl)) ?_
      refine .off rfl rfl rfl rfl ?_
      refine .off rfl rfl rfl rfl ?_
      refine .pl rfl (fun _ _ W Γ => ev_pick (Γ.k 1 rfl) (Γ.c _)) ?_
      refine .pl rfl (fun _ _ W Γ => ev_assign _ (Γ.k 4 rfl)) ?_
      exact .nil
    clear J; intro K4 hK4; simp only [fx]; intro _ f4 W4 J; refine hK4.out _ _ ?_; clear hK4
    refine wp_ret ?_
    obtain rfl : b = false := by rw [← HBV.out]; exact decide_eq_false (by have := HN.out; omega)
    exact bodyPost_ret (v := .bool false) (by simp [results, Tryz.results98, go_sem]) rfl ⟨_, rfl, rfl, J.out.be⟩
set_option maxRecDepth 100000 in
set_option maxHeartbeats 4000000 in
theorem qPositive_val (w : World) (u1 : Value) (n : Nat) (h1 : Means w (.num n) u1) :
    Calls Tryz.prog 58 #[u1] w (Gives w (.int (n : Int))) := by
  obtain ⟨s1, p1, l1, c1, rfl, h1⟩ := h1
  have H1 := Lib.hid h1; clear h1
  go_enter Tryz.func58, Tryz.ntmps58
  have J := Frm.start (w := w) (V := []) fn
  refine wp_seq_h ?_; intro K1 hK1; go_wp2
  obtain ⟨W2, b2, eW2, eb2, sz2, J⟩ := Frm.putN J rfl H1.out
  obtain ⟨W3, b3, eW3, eb3, sz3, J⟩ := Frm.putI0 J sz2
  rw [← eW2, ← eW3, ← eb3, ← eb2]
  clear eW2 eb2 sz2 eW3 eb3 sz3
  refine hK1.out _ _ ?_; clear hK1
  refine region_c [4, 5, 0] [.num n, .int (n : Int), .any] [none, some (2, .int (n : Int))] [] [] J ?_ ?_
  · refine .pl rfl (fun _ _ W Γ => ev_ldN (Γ.s rfl) (Γ.l 0 rfl)) ?_
    refine .pl rfl (fun _ _ W Γ => ev_call2 (Γ.f _) run_iFrom (by rw [Γ.c]; exact iFrom_val W _ n (Γ.w (d := 3) 0 rfl))) ?_
    refine .st 1 rfl rfl rfl (fun _ _ W Γ => ev_stI (Γ.s rfl) (Γ.u 1 rfl rfl) (Γ.w 1 rfl)) ?_
    exact .nil
  clear J; intro K4 hK4; simp only [fx]; intro _ f4 W4 J; refine hK4.out _ _ ?_; clear hK4
  refine wp_ret ?_
  obtain ⟨u0, hx0, hm0⟩ := J.out.get 1 rfl
  obtain ⟨gr0, sr0, pr0, lr0, cr0, rfl, c0_0, c0_1, c0_2⟩ := hx0.int
  exact bodyPost_ret (v := .agg #[.bool gr0, .int .u64 sr0, .slice pr0 lr0 cr0]) (by simp [results, Tryz.results58, go_sem, c0_0, c0_1, c0_2]) rfl ⟨_, rfl, hm0, J.out.be⟩
set_option maxRecDepth 100000 in
set_option maxHeartbeats 4000000 in
theorem qDivisor_val (w : World) (u1 u2 : Value) (n : Int) (d g : Nat) (hg : Nat.gcd n.natAbs d = g) (hn : (ds n.natAbs).length ≤ 40) (hd : (ds d).length ≤ 40) (hT : Tab64 w) (h1 : Means w (.int n) u1) (h2 : Means w (.num d) u2) :
    Calls Tryz.prog 57 #[u1, u2] w (Gives w (.num g)) := by
  obtain ⟨g1, s1, p1, l1, c1, rfl, h1⟩ := h1
  obtain ⟨s2, p2, l2, c2, rfl, h2⟩ := h2
  have H1 := Lib.hid h1; clear h1
  have H2 := Lib.hid h2; clear h2
  by_cases h0 : d = 1
  · skip
    obtain rfl : d = g := by rw [← hg, h0]; exact (Nat.gcd_one_right _).symm
    have HD1 : Hid (decide (d = 1) = true) := Lib.hid (decide_eq_true h0)
    clear hg hn hd hT h0
    go_enter Tryz.func57, Tryz.ntmps57
    have J := Frm.start (w := w) (V := []) fn
    refine wp_seq_h ?_; intro K1 hK1; go_wp2
    obtain ⟨W2, b2, eW2, eb2, sz2, J⟩ := Frm.putI J rfl H1.out
    obtain ⟨W3, b3, eW3, eb3, sz3, J⟩ := Frm.putN J sz2 H2.out
    obtain ⟨W4, b4, eW4, eb4, sz4, J⟩ := Frm.putN0 J sz3
    rw [← eW2, ← eW3, ← eW4, ← eb4, ← eb3, ← eb2]
    clear eW2 eb2 sz2 eW3 eb3 sz3 eW4 eb4 sz4
    refine hK1.out _ _ ?_; clear hK1
    refine wp_seq_h ?_; intro K5 hK5
    refine region_c [6, 7] [.num d, .is (.bool true)] [] [] [] J ?_ ?_
    · refine .pl rfl (fun _ _ W Γ => ev_ldN (Γ.s rfl) (Γ.l 1 rfl)) ?_
      refine .pl rfl (fun _ _ W Γ => ev_call1 (Γ.f _) run_qIsOne (qIsOne_val W _ d true HD1.out (Γ.w (d := 5) 0 rfl))) ?_
      exact .nil
    clear J; intro K6 hK6; simp only [fx]; intro _ f6 W6 J; refine hK6.out _ _ ?_; clear hK6
    refine wp_cond_true rfl ?_
    refine region_c [8, 0] [.num d, .any] [none, none, some (1, .num d)] [] [] J ?_ ?_
    · refine .pl rfl (fun _ _ W Γ => ev_ldN (Γ.s rfl) (Γ.l 1 rfl)) ?_
      refine .st 2 rfl rfl rfl (fun _ _ W Γ => ev_stN (Γ.s rfl) (Γ.u 2 rfl rfl) (Γ.w 0 rfl)) ?_
      exact .nil
    clear J; intro K7 hK7; simp only [fx]; intro _ f7 W7 J; refine hK7.out _ _ ?_; clear hK7
    refine wp_ret ?_
    obtain ⟨u0, hx0, hm0⟩ := J.out.get 2 rfl
    obtain ⟨sr0, pr0, lr0, cr0, rfl, c0_0, c0_1⟩ := hx0.nat
    exact bodyPost_ret (v := .agg #[.int .u64 sr0, .slice pr0 lr0 cr0]) (by simp [results, Tryz.results57, go_sem, c0_0, c0_1]) rfl ⟨_, rfl, hm0, J.out.be⟩
  · skip
    have HD1 : Hid (decide (d = 1) = false) := Lib.hid (decide_eq_false h0); have HG : Hid (Nat.gcd n.natAbs ((d : Nat) : Int).natAbs = g) := Lib.hid (by rw [Int.natAbs_natCast]; exact hg); have HS : Hid ((ds n.natAbs).length ≤ 40 ∧ (ds ((d : Nat) : Int).natAbs).length ≤ 40) := Lib.hid ⟨hn, by rw [Int.natAbs_natCast]; exact hd⟩
    have TB := Lib.hid hT; clear hT
    clear hg hn hd h0
    go_enter Tryz.func57, Tryz.ntmps57
    have J := Frm.start (w := w) (V := []) fn
    refine wp_seq_h ?_; intro K1 hK1; go_wp2
    obtain ⟨W2, b2, eW2, eb2, sz2, J⟩ := Frm.putI J rfl H1.out
    obtain ⟨W3, b3, eW3, eb3, sz3, J⟩ := Frm.putN J sz2 H2.out
    obtain ⟨W4, b4, eW4, eb4, sz4, J⟩ := Frm.putN0 J sz3
    rw [← eW2, ← eW3, ← eW4, ← eb4, ← eb3, ← eb2]
    clear eW2 eb2 sz2 eW3 eb3 sz3 eW4 eb4 sz4
    refine hK1.out _ _ ?_; clear hK1
    refine wp_seq_h ?_; intro K5 hK5
    refine region_c [6, 7] [.num d, .is (.bool false)] [] [] [] J ?_ ?_
    · refine .pl rfl (fun _ _ W Γ => ev_ldN (Γ.s rfl) (Γ.l 1 rfl)) ?_
      refine .pl rfl (fun _ _ W Γ => ev_call1 (Γ.f _) run_qIsOne (qIsOne_val W _ d false HD1.out (Γ.w (d := 5) 0 rfl))) ?_
      exact .nil
    clear J; intro K6 hK6; simp only [fx]; intro _ f6 W6 J; refine hK6.out _ _ ?_; clear hK6
    refine wp_cond_false rfl ?_
    refine wp_skip ?_
    refine hK5.out _ _ ?_; clear hK5
    refine region_c [9, 10, 11, 12, 0] [.int n, .num d, .int ((d : Nat) : Int), .num g, .any] [none, none, some (4, .num g)] [] [] J ?_ ?_
    · refine .pl rfl (fun _ _ W Γ => ev_ldI (Γ.s rfl) (Γ.l 0 rfl)) ?_
      refine .pl rfl (fun _ _ W Γ => ev_ldN (Γ.s rfl) (Γ.l 1 rfl)) ?_
      refine .pl rfl (fun _ _ W Γ => ev_call1 (Γ.f _) run_qPositive (qPositive_val W _ d (Γ.w (d := 9) 1 rfl))) ?_
      refine .pl rfl (fun _ _ W Γ => ev_call2 (Γ.f _) run_iGcd (iGcd_val W _ _ n ((d : Nat) : Int) g HG.out HS.out.1 HS.out.2 (TB.out.mono Γ.be) (Γ.w (d := 8) 0 rfl) (Γ.w (d := 10) 2 rfl))) ?_
      refine .st 2 rfl rfl rfl (fun _ _ W Γ => ev_stN (Γ.s rfl) (Γ.u 2 rfl rfl) (Γ.w 3 rfl)) ?_
      exact .nil
    clear J; intro K7 hK7; simp only [fx]; intro _ f7 W7 J; refine hK7.out _ _ ?_; clear hK7
    refine wp_ret ?_
    obtain ⟨u0, hx0, hm0⟩ := J.out.get 2 rfl
    obtain ⟨sr0, pr0, lr0, cr0, rfl, c0_0, c0_1⟩ := hx0.nat
    exact bodyPost_ret (v := .agg #[.int .u64 sr0, .slice pr0 lr0 cr0]) (by simp [results, Tryz.results57, go_sem, c0_0, c0_1]) rfl ⟨_, rfl, hm0, J.out.be⟩
set_option maxRecDepth 100000 in
set_option maxHeartbeats 4000000 in
theorem qPart_val (w : World) (u1 u2 : Value) (a b c : Nat) (hc : a / b = c) (ha : (ds a).length ≤ 60) (hb : 0 < b) (h1 : Means w (.num a) u1) (h2 : Means w (.num b) u2) :
    Calls Tryz.prog 59 #[u1, u2] w (Gives w (.num c)) := by
  obtain ⟨s1, p1, l1, c1, rfl, h1⟩ := h1
  obtain ⟨s2, p2, l2, c2, rfl, h2⟩ := h2
  have H1 := Lib.hid h1; clear h1
  have H2 := Lib.hid h2; clear h2
  by_cases h0 : b = 1
  · skip
    have HD1 : Hid (decide (b = 1) = true) := Lib.hid (decide_eq_true h0)
    obtain rfl : a = c := by rw [← hc, h0, Nat.div_one]
    clear hc ha hb h0
    go_enter Tryz.func59, Tryz.ntmps59
    have J := Frm.start (w := w) (V := []) fn
    refine wp_seq_h ?_; intro K1 hK1; go_wp2
    obtain ⟨W2, b2, eW2, eb2, sz2, J⟩ := Frm.putN J rfl H1.out
    obtain ⟨W3, b3, eW3, eb3, sz3, J⟩ := Frm.putN J sz2 H2.out
    obtain ⟨W4, b4, eW4, eb4, sz4, J⟩ := Frm.putN0 J sz3
    rw [← eW2, ← eW3, ← eW4, ← eb4, ← eb3, ← eb2]
    clear eW2 eb2 sz2 eW3 eb3 sz3 eW4 eb4 sz4
    refine hK1.out _ _ ?_; clear hK1
    refine wp_seq_h ?_; intro K5 hK5
    refine region_c [9, 10] [.num b, .is (.bool true)] [] [] [] J ?_ ?_
    · refine .pl rfl (fun _ _ W Γ => ev_ldN (Γ.s rfl) (Γ.l 1 rfl)) ?_
      refine .pl rfl (fun _ _ W Γ => ev_call1 (Γ.f _) run_qIsOne (qIsOne_val W _ b true HD1.out (Γ.w (d := 8) 0 rfl))) ?_
      exact .nil
    clear J; intro K6 hK6; simp only [fx]; intro _ f6 W6 J; refine hK6.out _ _ ?_; clear hK6
    refine wp_cond_true rfl ?_
    refine region_c [11, 0] [.num a, .any] [none, none, some (1, .num a)] [] [] J ?_ ?_
    · refine .pl rfl (fun _ _ W Γ => ev_ldN (Γ.s rfl) (Γ.l 0 rfl)) ?_
      refine .st 2 rfl rfl rfl (fun _ _ W Γ => ev_stN (Γ.s rfl) (Γ.u 2 rfl rfl) (Γ.w 0 rfl)) ?_
      exact .nil
    clear J; intro K7 hK7; simp only [fx]; intro _ f7 W7 J; refine hK7.out _ _ ?_; clear hK7
    refine wp_ret ?_
    obtain ⟨u0, hx0, hm0⟩ := J.out.get 2 rfl
    obtain ⟨sr0, pr0, lr0, cr0, rfl, c0_0, c0_1⟩ := hx0.nat
    exact bodyPost_ret (v := .agg #[.int .u64 sr0, .slice pr0 lr0 cr0]) (by simp [results, Tryz.results59, go_sem, c0_0, c0_1]) rfl ⟨_, rfl, hm0, J.out.be⟩
  · skip
    have HD1 : Hid (decide (b = 1) = false) := Lib.hid (decide_eq_false h0); have HS := Lib.hid (And.intro ha hb); subst hc
    clear ha hb h0
    go_enter Tryz.func59, Tryz.ntmps59
    have J := Frm.start (w := w) (V := []) fn
    refine wp_seq_h ?_; intro K1 hK1; go_wp2
    obtain ⟨W2, b2, eW2, eb2, sz2, J⟩ := Frm.putN J rfl H1.out
    obtain ⟨W3, b3, eW3, eb3, sz3, J⟩ := Frm.putN J sz2 H2.out
    obtain ⟨W4, b4, eW4, eb4, sz4, J⟩ := Frm.putN0 J sz3
    rw [← eW2, ← eW3, ← eW4, ← eb4, ← eb3, ← eb2]
    clear eW2 eb2 sz2 eW3 eb3 sz3 eW4 eb4 sz4
    refine hK1.out _ _ ?_; clear hK1
    refine wp_seq_h ?_; intro K5 hK5
    refine region_c [9, 10] [.num b, .is (.bool false)] [] [] [] J ?_ ?_
    · refine .pl rfl (fun _ _ W Γ => ev_ldN (Γ.s rfl) (Γ.l 1 rfl)) ?_
      refine .pl rfl (fun _ _ W Γ => ev_call1 (Γ.f _) run_qIsOne (qIsOne_val W _ b false HD1.out (Γ.w (d := 8) 0 rfl))) ?_
      exact .nil
    clear J; intro K6 hK6; simp only [fx]; intro _ f6 W6 J; refine hK6.out _ _ ?_; clear hK6
    refine wp_cond_false rfl ?_
    refine wp_skip ?_
    refine hK5.out _ _ ?_; clear hK5
    refine region_c [13, 14, 15, 12, 16, 17, 18, 6, 7, 0, 0, 8] [.num a, .num b, .three (.num (a / b)) (.num (a % b)) (.is (.bool true)), .three (.num (a / b)) (.num (a % b)) (.is (.bool true)), .num (a / b), .num (a % b), .is (.bool true), .any, .any, .any, .any, .is (.bool true)] [] [⟨.nat, 7, 9, .num (a / b), .agg #[.int .u64 0, .slice none 0 0]⟩, ⟨.nat, 8, 10, .num (a % b), .agg #[.int .u64 0, .slice none 0 0]⟩] [] J ?_ ?_
    · refine .pl rfl (fun _ _ W Γ => ev_ldN (Γ.s rfl) (Γ.l 0 rfl)) ?_
      refine .pl rfl (fun _ _ W Γ => ev_ldN (Γ.s rfl) (Γ.l 1 rfl)) ?_
      refine .pl rfl (fun _ _ W Γ => ev_call2 (Γ.f _) run_nDiv (nDiv_gives W _ _ a b HS.out.1 HS.out.2 (Γ.w (d := 12) 0 rfl) (Γ.w (d := 13) 1 rfl))) ?_
      refine .pl rfl (fun _ _ W Γ => ev_moveM (Γ.w 2 rfl)) ?_
      refine .pl rfl (fun _ _ W Γ => ev_ex30 (Γ.w 3 rfl)) ?_
      refine .pl rfl (fun _ _ W Γ => ev_ex31 (Γ.w 3 rfl)) ?_
      refine .pl rfl (fun _ _ W Γ => ev_ex32 (Γ.w 3 rfl)) ?_
      refine .al 0 rfl rfl (fun _ _ => ev_alN) ?_
      refine .al 1 rfl rfl (fun _ _ => ev_alN) ?_
      refine .sn 0 rfl rfl (fun _ _ W Γ => ev_stN (Γ.q 0 rfl) (Γ.un 0 rfl) (Γ.w 4 rfl)) ?_
      refine .sn 1 rfl rfl (fun _ _ W Γ => ev_stN (Γ.q 1 rfl) (Γ.un 1 rfl) (Γ.w 5 rfl)) ?_
      refine .pl rfl (fun _ _ W Γ => ev_assign _ (Γ.k 6 rfl)) ?_
      exact .nil
    clear J; intro K7 hK7; simp only [fx]; intro β7 f7 W7 J; refine hK7.out _ _ ?_; clear hK7
    refine region_c [19, 0] [.num (a / b), .any] [none, none, some (1, .num (a / b))] [] [] J ?_ ?_
    · refine .pl rfl (fun _ _ W Γ => ev_ldN (Γ.s rfl) (Γ.l 3 rfl)) ?_
      refine .st 2 rfl rfl rfl (fun _ _ W Γ => ev_stN (Γ.s rfl) (Γ.u 2 rfl rfl) (Γ.w 0 rfl)) ?_
      exact .nil
    clear J; intro K8 hK8; simp only [fx]; intro _ f8 W8 J; refine hK8.out _ _ ?_; clear hK8
    refine wp_ret ?_
    obtain ⟨u0, hx0, hm0⟩ := J.out.get 2 rfl
    obtain ⟨sr0, pr0, lr0, cr0, rfl, c0_0, c0_1⟩ := hx0.nat
    exact bodyPost_ret (v := .agg #[.int .u64 sr0, .slice pr0 lr0 cr0]) (by simp [results, Tryz.results59, go_sem, c0_0, c0_1]) rfl ⟨_, rfl, hm0, J.out.be⟩
set_option maxRecDepth 100000 in
set_option maxHeartbeats 4000000 in
theorem qCancel_val (w : World) (u1 u2 : Value) (n : Int) (d g : Nat) (z : Int) (m : Nat) (hg : Nat.gcd n.natAbs d = g) (hz : n / (g : Int) = z) (hm : d / g = m) (h0 : d ≠ 0) (hn : (ds n.natAbs).length ≤ 40) (hd : (ds d).length ≤ 40) (hT : Tab64 w) (h1 : Means w (.int n) u1) (h2 : Means w (.num d) u2) :
    Calls Tryz.prog 56 #[u1, u2] w (Gives w (.two (.int z) (.num m))) := by
  obtain ⟨g1, s1, p1, l1, c1, rfl, h1⟩ := h1
  obtain ⟨s2, p2, l2, c2, rfl, h2⟩ := h2
  have H1 := Lib.hid h1; clear h1
  have H2 := Lib.hid h2; clear h2
  by_cases h1g : g = 1
  · skip
    obtain rfl : n = z := by rw [← hz, h1g]; simp
    obtain rfl : d = m := by rw [← hm, h1g, Nat.div_one]
    have HD1 : Hid (decide (g = 1) = true) := Lib.hid (decide_eq_true h1g); have HG := Lib.hid hg; have HS := Lib.hid (And.intro hn hd)
    have TB := Lib.hid hT; clear hT
    clear hg hz hm hn hd h1g h0
    go_enter Tryz.func56, Tryz.ntmps56
    have J := Frm.start (w := w) (V := []) fn
    refine wp_seq_h ?_; intro K1 hK1; go_wp2
    obtain ⟨W2, b2, eW2, eb2, sz2, J⟩ := Frm.putI J rfl H1.out
    obtain ⟨W3, b3, eW3, eb3, sz3, J⟩ := Frm.putN J sz2 H2.out
    obtain ⟨W4, b4, eW4, eb4, sz4, J⟩ := Frm.putI0 J sz3
    obtain ⟨W5, b5, eW5, eb5, sz5, J⟩ := Frm.putN0 J sz4
    rw [← eW2, ← eW3, ← eW4, ← eW5, ← eb5, ← eb4, ← eb3, ← eb2]
    clear eW2 eb2 sz2 eW3 eb3 sz3 eW4 eb4 sz4 eW5 eb5 sz5
    refine hK1.out _ _ ?_; clear hK1
    refine region_c [8, 9, 10, 7, 0] [.int n, .num d, .num g, .any, .any] [] [⟨.nat, 3, 4, .num g, .agg #[.int .u64 0, .slice none 0 0]⟩] [] J ?_ ?_
    · refine .pl rfl (fun _ _ W Γ => ev_ldI (Γ.s rfl) (Γ.l 0 rfl)) ?_
      refine .pl rfl (fun _ _ W Γ => ev_ldN (Γ.s rfl) (Γ.l 1 rfl)) ?_
      refine .pl rfl (fun _ _ W Γ => ev_call2 (Γ.f _) run_qDivisor (qDivisor_val W _ _ n d g HG.out HS.out.1 HS.out.2 (TB.out.mono Γ.be) (Γ.w (d := 7) 0 rfl) (Γ.w (d := 8) 1 rfl))) ?_
      refine .al 0 rfl rfl (fun _ _ => ev_alN) ?_
      refine .sn 0 rfl rfl (fun _ _ W Γ => ev_stN (Γ.q 0 rfl) (Γ.un 0 rfl) (Γ.w 2 rfl)) ?_
      exact .nil
    clear J; intro K6 hK6; simp only [fx]; intro β6 f6 W6 J; refine hK6.out _ _ ?_; clear hK6
    refine wp_seq_h ?_; intro K7 hK7
    refine region_c [11, 12] [.num g, .is (.bool true)] [] [] [] J ?_ ?_
    · refine .pl rfl (fun _ _ W Γ => ev_ldN (Γ.s rfl) (Γ.l 4 rfl)) ?_
      refine .pl rfl (fun _ _ W Γ => ev_call1 (Γ.f _) run_qIsOne (qIsOne_val W _ g true HD1.out (Γ.w (d := 10) 0 rfl))) ?_
      exact .nil
    clear J; intro K8 hK8; simp only [fx]; intro _ f8 W8 J; refine hK8.out _ _ ?_; clear hK8
    refine wp_cond_true rfl ?_
    refine region_c [13, 14, 0, 0] [.int n, .num d, .any, .any] [none, none, some (2, .int n), some (3, .num d)] [] [] J ?_ ?_
    · refine .pl rfl (fun _ _ W Γ => ev_ldI (Γ.s rfl) (Γ.l 0 rfl)) ?_
      refine .pl rfl (fun _ _ W Γ => ev_ldN (Γ.s rfl) (Γ.l 1 rfl)) ?_
      refine .st 2 rfl rfl rfl (fun _ _ W Γ => ev_stI (Γ.s rfl) (Γ.u 2 rfl rfl) (Γ.w 0 rfl)) ?_
      refine .st 3 rfl rfl rfl (fun _ _ W Γ => ev_stN (Γ.s rfl) (Γ.u 3 rfl rfl) (Γ.w 1 rfl)) ?_
      exact .nil
    clear J; intro K9 hK9; simp only [fx]; intro _ f9 W9 J; refine hK9.out _ _ ?_; clear hK9
    refine wp_ret ?_
    obtain ⟨u0, hx0, hm0⟩ := J.out.get 2 rfl
    obtain ⟨gr0, sr0, pr0, lr0, cr0, rfl, c0_0, c0_1, c0_2⟩ := hx0.int
    obtain ⟨u1, hx1, hm1⟩ := J.out.get 3 rfl
    obtain ⟨sr1, pr1, lr1, cr1, rfl, c1_0, c1_1⟩ := hx1.nat
    exact bodyPost_ret (v := .tuple #[.agg #[.bool gr0, .int .u64 sr0, .slice pr0 lr0 cr0], .agg #[.int .u64 sr1, .slice pr1 lr1 cr1]]) (by simp [results, Tryz.results56, go_sem, c0_0, c0_1, c0_2, c1_0, c1_1]) rfl ⟨_, rfl, ⟨_, _, rfl, hm0, hm1⟩, J.out.be⟩
  · skip
    have hgp : 0 < g := by rw [← hg]; exact Nat.gcd_pos_of_pos_right _ (by omega)
    have hq : qdiv n ((g : Nat) : Int) = z := by rw [← hz]; unfold qdiv; rw [if_pos (by omega)]
    subst hq
    have HD1 : Hid (decide (g = 1) = false) := Lib.hid (decide_eq_false h1g); have HG := Lib.hid hg; have HS := Lib.hid (And.intro hn hd); have HM := Lib.hid hm; have HG0 : Hid (((g : Nat) : Int) ≠ 0) := Lib.hid (by omega)
    have HGS : Hid ((ds ((g : Nat) : Int).natAbs).length ≤ 60) := Lib.hid (by rw [Int.natAbs_natCast]; have := ds_mono (show g ≤ d by rw [← hg]; exact Nat.gcd_le_right _ (by omega)); omega)
    have TB := Lib.hid hT; clear hT
    clear hg hz hm hn hd h1g h0 hgp
    go_enter Tryz.func56, Tryz.ntmps56
    have J := Frm.start (w := w) (V := []) fn
    refine wp_seq_h ?_; intro K1 hK1; go_wp2
    obtain ⟨W2, b2, eW2, eb2, sz2, J⟩ := Frm.putI J rfl H1.out
    obtain ⟨W3, b3, eW3, eb3, sz3, J⟩ := Frm.putN J sz2 H2.out
    obtain ⟨W4, b4, eW4, eb4, sz4, J⟩ := Frm.putI0 J sz3
    obtain ⟨W5, b5, eW5, eb5, sz5, J⟩ := Frm.putN0 J sz4
    rw [← eW2, ← eW3, ← eW4, ← eW5, ← eb5, ← eb4, ← eb3, ← eb2]
    clear eW2 eb2 sz2 eW3 eb3 sz3 eW4 eb4 sz4 eW5 eb5 sz5
    refine hK1.out _ _ ?_; clear hK1
    refine region_c [8, 9, 10, 7, 0] [.int n, .num d, .num g, .any, .any] [] [⟨.nat, 3, 4, .num g, .agg #[.int .u64 0, .slice none 0 0]⟩] [] J ?_ ?_
    · refine .pl rfl (fun _ _ W Γ => ev_ldI (Γ.s rfl) (Γ.l 0 rfl)) ?_
      refine .pl rfl (fun _ _ W Γ => ev_ldN (Γ.s rfl) (Γ.l 1 rfl)) ?_
      refine .pl rfl (fun _ _ W Γ => ev_call2 (Γ.f _) run_qDivisor (qDivisor_val W _ _ n d g HG.out HS.out.1 HS.out.2 (TB.out.mono Γ.be) (Γ.w (d := 7) 0 rfl) (Γ.w (d := 8) 1 rfl))) ?_
      refine .al 0 rfl rfl (fun _ _ => ev_alN) ?_
      refine .sn 0 rfl rfl (fun _ _ W Γ => ev_stN (Γ.q 0 rfl) (Γ.un 0 rfl) (Γ.w 2 rfl)) ?_
      exact .nil
    clear J; intro K6 hK6; simp only [fx]; intro β6 f6 W6 J; refine hK6.out _ _ ?_; clear hK6
    refine wp_seq_h ?_; intro K7 hK7
    refine region_c [11, 12] [.num g, .is (.bool false)] [] [] [] J ?_ ?_
    · refine .pl rfl (fun _ _ W Γ => ev_ldN (Γ.s rfl) (Γ.l 4 rfl)) ?_
      refine .pl rfl (fun _ _ W Γ => ev_call1 (Γ.f _) run_qIsOne (qIsOne_val W _ g false HD1.out (Γ.w (d := 10) 0 rfl))) ?_
      exact .nil
    clear J; intro K8 hK8; simp only [fx]; intro _ f8 W8 J; refine hK8.out _ _ ?_; clear hK8
    refine wp_cond_false rfl ?_
    refine wp_skip ?_
    refine hK7.out _ _ ?_; clear hK7
    refine region_c [16, 17, 18, 19, 15, 20, 21, 22, 0] [.int n, .num g, .int ((g : Nat) : Int), .three (.int (qdiv n ((g : Nat) : Int))) (.int (qmod n ((g : Nat) : Int))) (.is (.bool true)), .three (.int (qdiv n ((g : Nat) : Int))) (.int (qmod n ((g : Nat) : Int))) (.is (.bool true)), .int (qdiv n ((g : Nat) : Int)), .int (qmod n ((g : Nat) : Int)), .is (.bool true), .any] [some (8, .int (qdiv n ((g : Nat) : Int)))] [] [] J ?_ ?_
    · refine .pl rfl (fun _ _ W Γ => ev_ldI (Γ.s rfl) (Γ.u 0 rfl rfl).1) ?_
      refine .pl rfl (fun _ _ W Γ => ev_ldN (Γ.s rfl) (Γ.l 4 rfl)) ?_
      refine .pl rfl (fun _ _ W Γ => ev_call1 (Γ.f _) run_qPositive (qPositive_val W _ g (Γ.w (d := 16) 1 rfl))) ?_
      refine .pl rfl (fun _ _ W Γ => ev_call2 (Γ.f _) run_iDiv (iDiv_want W _ _ n ((g : Nat) : Int) HG0.out (by have := HS.out; omega) HGS.out (Γ.w (d := 15) 0 rfl) (Γ.w (d := 17) 2 rfl))) ?_
      refine .pl rfl (fun _ _ W Γ => ev_moveM (Γ.w 3 rfl)) ?_
      refine .pl rfl (fun _ _ W Γ => ev_ex30 (Γ.w 4 rfl)) ?_
      refine .pl rfl (fun _ _ W Γ => ev_ex31 (Γ.w 4 rfl)) ?_
      refine .pl rfl (fun _ _ W Γ => ev_ex32 (Γ.w 4 rfl)) ?_
      refine .st 0 rfl rfl rfl (fun _ _ W Γ => ev_stI (Γ.s rfl) (Γ.u 0 rfl rfl) (Γ.w 5 rfl)) ?_
      exact .nil
    clear J; intro K9 hK9; simp only [fx]; intro _ f9 W9 J; refine hK9.out _ _ ?_; clear hK9
    refine region_c [23, 24, 25, 26, 0, 0] [.int (qdiv n ((g : Nat) : Int)), .num d, .num g, .num m, .any, .any] [none, none, some (4, .int (qdiv n ((g : Nat) : Int))), some (5, .num m)] [] [] J ?_ ?_
    · refine .pl rfl (fun _ _ W Γ => ev_ldI (Γ.s rfl) (Γ.l 0 rfl)) ?_
      refine .pl rfl (fun _ _ W Γ => ev_ldN (Γ.s rfl) (Γ.l 1 rfl)) ?_
      refine .pl rfl (fun _ _ W Γ => ev_ldN (Γ.s rfl) (Γ.l 4 rfl)) ?_
      refine .pl rfl (fun _ _ W Γ => ev_call2 (Γ.f _) run_qPart (qPart_val W _ _ d g m HM.out (by have := HS.out; omega) (by have := HG0.out; omega) (Γ.w (d := 23) 1 rfl) (Γ.w (d := 24) 2 rfl))) ?_
      refine .st 2 rfl rfl rfl (fun _ _ W Γ => ev_stI (Γ.s rfl) (Γ.u 2 rfl rfl) (Γ.w 0 rfl)) ?_
      refine .st 3 rfl rfl rfl (fun _ _ W Γ => ev_stN (Γ.s rfl) (Γ.u 3 rfl rfl) (Γ.w 3 rfl)) ?_
      exact .nil
    clear J; intro K10 hK10; simp only [fx]; intro _ f10 W10 J; refine hK10.out _ _ ?_; clear hK10
    refine wp_ret ?_
    obtain ⟨u0, hx0, hm0⟩ := J.out.get 2 rfl
    obtain ⟨gr0, sr0, pr0, lr0, cr0, rfl, c0_0, c0_1, c0_2⟩ := hx0.int
    obtain ⟨u1, hx1, hm1⟩ := J.out.get 3 rfl
    obtain ⟨sr1, pr1, lr1, cr1, rfl, c1_0, c1_1⟩ := hx1.nat
    exact bodyPost_ret (v := .tuple #[.agg #[.bool gr0, .int .u64 sr0, .slice pr0 lr0 cr0], .agg #[.int .u64 sr1, .slice pr1 lr1 cr1]]) (by simp [results, Tryz.results56, go_sem, c0_0, c0_1, c0_2, c1_0, c1_1]) rfl ⟨_, rfl, ⟨_, _, rfl, hm0, hm1⟩, J.out.be⟩
set_option maxRecDepth 100000 in
set_option maxHeartbeats 4000000 in
theorem qOfLowest_val (w : World) (u1 u2 : Value) (n : Int) (d : Nat) (X : Rat) (hn : X.num = n) (hd : X.den = d) (h1 : Means w (.int n) u1) (h2 : Means w (.num d) u2) :
    Calls Tryz.prog 45 #[u1, u2] w (Gives w (.that (fracS X))) := by
  obtain ⟨g1, s1, p1, l1, c1, rfl, h1⟩ := h1
  obtain ⟨s2, p2, l2, c2, rfl, h2⟩ := h2
  have H1 := Lib.hid h1; clear h1
  have H2 := Lib.hid h2; clear h2
  by_cases h0 : d = 1
  · skip
    have HD1 : Hid (decide (d = 1) = true) := Lib.hid (decide_eq_true h0); have HN := Lib.hid hn; have HD : Hid (X.den = 1) := Lib.hid (hd.trans h0)
    clear hn hd h0
    go_enter Tryz.func45, Tryz.ntmps45
    have J := Frm.start (w := w) (V := []) fn
    refine wp_seq_h ?_; intro K1 hK1; go_wp2
    obtain ⟨W2, b2, eW2, eb2, sz2, J⟩ := Frm.putI J rfl H1.out
    obtain ⟨W3, b3, eW3, eb3, sz3, J⟩ := Frm.putN J sz2 H2.out
    obtain ⟨W4, b4, eW4, eb4, sz4, J⟩ := Frm.putQ0 J sz3
    rw [← eW2, ← eW3, ← eW4, ← eb4, ← eb3, ← eb2]
    clear eW2 eb2 sz2 eW3 eb3 sz3 eW4 eb4 sz4
    refine hK1.out _ _ ?_; clear hK1
    refine wp_seq_h ?_; intro K5 hK5
    refine region_c [6, 7] [.num d, .is (.bool true)] [] [] [] J ?_ ?_
    · refine .pl rfl (fun _ _ W Γ => ev_ldN (Γ.s rfl) (Γ.l 1 rfl)) ?_
      refine .pl rfl (fun _ _ W Γ => ev_call1 (Γ.f _) run_qIsOne (qIsOne_val W _ d true HD1.out (Γ.w (d := 5) 0 rfl))) ?_
      exact .nil
    clear J; intro K6 hK6; simp only [fx]; intro _ f6 W6 J; refine hK6.out _ _ ?_; clear hK6
    refine wp_cond_true rfl ?_
    refine region_c [8, 9, 0] [.int n, .that (fracS X), .any] [none, none, some (2, .that (fracS X))] [] [] J ?_ ?_
    · refine .pl rfl (fun _ _ W Γ => ev_ldI (Γ.s rfl) (Γ.l 0 rfl)) ?_
      refine .pl rfl (fun _ _ W Γ => ev_mkQ1 (Γ.w 0 rfl) HN.out HD.out) ?_
      refine .st 2 rfl rfl rfl (fun _ _ W Γ => ev_stQ (Γ.s rfl) (Γ.u 2 rfl rfl) (Γ.w 1 rfl)) ?_
      exact .nil
    clear J; intro K7 hK7; simp only [fx]; intro _ f7 W7 J; refine hK7.out _ _ ?_; clear hK7
    refine wp_ret ?_
    obtain ⟨u0, hx0, hm0⟩ := J.out.get 2 rfl
    obtain ⟨gr0, sr0, pr0, lr0, cr0, tr0, qr0, kr0, dr0, rfl, c0_0, c0_1, c0_2, c0_3, c0_4⟩ := hx0.frac
    exact bodyPost_ret (v := .agg #[.bool gr0, .int .u64 sr0, .slice pr0 lr0 cr0, .int .u64 tr0, .slice qr0 kr0 dr0]) (by simp [results, Tryz.results45, go_sem, c0_0, c0_1, c0_2, c0_3, c0_4]) rfl ⟨_, rfl, hm0, J.out.be⟩
  · skip
    have HD1 : Hid (decide (d = 1) = false) := Lib.hid (decide_eq_false h0); have HN := Lib.hid hn; have HD : Hid (dn X = d) := Lib.hid (by rw [← hd]; exact dn_den (by rw [hd]; exact h0))
    clear hn hd h0
    go_enter Tryz.func45, Tryz.ntmps45
    have J := Frm.start (w := w) (V := []) fn
    refine wp_seq_h ?_; intro K1 hK1; go_wp2
    obtain ⟨W2, b2, eW2, eb2, sz2, J⟩ := Frm.putI J rfl H1.out
    obtain ⟨W3, b3, eW3, eb3, sz3, J⟩ := Frm.putN J sz2 H2.out
    obtain ⟨W4, b4, eW4, eb4, sz4, J⟩ := Frm.putQ0 J sz3
    rw [← eW2, ← eW3, ← eW4, ← eb4, ← eb3, ← eb2]
    clear eW2 eb2 sz2 eW3 eb3 sz3 eW4 eb4 sz4
    refine hK1.out _ _ ?_; clear hK1
    refine wp_seq_h ?_; intro K5 hK5
    refine region_c [6, 7] [.num d, .is (.bool false)] [] [] [] J ?_ ?_
    · refine .pl rfl (fun _ _ W Γ => ev_ldN (Γ.s rfl) (Γ.l 1 rfl)) ?_
      refine .pl rfl (fun _ _ W Γ => ev_call1 (Γ.f _) run_qIsOne (qIsOne_val W _ d false HD1.out (Γ.w (d := 5) 0 rfl))) ?_
      exact .nil
    clear J; intro K6 hK6; simp only [fx]; intro _ f6 W6 J; refine hK6.out _ _ ?_; clear hK6
    refine wp_cond_false rfl ?_
    refine wp_skip ?_
    refine hK5.out _ _ ?_; clear hK5
    refine region_c [10, 11, 12, 0] [.int n, .num d, .that (fracS X), .any] [none, none, some (3, .that (fracS X))] [] [] J ?_ ?_
    · refine .pl rfl (fun _ _ W Γ => ev_ldI (Γ.s rfl) (Γ.l 0 rfl)) ?_
      refine .pl rfl (fun _ _ W Γ => ev_ldN (Γ.s rfl) (Γ.l 1 rfl)) ?_
      refine .pl rfl (fun _ _ W Γ => ev_mkQ2 (Γ.w 0 rfl) (Γ.w 1 rfl) HN.out HD.out) ?_
      refine .st 2 rfl rfl rfl (fun _ _ W Γ => ev_stQ (Γ.s rfl) (Γ.u 2 rfl rfl) (Γ.w 2 rfl)) ?_
      exact .nil
    clear J; intro K7 hK7; simp only [fx]; intro _ f7 W7 J; refine hK7.out _ _ ?_; clear hK7
    refine wp_ret ?_
    obtain ⟨u0, hx0, hm0⟩ := J.out.get 2 rfl
    obtain ⟨gr0, sr0, pr0, lr0, cr0, tr0, qr0, kr0, dr0, rfl, c0_0, c0_1, c0_2, c0_3, c0_4⟩ := hx0.frac
    exact bodyPost_ret (v := .agg #[.bool gr0, .int .u64 sr0, .slice pr0 lr0 cr0, .int .u64 tr0, .slice qr0 kr0 dr0]) (by simp [results, Tryz.results45, go_sem, c0_0, c0_1, c0_2, c0_3, c0_4]) rfl ⟨_, rfl, hm0, J.out.be⟩
set_option maxRecDepth 100000 in
set_option maxHeartbeats 4000000 in
theorem qIsWhole_val (w : World) (u1 : Value) (X : Rat) (b : Bool) (hb : decide (X.den = 1) = b) (h1 : Means w (.that (fracS X)) u1) :
    Calls Tryz.prog 53 #[u1] w (Gives w (.is (.bool b))) := by
  obtain ⟨g1, s1, p1, l1, c1, t1, q1, k1, d1, rfl, h1⟩ := h1
  have H1 := Lib.hid h1; clear h1
  have HBV : Hid (decide (dn X = 0) = b) := Lib.hid (by rw [← hb, decide_eq_decide]; exact dn_zero); clear hb
  go_enter Tryz.func53, Tryz.ntmps53
  have J := Frm.start (w := w) (V := []) fn
  refine wp_seq_h ?_; intro K1 hK1; go_wp2
  obtain ⟨W2, b2, eW2, eb2, sz2, J⟩ := Frm.putQ J rfl H1.out
  rw [← eW2, ← eb2]
  clear eW2 eb2 sz2
  refine hK1.out _ _ ?_; clear hK1
  refine region_c [4, 5, 6, 3] [.is (.pointer (some ⟨b2, 3, none⟩)), .num (dn X), .is (.bool b), .is (.bool b)] [] [] [] J ?_ ?_
  · refine .pl rfl (fun _ _ W Γ => ev_faQ1 (Γ.s rfl)) ?_
    refine .pl rfl (fun _ _ W Γ => ev_ldQ3 (Γ.k 0 rfl) (Γ.l 0 rfl)) ?_
    refine .pl rfl (fun _ _ W Γ => ev_call1 (Γ.f _) run_qIsZero (qIsZero_val W _ (dn X) b HBV.out (Γ.w (d := 4) 1 rfl))) ?_
    refine .pl rfl (fun _ _ W Γ => ev_assign _ (Γ.k 2 rfl)) ?_
    exact .nil
  clear J; intro K3 hK3; simp only [fx]; intro _ f3 W3 J; refine hK3.out _ _ ?_; clear hK3
  refine wp_ret ?_
  exact bodyPost_ret (v := .bool b) (by simp [results, Tryz.results53, go_sem]) rfl ⟨_, rfl, rfl, J.out.be⟩
set_option maxRecDepth 100000 in
set_option maxHeartbeats 4000000 in
theorem qDen_val (w : World) (u1 : Value) (X : Rat) (d : Nat) (hd : X.den = d) (h1 : Means w (.that (fracS X)) u1) :
    Calls Tryz.prog 29 #[u1] w (Gives w (.num d)) := by
  obtain ⟨g1, s1, p1, l1, c1, t1, q1, k1, d1, rfl, h1⟩ := h1
  have H1 := Lib.hid h1; clear h1
  by_cases h0 : X.den = 1
  · skip
    obtain rfl : d = 1 := by omega
    have HW : Hid (decide (X.den = 1) = true) := Lib.hid (decide_eq_true h0)
    clear hd h0
    go_enter Tryz.func29, Tryz.ntmps29
    have J := Frm.start (w := w) (V := []) fn
    refine wp_seq_h ?_; intro K1 hK1; go_wp2
    obtain ⟨W2, b2, eW2, eb2, sz2, J⟩ := Frm.putQ J rfl H1.out
    obtain ⟨W3, b3, eW3, eb3, sz3, J⟩ := Frm.putN0 J sz2
    rw [← eW2, ← eW3, ← eb3, ← eb2]
    clear eW2 eb2 sz2 eW3 eb3 sz3
    refine hK1.out _ _ ?_; clear hK1
    refine wp_seq_h ?_; intro K4 hK4
    refine region_c [4, 5] [.that (fracS X), .is (.bool true)] [] [] [] J ?_ ?_
    · refine .pl rfl (fun _ _ W Γ => ev_ldQ (Γ.s rfl) (Γ.l 0 rfl)) ?_
      refine .pl rfl (fun _ _ W Γ => ev_call1 (Γ.f _) run_qIsWhole (qIsWhole_val W _ X true HW.out (Γ.w (d := 3) 0 rfl))) ?_
      exact .nil
    clear J; intro K5 hK5; simp only [fx]; intro _ f5 W5 J; refine hK5.out _ _ ?_; clear hK5
    refine wp_cond_true rfl ?_
    refine region_c [6, 0] [.num 1, .any] [none, some (1, .num 1)] [] [] J ?_ ?_
    · refine .pl rfl (fun _ _ W Γ => ev_call1 (Γ.f _) run_Of (by rw [Γ.c]; exact of_gives 1 (by omega) W)) ?_
      refine .st 1 rfl rfl rfl (fun _ _ W Γ => ev_stN (Γ.s rfl) (Γ.u 1 rfl rfl) (Γ.w 0 rfl)) ?_
      exact .nil
    clear J; intro K6 hK6; simp only [fx]; intro _ f6 W6 J; refine hK6.out _ _ ?_; clear hK6
    refine wp_ret ?_
    obtain ⟨u0, hx0, hm0⟩ := J.out.get 1 rfl
    obtain ⟨sr0, pr0, lr0, cr0, rfl, c0_0, c0_1⟩ := hx0.nat
    exact bodyPost_ret (v := .agg #[.int .u64 sr0, .slice pr0 lr0 cr0]) (by simp [results, Tryz.results29, go_sem, c0_0, c0_1]) rfl ⟨_, rfl, hm0, J.out.be⟩
  · skip
    obtain rfl : dn X = d := by rw [← hd]; exact dn_den h0
    have HW : Hid (decide (X.den = 1) = false) := Lib.hid (decide_eq_false h0)
    clear hd h0
    go_enter Tryz.func29, Tryz.ntmps29
    have J := Frm.start (w := w) (V := []) fn
    refine wp_seq_h ?_; intro K1 hK1; go_wp2
    obtain ⟨W2, b2, eW2, eb2, sz2, J⟩ := Frm.putQ J rfl H1.out
    obtain ⟨W3, b3, eW3, eb3, sz3, J⟩ := Frm.putN0 J sz2
    rw [← eW2, ← eW3, ← eb3, ← eb2]
    clear eW2 eb2 sz2 eW3 eb3 sz3
    refine hK1.out _ _ ?_; clear hK1
    refine wp_seq_h ?_; intro K4 hK4
    refine region_c [4, 5] [.that (fracS X), .is (.bool false)] [] [] [] J ?_ ?_
    · refine .pl rfl (fun _ _ W Γ => ev_ldQ (Γ.s rfl) (Γ.l 0 rfl)) ?_
      refine .pl rfl (fun _ _ W Γ => ev_call1 (Γ.f _) run_qIsWhole (qIsWhole_val W _ X false HW.out (Γ.w (d := 3) 0 rfl))) ?_
      exact .nil
    clear J; intro K5 hK5; simp only [fx]; intro _ f5 W5 J; refine hK5.out _ _ ?_; clear hK5
    refine wp_cond_false rfl ?_
    refine wp_skip ?_
    refine hK4.out _ _ ?_; clear hK4
    refine region_c [7, 8, 0] [.is (.pointer (some ⟨b2, 3, none⟩)), .num (dn X), .any] [none, some (2, .num (dn X))] [] [] J ?_ ?_
    · refine .pl rfl (fun _ _ W Γ => ev_faQ1 (Γ.s rfl)) ?_
      refine .pl rfl (fun _ _ W Γ => ev_ldQ3 (Γ.k 0 rfl) (Γ.l 0 rfl)) ?_
      refine .st 1 rfl rfl rfl (fun _ _ W Γ => ev_stN (Γ.s rfl) (Γ.u 1 rfl rfl) (Γ.w 1 rfl)) ?_
      exact .nil
    clear J; intro K6 hK6; simp only [fx]; intro _ f6 W6 J; refine hK6.out _ _ ?_; clear hK6
    refine wp_ret ?_
    obtain ⟨u0, hx0, hm0⟩ := J.out.get 1 rfl
    obtain ⟨sr0, pr0, lr0, cr0, rfl, c0_0, c0_1⟩ := hx0.nat
    exact bodyPost_ret (v := .agg #[.int .u64 sr0, .slice pr0 lr0 cr0]) (by simp [results, Tryz.results29, go_sem, c0_0, c0_1]) rfl ⟨_, rfl, hm0, J.out.be⟩
set_option maxRecDepth 100000 in
set_option maxHeartbeats 4000000 in
theorem qSign_val (w : World) (u1 : Value) (X : Rat) (k : Int) (hk : cmp3 X.num 0 = k) (h1 : Means w (.that (fracS X)) u1) :
    Calls Tryz.prog 19 #[u1] w (Gives w (.is (.int .i64 k))) := by
  obtain ⟨g1, s1, p1, l1, c1, t1, q1, k1, d1, rfl, h1⟩ := h1
  have H1 := Lib.hid h1; clear h1
  have HK := Lib.hid hk; clear hk
  go_enter Tryz.func19, Tryz.ntmps19
  have J := Frm.start (w := w) (V := []) fn
  refine wp_seq_h ?_; intro K1 hK1; go_wp2
  obtain ⟨W2, b2, eW2, eb2, sz2, J⟩ := Frm.putQ J rfl H1.out
  rw [← eW2, ← eb2]
  clear eW2 eb2 sz2
  refine hK1.out _ _ ?_; clear hK1
  refine region_c [4, 5, 6, 3] [.is (.pointer (some ⟨b2, 0, none⟩)), .int X.num, .is (.int .i64 k), .is (.int .i64 k)] [] [] [] J ?_ ?_
  · refine .pl rfl (fun _ _ W Γ => ev_faQ0 (Γ.s rfl)) ?_
    refine .pl rfl (fun _ _ W Γ => ev_ldQ0 (Γ.k 0 rfl) (Γ.l 0 rfl)) ?_
    refine .pl rfl (fun _ _ W Γ => ev_call1 (Γ.f _) run_iSign (iSign_val W _ X.num k HK.out (Γ.w (d := 4) 1 rfl))) ?_
    refine .pl rfl (fun _ _ W Γ => ev_assign _ (Γ.k 2 rfl)) ?_
    exact .nil
  clear J; intro K3 hK3; simp only [fx]; intro _ f3 W3 J; refine hK3.out _ _ ?_; clear hK3
  refine wp_ret ?_
  exact bodyPost_ret (v := .int .i64 k) (by simp [results, Tryz.results19, go_sem]) rfl ⟨_, rfl, rfl, J.out.be⟩
set_option maxRecDepth 100000 in
set_option maxHeartbeats 4000000 in
theorem qNeg_val (w : World) (u1 : Value) (X : Rat) (h1 : Means w (.that (fracS X)) u1) :
    Calls Tryz.prog 21 #[u1] w (Gives w (.that (fracS (-X)))) := by
  obtain ⟨g1, s1, p1, l1, c1, t1, q1, k1, d1, rfl, h1⟩ := h1
  have H1 := Lib.hid h1; clear h1
  go_enter Tryz.func21, Tryz.ntmps21
  have J := Frm.start (w := w) (V := []) fn
  refine wp_seq_h ?_; intro K1 hK1; go_wp2
  obtain ⟨W2, b2, eW2, eb2, sz2, J⟩ := Frm.putQ J rfl H1.out
  obtain ⟨W3, b3, eW3, eb3, sz3, J⟩ := Frm.putQ0 J sz2
  rw [← eW2, ← eW3, ← eb3, ← eb2]
  clear eW2 eb2 sz2 eW3 eb3 sz3
  refine hK1.out _ _ ?_; clear hK1
  refine region_c [4, 5, 6, 7, 8, 9, 0] [.is (.pointer (some ⟨b2, 0, none⟩)), .int X.num, .int (-X.num), .is (.pointer (some ⟨b2, 3, none⟩)), .num (dn X), .that (fracS (-X)), .any] [none, some (6, .that (fracS (-X)))] [] [] J ?_ ?_
  · refine .pl rfl (fun _ _ W Γ => ev_faQ0 (Γ.s rfl)) ?_
    refine .pl rfl (fun _ _ W Γ => ev_ldQ0 (Γ.k 0 rfl) (Γ.l 0 rfl)) ?_
    refine .pl rfl (fun _ _ W Γ => ev_call1 (Γ.f _) run_iNeg (iNeg_want W _ X.num (Γ.w (d := 4) 1 rfl))) ?_
    refine .pl rfl (fun _ _ W Γ => ev_faQ1 (Γ.s rfl)) ?_
    refine .pl rfl (fun _ _ W Γ => ev_ldQ3 (Γ.k 3 rfl) (Γ.l 0 rfl)) ?_
    refine .pl rfl (fun _ _ W Γ => ev_mkQ2 (Γ.w 2 rfl) (Γ.w 4 rfl) rfl rfl) ?_
    refine .st 1 rfl rfl rfl (fun _ _ W Γ => ev_stQ (Γ.s rfl) (Γ.u 1 rfl rfl) (Γ.w 5 rfl)) ?_
    exact .nil
  clear J; intro K4 hK4; simp only [fx]; intro _ f4 W4 J; refine hK4.out _ _ ?_; clear hK4
  refine wp_ret ?_
  obtain ⟨u0, hx0, hm0⟩ := J.out.get 1 rfl
  obtain ⟨gr0, sr0, pr0, lr0, cr0, tr0, qr0, kr0, dr0, rfl, c0_0, c0_1, c0_2, c0_3, c0_4⟩ := hx0.frac
  exact bodyPost_ret (v := .agg #[.bool gr0, .int .u64 sr0, .slice pr0 lr0 cr0, .int .u64 tr0, .slice qr0 kr0 dr0]) (by simp [results, Tryz.results21, go_sem, c0_0, c0_1, c0_2, c0_3, c0_4]) rfl ⟨_, rfl, hm0, J.out.be⟩

def qabs (X : Rat) : Rat := if X.num < 0 then -X else X
theorem qabs_num (X : Rat) : (qabs X).num = ((X.num.natAbs : Nat) : Int) := by
  unfold qabs
  split
  · rw [Rat.neg_num]; omega
  · omega
theorem qabs_den (X : Rat) : (qabs X).den = X.den := by unfold qabs; split <;> rfl
theorem qabs_dn (X : Rat) : dn (qabs X) = dn X := dn_inj.2 (qabs_den X)
theorem QB.abs {x : Rat} {k : Nat} (h : QB x k) : QB (qabs x) k := ⟨by rw [qabs_num, Int.natAbs_natCast]; exact h.1, by rw [qabs_den]; exact h.2⟩
set_option maxRecDepth 100000 in
set_option maxHeartbeats 4000000 in
theorem qAbs_val (w : World) (u1 : Value) (X : Rat) (h1 : Means w (.that (fracS X)) u1) :
    Calls Tryz.prog 23 #[u1] w (Gives w (.that (fracS (qabs X)))) := by
  obtain ⟨g1, s1, p1, l1, c1, t1, q1, k1, d1, rfl, h1⟩ := h1
  have H1 := Lib.hid h1; clear h1
  go_enter Tryz.func23, Tryz.ntmps23
  have J := Frm.start (w := w) (V := []) fn
  refine wp_seq_h ?_; intro K1 hK1; go_wp2
  obtain ⟨W2, b2, eW2, eb2, sz2, J⟩ := Frm.putQ J rfl H1.out
  obtain ⟨W3, b3, eW3, eb3, sz3, J⟩ := Frm.putQ0 J sz2
  rw [← eW2, ← eW3, ← eb3, ← eb2]
  clear eW2 eb2 sz2 eW3 eb3 sz3
  refine hK1.out _ _ ?_; clear hK1
  refine region_c [4, 5, 6, 7, 8, 9, 10, 0] [.is (.pointer (some ⟨b2, 0, none⟩)), .int X.num, .num X.num.natAbs, .int ((X.num.natAbs : Nat) : Int), .is (.pointer (some ⟨b2, 3, none⟩)), .num (dn X), .that (fracS (qabs X)), .any] [none, some (7, .that (fracS (qabs X)))] [] [] J ?_ ?_
  · refine .pl rfl (fun _ _ W Γ => ev_faQ0 (Γ.s rfl)) ?_
    refine .pl rfl (fun _ _ W Γ => ev_ldQ0 (Γ.k 0 rfl) (Γ.l 0 rfl)) ?_
    refine .pl rfl (fun _ _ W Γ => ev_call1 (Γ.f _) run_iAbs (iAbs_want W _ X.num (Γ.w (d := 4) 1 rfl))) ?_
    refine .pl rfl (fun _ _ W Γ => ev_call1 (Γ.f _) run_qPositive (qPositive_val W _ X.num.natAbs (Γ.w (d := 5) 2 rfl))) ?_
    refine .pl rfl (fun _ _ W Γ => ev_faQ1 (Γ.s rfl)) ?_
    refine .pl rfl (fun _ _ W Γ => ev_ldQ3 (Γ.k 4 rfl) (Γ.l 0 rfl)) ?_
    refine .pl rfl (fun _ _ W Γ => ev_mkQ2 (Γ.w 3 rfl) (Γ.w 5 rfl) (qabs_num X) (qabs_dn X)) ?_
    refine .st 1 rfl rfl rfl (fun _ _ W Γ => ev_stQ (Γ.s rfl) (Γ.u 1 rfl rfl) (Γ.w 6 rfl)) ?_
    exact .nil
  clear J; intro K4 hK4; simp only [fx]; intro _ f4 W4 J; refine hK4.out _ _ ?_; clear hK4
  refine wp_ret ?_
  obtain ⟨u0, hx0, hm0⟩ := J.out.get 1 rfl
  obtain ⟨gr0, sr0, pr0, lr0, cr0, tr0, qr0, kr0, dr0, rfl, c0_0, c0_1, c0_2, c0_3, c0_4⟩ := hx0.frac
  exact bodyPost_ret (v := .agg #[.bool gr0, .int .u64 sr0, .slice pr0 lr0 cr0, .int .u64 tr0, .slice qr0 kr0 dr0]) (by simp [results, Tryz.results23, go_sem, c0_0, c0_1, c0_2, c0_3, c0_4]) rfl ⟨_, rfl, hm0, J.out.be⟩
end Go.Proofs.YtjhjlecnjkjbbaaGreatDoor
