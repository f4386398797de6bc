/- The numbers of Euclid's algorithm with factors. -/
import Derived.Test.YtfjjmhbffbhhdaaGreatDoorLess
namespace Go.Proofs.YtfjjmhbffbhhdaaGreatDoor
open Go.RowKit

structure BInv (x y : Int) (m n : Nat) (u v : Int) : Prop where
  gcd : Nat.gcd m n = Nat.gcd x.natAbs y.natAbs
  c0 : ∃ k, (m : Int) = x * u + y * k
  c1 : ∃ k, (n : Int) = x * v + y * k
  bound : v.natAbs * m + u.natAbs * n ≤ y.natAbs
  signs : u * v ≤ 0
  m0 : u.natAbs ≤ y.natAbs
  m1 : v.natAbs ≤ y.natAbs
  k0 : m ≤ x.natAbs + y.natAbs
  k1 : n ≤ x.natAbs + y.natAbs

theorem sign_abs (x : Int) : x * cmp3 x 0 = (x.natAbs : Int) := by
  unfold cmp3
  split
  · omega
  · split <;> omega

theorem BInv.start {x y : Int} (hy : y ≠ 0) : BInv x y x.natAbs y.natAbs (cmp3 x 0) 0 := by
  have h1 : (cmp3 x 0).natAbs ≤ 1 := by unfold cmp3; split <;> (try split) <;> simp
  have hy' : 0 < y.natAbs := by omega
  refine ⟨rfl, ⟨0, by rw [← sign_abs x]; omega⟩, ⟨cmp3 y 0, by rw [Int.mul_zero, sign_abs y]; omega⟩, ?_, by omega, by omega, by simp, by omega, by omega⟩
  rw [Int.natAbs_zero, Nat.zero_mul, Nat.zero_add]
  calc (cmp3 x 0).natAbs * y.natAbs ≤ 1 * y.natAbs := Nat.mul_le_mul_right _ h1
    _ = y.natAbs := Nat.one_mul _

theorem BInv.step {x y : Int} {m n : Nat} {u v : Int} (h : BInv x y m n u v) (hn : n ≠ 0) : BInv x y n (m % n) v (u - (m / n : Nat) * v) := by
  have hd := Nat.div_add_mod m n
  have hlt := Nat.mod_lt m (show 0 < n by omega)
  generalize hq : m / n = q at *
  generalize hr : m % n = r at *
  obtain ⟨k, hk⟩ := h.c0
  obtain ⟨j, hj⟩ := h.c1
  have hri : (r : Int) = m - q * n := by rw [← hd, Int.natCast_add, Int.natCast_mul, Int.mul_comm (q : Int)]; omega
  -- the signs of the factors differ, so their sizes add up
  have habs : (u - (q : Int) * v).natAbs = u.natAbs + q * v.natAbs := by
    have hs := h.signs
    have e1 : ((q : Int) * v).natAbs = q * v.natAbs := by rw [Int.natAbs_mul, Int.natAbs_natCast]
    rcases Int.lt_trichotomy v 0 with hv | hv | hv
    · have hu : 0 ≤ u := by
        rcases Int.lt_or_le u 0 with hu | hu
        · have := Int.mul_pos_of_neg_of_neg hu hv; omega
        · exact hu
      have : (q : Int) * v ≤ 0 := Int.mul_nonpos_of_nonneg_of_nonpos (by omega) (by omega)
      omega
    · subst hv; simp
    · have hu : u ≤ 0 := by
        rcases Int.lt_or_le 0 u with hu | hu
        · have := Int.mul_pos hu hv; omega
        · exact hu
      have : 0 ≤ (q : Int) * v := Int.mul_nonneg (by omega) (by omega)
      omega
  have hbound : (u - (q : Int) * v).natAbs * n + v.natAbs * r ≤ y.natAbs := by
    rw [habs]
    have hb := h.bound
    have e : v.natAbs * m = v.natAbs * (n * q) + v.natAbs * r := by rw [← Nat.mul_add, hd]
    have e2 : (u.natAbs + q * v.natAbs) * n = u.natAbs * n + v.natAbs * (n * q) := by grind
    omega
  refine ⟨?_, h.c1, ⟨k - q * j, ?_⟩, hbound, ?_, h.m1, ?_, h.k1, by have := h.k1; omega⟩
  · rw [← h.gcd, ← hr, Nat.gcd_comm n, ← Nat.gcd_rec, Nat.gcd_comm]
  · rw [hri, hk, hj]; grind
  · have hs := h.signs
    have e : v * (u - q * v) = u * v - q * (v * v) := by grind
    have h2 : 0 ≤ v * v := by
      rcases Int.le_total 0 v with h | h
      · exact Int.mul_nonneg h h
      · exact Int.mul_nonneg_of_nonpos_of_nonpos h h
    have h3 : 0 ≤ (q : Int) * (v * v) := Int.mul_nonneg (by omega) h2
    omega
  · have : (u - (q : Int) * v).natAbs * 1 ≤ (u - (q : Int) * v).natAbs * n := Nat.mul_le_mul_left _ (by omega)
    omega

def BezSpec (x y X Y : Int) : Prop := (y = 0 → X = cmp3 x 0 ∧ Y = 0) ∧ (y ≠ 0 → x * X + y * Y = (Nat.gcd x.natAbs y.natAbs : Nat) ∧ 0 ≤ X ∧ X < (y.natAbs / Nat.gcd x.natAbs y.natAbs : Nat))

theorem BInv.done {x y : Int} {m : Nat} {u v : Int} (h : BInv x y m 0 u v) (hy : y ≠ 0) :
    m = Nat.gcd x.natAbs y.natAbs ∧ 0 < m ∧ 0 < y.natAbs / m ∧ qdiv ((y.natAbs : Nat) : Int) (m : Int) = ((y.natAbs / m : Nat) : Int) ∧ BezSpec x y (qmod u ((y.natAbs / m : Nat) : Int)) (qdiv ((m : Int) - x * qmod u ((y.natAbs / m : Nat) : Int)) y) := by
  have hg : m = Nat.gcd x.natAbs y.natAbs := by rw [← h.gcd, Nat.gcd_zero_right]
  have hdx : m ∣ x.natAbs := by rw [hg]; exact Nat.gcd_dvd_left _ _
  have hdy : m ∣ y.natAbs := by rw [hg]; exact Nat.gcd_dvd_right _ _
  have hm0 : 0 < m := by
    rcases Nat.eq_zero_or_pos m with h0 | h0
    · subst h0; have := Nat.eq_zero_of_zero_dvd hdy; omega
    · exact h0
  have hp0 : 0 < y.natAbs / m := Nat.div_pos (Nat.le_of_dvd (by omega) hdy) hm0
  refine ⟨hg, hm0, hp0, ?_, fun h0 => absurd h0 hy, fun _ => ?_⟩
  · unfold qdiv
    rw [if_pos (by omega)]
    rfl
  · obtain ⟨k, hk⟩ := h.c0
    have hpe : ((y.natAbs / m : Nat) : Int) * m = (y.natAbs : Int) := by rw [← Int.natCast_mul, Nat.div_mul_cancel hdy]
    generalize hp : y.natAbs / m = p at *
    obtain ⟨q1, q2⟩ := qdiv_parts (x := u) (y := (p : Int)) (by omega)
    generalize qdiv u (p : Int) = t at *
    generalize qmod u (p : Int) = X at *
    have hX : 0 ≤ X ∧ X < p := by omega
    obtain ⟨xq, hxq⟩ : ∃ xq : Int, x = m * xq := Int.ofNat_dvd_left.2 hdx
    obtain ⟨sy, hsy⟩ : ∃ sy : Int, (y.natAbs : Int) = y * sy := ⟨cmp3 y 0, (sign_abs y).symm⟩
    have hex : (m : Int) - x * X = (k + xq * sy * t) * y := by
      have e1 : X = u - t * p := by omega
      rw [e1]
      have e2 : x * (t * (p : Int)) = xq * t * (p * m) := by rw [hxq]; grind
      rw [hpe, hsy] at e2
      have e3 : x * (u - t * p) = x * u - x * (t * p) := by grind
      rw [e3, e2]
      have e4 : (m : Int) = x * u + y * k := hk
      grind
    have hq := qdiv_unique (x := (m : Int) - x * X) (y := y) (q := k + xq * sy * t) (r := 0) (by rw [hex]; omega) (by
      rcases Int.lt_or_le 0 y with h | h
      · left; omega
      · right; omega)
    rw [← hq.1, ← hg]
    refine ⟨?_, hX.1, ?_⟩
    · have : y * (k + xq * sy * t) = (m : Int) - x * X := by rw [hex]; grind
      omega
    · rw [← hg] at *
      rw [hp]; exact hX.2

theorem BInv.sizes {x y : Int} {m n : Nat} {u v : Int} {k : Nat} (h : BInv x y m n u v) (hx : (ds x.natAbs).length ≤ k) (hy : (ds y.natAbs).length ≤ k) :
    (ds m).length ≤ 2 * k ∧ (ds n).length ≤ 2 * k ∧ (ds u.natAbs).length ≤ 2 * k ∧ (ds v.natAbs).length ≤ 2 * k := by
  have h1 := ds_add x.natAbs y.natAbs
  have h2 := ds_mono h.k0; have h3 := ds_mono h.k1; have h4 := ds_mono h.m0; have h5 := ds_mono h.m1
  omega
end Go.Proofs.YtfjjmhbffbhhdaaGreatDoor

/- The boxes of the greatest common divisor with factors. -/
namespace Go.Proofs.YtfjjmhbffbhhdaaGreatDoor
open Go.RowKit

structure Bz (w wr : World) (x y : Int) (a b r1 r2 r3 : Nat) (g1 : Bool) (s1 : Int) (p1 : Option Addr) (l1 c1 : Nat) (g2 : Bool) (s2 : Int) (p2 : Option Addr) (l2 c2 : Nat) : Prop where
  hb : Below w.heap.size w wr
  bA : Box wr a g1 s1 p1 l1 c1
  bB : Box wr b g2 s2 p2 l2 c2
  i1 : IsI wr g1 s1 p1 l1 c1 x
  i2 : IsI wr g2 s2 p2 l2 c2 y
  o1 : ∃ v, BoxHas wr r1 .int v
  o2 : ∃ v, BoxHas wr r2 .int v
  o3 : ∃ v, BoxHas wr r3 .int v
  f1 : BoxFree wr r1 .int
  f2 : BoxFree wr r2 .int
  f3 : BoxFree wr r3 .int
  ord : w.heap.size ≤ a ∧ a < b ∧ b < r1 ∧ r1 < r2 ∧ r2 < r3 ∧ r3 < wr.heap.size
section
variable {w wr w' : World} {x y : Int} {a b r1 r2 r3 : Nat} {g1 g2 : Bool} {s1 s2 : Int} {p1 p2 : Option Addr} {l1 c1 l2 c2 : Nat}
theorem Box.mono {g : Bool} {s : Int} {p : Option Addr} {l c : Nat} (h : Box wr a g s p l c) (hb : Below wr.heap.size wr w') : Box w' a g s p l c := ⟨wcell hb h.1, wcell hb h.2.1, wcell hb h.2.2⟩
theorem Bz.mono (h : Bz w wr x y a b r1 r2 r3 g1 s1 p1 l1 c1 g2 s2 p2 l2 c2) (hb : Below wr.heap.size wr w') : Bz w w' x y a b r1 r2 r3 g1 s1 p1 l1 c1 g2 s2 p2 l2 c2 := by
  obtain ⟨v1, o1⟩ := h.o1; obtain ⟨v2, o2⟩ := h.o2; obtain ⟨v3, o3⟩ := h.o3
  have o := h.ord
  exact ⟨below_step h.hb hb, h.bA.mono hb, h.bB.mono hb, h.i1.mono hb, h.i2.mono hb, ⟨v1, o1.mono hb⟩, ⟨v2, o2.mono hb⟩, ⟨v3, o3.mono hb⟩, h.f1.mono o1 hb, h.f2.mono o2 hb, h.f3.mono o3 hb, o.1, o.2.1, o.2.2.1, o.2.2.2.1, o.2.2.2.2.1, Nat.lt_of_lt_of_le o.2.2.2.2.2 hb.size⟩
theorem BoxHas.away {bs : List Nat} {k : BK} {v : Value} (h : BoxHas wr a k v) (hA : Away bs wr w') (hn : a ∉ bs) : BoxHas w' a k v := by
  obtain ⟨cs, h1, h2, h3⟩ := h
  exact ⟨cs, h1, h2, fun i x hx => hA.cell (h3 i x hx) hn⟩
theorem BoxFree.away {bs : List Nat} {k : BK} (h : BoxFree wr a k) (hl : a < wr.heap.size) (hA : Away bs wr w') (hn : a ∉ bs) : BoxFree w' a k := fun o ho => (hA.frozen hl hn).trans (h o ho)
theorem Bz.away {bs : List Nat} (h : Bz w wr x y a b r1 r2 r3 g1 s1 p1 l1 c1 g2 s2 p2 l2 c2) (hA : Away bs wr w') (hbs : ∀ k ∈ bs, r3 < k) (i1 : IsI w' g1 s1 p1 l1 c1 x) (i2 : IsI w' g2 s2 p2 l2 c2 y) : Bz w w' x y a b r1 r2 r3 g1 s1 p1 l1 c1 g2 s2 p2 l2 c2 := by
  obtain ⟨v1, o1⟩ := h.o1; obtain ⟨v2, o2⟩ := h.o2; obtain ⟨v3, o3⟩ := h.o3
  have o := h.ord
  have na : a ∉ bs := fun hm => by have := hbs a hm; omega
  have nb : b ∉ bs := fun hm => by have := hbs b hm; omega
  have n1 : r1 ∉ bs := fun hm => by have := hbs r1 hm; omega
  have n2 : r2 ∉ bs := fun hm => by have := hbs r2 hm; omega
  have n3 : r3 ∉ bs := fun hm => by have := hbs r3 hm; omega
  exact ⟨h.hb.trans (hA.below (B := w.heap.size) (fun k hk => by have := hbs k hk; omega) h.hb.size), ⟨hA.cell h.bA.1 na, hA.cell h.bA.2.1 na, hA.cell h.bA.2.2 na⟩, ⟨hA.cell h.bB.1 nb, hA.cell h.bB.2.1 nb, hA.cell h.bB.2.2 nb⟩, i1, i2, ⟨v1, o1.away hA n1⟩, ⟨v2, o2.away hA n2⟩, ⟨v3, o3.away hA n3⟩, h.f1.away (by omega) hA n1, h.f2.away (by omega) hA n2, h.f3.away (by omega) hA n3, o.1, o.2.1, o.2.2.1, o.2.2.2.1, o.2.2.2.2.1, Nat.lt_of_lt_of_le o.2.2.2.2.2 hA.size⟩
theorem IsI.stored {k : BK} {u v : Value} {d : Nat} {z : Int} (h : IsI wr g1 s1 p1 l1 c1 z) (hb : BoxHas wr d k u) (hs : Stored wr w' d k v) : IsI w' g1 s1 p1 l1 c1 z := ⟨h.1, h.2.stored hb hs⟩
theorem Below.stored {B d : Nat} {k : BK} {v : Value} (h : Below B w wr) (hs : Stored wr w' d k v) (hd : B ≤ d) : Below B w w' := by
  obtain ⟨cs, _, _, rfl⟩ := hs
  obtain ⟨r1, r2, r3, r4⟩ := setAll_rest (b := d) wr 0 cs
  exact ⟨r1.trans h.os, r2.trans h.tape, r3.trans h.output, by rw [r4]; exact h.size, fun j hj => by rw [setAll_heap (by omega)]; exact h.block j hj⟩
theorem Stored.size {d : Nat} {k : BK} {v : Value} (hs : Stored wr w' d k v) : w'.heap.size = wr.heap.size := by
  obtain ⟨cs, _, _, rfl⟩ := hs
  exact (setAll_rest (b := d) wr 0 cs).2.2.2
theorem BoxFree.stored {d e : Nat} {k j : BK} {v : Value} (h : BoxFree wr e j) (hs : Stored wr w' d k v) : BoxFree w' e j := fun o ho => (hs.frozen _).trans (h o ho)
theorem Bz.put {d : Nat} {v : Value} (h : Bz w wr x y a b r1 r2 r3 g1 s1 p1 l1 c1 g2 s2 p2 l2 c2) (hd : d = r1 ∨ d = r2) (hs : Stored wr w' d .int v) : Bz w w' x y a b r1 r2 r3 g1 s1 p1 l1 c1 g2 s2 p2 l2 c2 := by
  obtain ⟨v1, o1⟩ := h.o1; obtain ⟨v2, o2⟩ := h.o2; obtain ⟨v3, o3⟩ := h.o3
  have o := h.ord
  obtain ⟨u, hu⟩ : ∃ u, BoxHas wr d .int u := by rcases hd with rfl | rfl <;> exact ⟨_, by assumption⟩
  have na : a ≠ d := by omega
  have nb : b ≠ d := by omega
  have n3 : r3 ≠ d := by omega
  refine ⟨Below.stored h.hb hs (by omega), ⟨by rw [hs.cell na]; exact h.bA.1, by rw [hs.cell na]; exact h.bA.2.1, by rw [hs.cell na]; exact h.bA.2.2⟩, ⟨by rw [hs.cell nb]; exact h.bB.1, by rw [hs.cell nb]; exact h.bB.2.1, by rw [hs.cell nb]; exact h.bB.2.2⟩, h.i1.stored hu hs, h.i2.stored hu hs, ?_, ?_, ⟨v3, o3.stored hs n3⟩, h.f1.stored hs, h.f2.stored hs, h.f3.stored hs, o.1, o.2.1, o.2.2.1, o.2.2.2.1, o.2.2.2.2.1, by rw [hs.size]; exact o.2.2.2.2.2⟩
  · by_cases e : r1 = d
    · subst e; exact ⟨v, hs.has hu⟩
    · exact ⟨v1, o1.stored hs e⟩
  · by_cases e : r2 = d
    · subst e; exact ⟨v, hs.has hu⟩
    · exact ⟨v2, o2.stored hs e⟩
end
theorem Bz.start (w : World) (x y : Int) (g1 g2 : Bool) (s1 s2 : Int) (p1 p2 : Option Addr) (l1 c1 l2 c2 : Nat) (h1 : IsI w g1 s1 p1 l1 c1 x) (h2 : IsI w g2 s2 p2 l2 c2 y) :
    ∃ W a b r1 r2 r3, W = ((((w.alloc (.cells #[.bool g1, .int .u64 s1, .slice p1 l1 c1] 28)).alloc (.cells #[.bool g2, .int .u64 s2, .slice p2 l2 c2] 28)).alloc (.cells #[.bool false, .int .u64 0, .slice none 0 0] 28)).alloc (.cells #[.bool false, .int .u64 0, .slice none 0 0] 28)).alloc (.cells #[.bool false, .int .u64 0, .slice none 0 0] 28) ∧
      r3 = w.heap.size + 1 + 1 + 1 + 1 ∧ r2 = w.heap.size + 1 + 1 + 1 ∧ r1 = w.heap.size + 1 + 1 ∧ b = w.heap.size + 1 ∧ a = w.heap.size ∧ Bz w W x y a b r1 r2 r3 g1 s1 p1 l1 c1 g2 s2 p2 l2 c2 := by
  obtain ⟨W, hW⟩ : ∃ W, W = ((((w.alloc (.cells #[.bool g1, .int .u64 s1, .slice p1 l1 c1] 28)).alloc (.cells #[.bool g2, .int .u64 s2, .slice p2 l2 c2] 28)).alloc (.cells #[.bool false, .int .u64 0, .slice none 0 0] 28)).alloc (.cells #[.bool false, .int .u64 0, .slice none 0 0] 28)).alloc (.cells #[.bool false, .int .u64 0, .slice none 0 0] 28) := ⟨_, rfl⟩
  have HB : Below w.heap.size w W := by rw [hW]; exact below_alloc (below_alloc (below_alloc (below_alloc (below_alloc (Below.refl _ _) _) _) _) _) _
  refine ⟨W, _, _, _, _, _, hW, rfl, rfl, rfl, rfl, rfl, HB, ⟨?_, ?_, ?_⟩, ⟨?_, ?_, ?_⟩, h1.mono HB, h2.mono HB, ⟨_, .mkInt (g := false) (s := 0) (p := none) (l := 0) (c := 0) ?_ ?_ ?_⟩, ⟨_, .mkInt (g := false) (s := 0) (p := none) (l := 0) (c := 0) ?_ ?_ ?_⟩, ⟨_, .mkInt (g := false) (s := 0) (p := none) (l := 0) (c := 0) ?_ ?_ ?_⟩, free3 ?_ ?_ ?_, free3 ?_ ?_ ?_, free3 ?_ ?_ ?_, by omega, by omega, by omega, by omega, by omega, ?_⟩
  any_goals (simp [hW, go_sem]; done)

theorem BoxHas.made (w : World) (k : BK) (cs : List Value) (t : TypeId) (hf : Fits k.shape cs) : BoxHas (w.alloc (.cells cs.toArray t)) w.heap.size k (.agg cs.toArray) :=
  ⟨cs, rfl, hf, fun i x hx => by rw [World.cell?_alloc_at _ _ _ _ rfl]; simpa using hx⟩
theorem BoxFree.made (w : World) (k : BK) (o : Array Value) (t : TypeId) : BoxFree (w.alloc (.cells o t)) w.heap.size k := fun i _ => by simp [go_sem]

def RetBez (W : World) (x y : Int) : Ending → World → Prop := fun e w' =>
  ∃ X Y g1 s1 p1 l1 c1 g2 s2 p2 l2 c2 g3 s3 p3 l3 c3, e = .returned (.tuple #[.agg #[.bool g1, .int .u64 s1, .slice p1 l1 c1], .agg #[.bool g2, .int .u64 s2, .slice p2 l2 c2], .agg #[.bool g3, .int .u64 s3, .slice p3 l3 c3]]) ∧
    BezSpec x y X Y ∧ IsI w' g1 s1 p1 l1 c1 ((Nat.gcd x.natAbs y.natAbs : Nat) : Int) ∧ IsI w' g2 s2 p2 l2 c2 X ∧ IsI w' g3 s3 p3 l3 c3 Y ∧ Below W.heap.size W w'
end Go.Proofs.YtfjjmhbffbhhdaaGreatDoor
