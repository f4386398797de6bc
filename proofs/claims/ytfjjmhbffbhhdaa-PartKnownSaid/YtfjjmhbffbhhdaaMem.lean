/- What stands in memory: rows of numbers, the program's numbers, and what a call leaves as it was. -/
import Derived.Test.YtfjjmhbffbhhdaaNum
import Derived.Test.YtfjjmhbffbhhdaaRows
import Derived.Deep.QuietTactic
namespace Go.Proofs.Ytfjjmhbffbhhdaa
open Go.RowKit

/-- From place off of block b on stand these numbers, a cell each. -/
def At (w : World) (k : IntKind) (b off : Nat) (xs : List Nat) : Prop :=
  ∀ i, i < xs.length → w.cell? ⟨b, off + i, none⟩ = some (.int k ((xs.getD i 0 : Nat) : Int))

/-- These places may be written. -/
def Fr (w : World) (b off n : Nat) : Prop := ∀ i, i < n → w.frozen? ⟨b, off + i, none⟩ = false

theorem At.lt {w : World} {k : IntKind} {b off : Nat} {xs : List Nat} (h : At w k b off xs) (h0 : 0 < xs.length) : b < w.heap.size :=
  World.block_lt_of_cell? w ⟨b, off + 0, none⟩ (h 0 h0)

theorem At.zero {w : World} {k : IntKind} {b : Nat} {xs : List Nat} (h : At w k b 0 xs) (i : Nat) (hi : i < xs.length) : w.cell? ⟨b, i, none⟩ = some (.int k ((xs.getD i 0 : Nat) : Int)) := by
  have := h i hi
  rwa [Nat.zero_add] at this
theorem Fr.zero {w : World} {b n : Nat} (h : Fr w b 0 n) (i : Nat) (hi : i < n) : w.frozen? ⟨b, i, none⟩ = false := by
  have := h i hi
  rwa [Nat.zero_add] at this
theorem getD_set (xs : List Nat) (i j y : Nat) (hi : i < xs.length) : (xs.set i y).getD j 0 = if j = i then y else xs.getD j 0 := by
  by_cases e : j = i
  · subst e; simp [List.getD, hi]
  · have e' : ¬ i = j := fun h => e h.symm
    simp [List.getD, e, e']

theorem shr_cast (x s m : Nat) : ((x / 2 ^ s % m : Nat) : Int) = (x : Int) / 2 ^ s % m := by
  rw [Int.natCast_emod, Int.natCast_ediv, Int.natCast_pow]; rfl

theorem At.nil (w : World) (k : IntKind) (b off : Nat) : At w k b off [] := fun i hi => by simp at hi

theorem At.mono {w w' : World} {k : IntKind} {b off : Nat} {xs : List Nat} (h : At w k b off xs) (hb : Below w.heap.size w w') : At w' k b off xs := by
  intro i hi
  have h1 := h i hi
  have h2 := World.block_lt_of_cell? _ _ h1
  rw [hb.cell (p := ⟨b, off + i, none⟩) h2]; exact h1

theorem At.monoB {w w' : World} {k : IntKind} {b off B : Nat} {xs : List Nat} (h : At w k b off xs) (hb : Below B w w') (hB : b < B) : At w' k b off xs := by
  intro i hi
  rw [hb.cell (p := ⟨b, off + i, none⟩) hB]; exact h i hi

theorem Fr.mono {w w' : World} {b off n : Nat} (h : Fr w b off n) (hb : Below w.heap.size w w') (hl : b < w.heap.size) : Fr w' b off n := by
  intro i hi
  rw [hb.frozen (p := ⟨b, off + i, none⟩) hl]; exact h i hi

theorem Fr.sub {w : World} {b off n k m : Nat} (h : Fr w b off n) (hk : k + m ≤ n) : Fr w b (off + k) m := by
  intro i hi
  rw [Nat.add_assoc]; exact h (k + i) (by omega)

/-- A part of a row. -/
theorem At.drop {w : World} {k : IntKind} {b off : Nat} {xs : List Nat} (h : At w k b off xs) (n : Nat) : At w k b (off + n) (xs.drop n) := by
  intro i hi
  rw [List.length_drop] at hi
  rw [Nat.add_assoc, h (n + i) (by omega)]
  simp [List.getD, List.getElem?_drop]

theorem At.take {w : World} {k : IntKind} {b off : Nat} {xs : List Nat} (h : At w k b off xs) (n : Nat) : At w k b off (xs.take n) := by
  intro i hi
  rw [List.length_take] at hi
  rw [h i (by omega)]
  simp [List.getD, (by omega : i < n)]

theorem At.set {w : World} {k : IntKind} {b off : Nat} {xs : List Nat} (h : At w k b off xs) (j y : Nat) (hj : j < xs.length) :
    At (w.setCell ⟨b, off + j, none⟩ (.int k (y : Int))) k b off (xs.set j y) := by
  intro i hi
  rw [List.length_set] at hi
  by_cases e : i = j
  · subst e
    rw [World.cell?_setCell_same _ _ _ (h i hi)]
    simp [List.getD, hi]
  · have e' : ¬ j = i := fun h => e h.symm
    rw [World.cell?_setCell_other _ _ _ _ (by intro e2; injection e2; omega), h i hi]
    simp [List.getD, e']

theorem At.setOther {w : World} {k : IntKind} {b off : Nat} {xs : List Nat} (h : At w k b off xs) (a : Addr) (v : Value) (hj : a.block ≠ b) :
    At (w.setCell a v) k b off xs := by
  intro i hi
  rw [World.cell?_setCell_other _ _ _ _ (by intro e; exact hj (by rw [e])), h i hi]

theorem Fr.setCell {w : World} {b off n : Nat} (h : Fr w b off n) (a : Addr) (v : Value) : Fr (w.setCell a v) b off n := by
  intro i hi
  rw [World.frozen?_setCell]; exact h i hi

/-- The call has written to n places of block b from place off on, and to new blocks: all else is as it was. -/
structure Only (w w' : World) (b off n : Nat) : Prop where
  os : w'.os = w.os
  tape : w'.tape = w.tape
  output : w'.output = w.output
  size : w.heap.size ≤ w'.heap.size
  block : ∀ k, k < w.heap.size → k ≠ b → w'.heap[k]? = w.heap[k]?
  cell : ∀ o, (o < off ∨ off + n ≤ o) → w'.cell? ⟨b, o, none⟩ = w.cell? ⟨b, o, none⟩
  frozen : ∀ o, w'.frozen? ⟨b, o, none⟩ = w.frozen? ⟨b, o, none⟩

theorem Only.refl (w : World) (b off n : Nat) : Only w w b off n :=
  ⟨rfl, rfl, rfl, Nat.le_refl _, fun _ _ _ => rfl, fun _ _ => rfl, fun _ => rfl⟩

theorem Only.trans {w w1 w2 : World} {b off n : Nat} (h : Only w w1 b off n) (k : Only w1 w2 b off n) : Only w w2 b off n :=
  ⟨k.os.trans h.os, k.tape.trans h.tape, k.output.trans h.output, Nat.le_trans h.size k.size, fun i hi hb => (k.block i (Nat.lt_of_lt_of_le hi h.size) hb).trans (h.block i hi hb),
    fun o ho => (k.cell o ho).trans (h.cell o ho), fun o => (k.frozen o).trans (h.frozen o)⟩

theorem Only.wider {w w' : World} {b off n off' n' : Nat} (h : Only w w' b off n) (h1 : off' ≤ off) (h2 : off + n ≤ off' + n') : Only w w' b off' n' :=
  ⟨h.os, h.tape, h.output, h.size, h.block, fun o ho => h.cell o (by omega), h.frozen⟩

theorem Only.setCell {w w' : World} {b off n : Nat} (h : Only w w' b off n) (j : Nat) (h1 : off ≤ j) (h2 : j < off + n) (v : Value) : Only w (w'.setCell ⟨b, j, none⟩ v) b off n :=
  h.trans ⟨rfl, rfl, rfl, by simp [World.setCell], fun k _ hb => Below.heap_setCell _ _ _ _ hb,
    fun o ho => World.cell?_setCell_other _ _ _ _ (by intro e2; injection e2; omega), fun o => World.frozen?_setCell _ _ _ _⟩

theorem Only.of_below {w w' : World} {b off n : Nat} (h : Below w.heap.size w w') (hb : b < w.heap.size) : Only w w' b off n :=
  ⟨h.os, h.tape, h.output, h.size, fun k hk _ => h.block k hk, fun o _ => h.cell (p := ⟨b, o, none⟩) hb, fun o => h.frozen (p := ⟨b, o, none⟩) hb⟩

theorem Only.drew {w w' : World} {b off n : Nat} (h : Only w w' b off n) : Only w w'.drew b off n :=
  h.trans ⟨rfl, rfl, rfl, Nat.le_refl _, fun _ _ _ => rfl, fun _ _ => rfl, fun _ => rfl⟩

/-- Below a block of the call's own all is as it was. -/
theorem Only.below {w w' : World} {b off n B : Nat} (h : Only w w' b off n) (hB : B ≤ b) (hw : B ≤ w.heap.size) : Below B w w' :=
  ⟨h.os, h.tape, h.output, h.size, fun k hk => h.block k (by omega) (by omega)⟩

theorem At.only {w w' : World} {k : IntKind} {b off bz oz n : Nat} {xs : List Nat} (h : At w k b off xs) (ho : Only w w' bz oz n) (hb : b ≠ bz) : At w' k b off xs := by
  intro i hi
  have h1 := h i hi
  have h2 := World.block_lt_of_cell? _ _ h1
  rw [← h1]
  exact World.cell?_of_block (w := w) (ho.block b h2 hb)

/-- A part of the very block that lies outside of what was written. -/
theorem At.onlyOut {w w' : World} {k : IntKind} {b off oz n : Nat} {xs : List Nat} (h : At w k b off xs) (ho : Only w w' b oz n) (hd : off + xs.length ≤ oz ∨ oz + n ≤ off) : At w' k b off xs := by
  intro i hi
  rw [← h i hi]
  exact ho.cell _ (by omega)

theorem Fr.only {w w' : World} {b off m oz n : Nat} (h : Fr w b off m) (ho : Only w w' b oz n) : Fr w' b off m := by
  intro i hi
  rw [ho.frozen]; exact h i hi

theorem Fr.onlyOther {w w' : World} {b off m bz oz n : Nat} (h : Fr w b off m) (ho : Only w w' bz oz n) (hl : b < w.heap.size) (hb : b ≠ bz) : Fr w' b off m := by
  intro i hi
  rw [← h i hi]
  exact World.frozen?_of_block (w := w) (ho.block b hl hb)

theorem At.append {w : World} {k : IntKind} {b off : Nat} {xs ys : List Nat} (h : At w k b off xs) (h2 : At w k b (off + xs.length) ys) : At w k b off (xs ++ ys) := by
  intro i hi
  rw [List.length_append] at hi
  by_cases hx : i < xs.length
  · rw [h i hx]; simp [List.getD, List.getElem?_append, hx]
  · have := h2 (i - xs.length) (by omega)
    rw [show off + xs.length + (i - xs.length) = off + i from by omega] at this
    rw [this]; simp [List.getD, List.getElem?_append, hx]

/-- What a contract's 'Below' says of the cells that were there. -/
theorem bcell {W w1 : World} (hb : Below W.heap.size W w1) : (∀ b o, b < W.heap.size → w1.cell? ⟨b, o, none⟩ = W.cell? ⟨b, o, none⟩) ∧ (∀ b o, b < W.heap.size → w1.frozen? ⟨b, o, none⟩ = W.frozen? ⟨b, o, none⟩) :=
  ⟨fun b o h => hb.cell (p := ⟨b, o, none⟩) h, fun b o h => hb.frozen (p := ⟨b, o, none⟩) h⟩

/-- The digits of 64 bits; the digits as the program has them: of 0 one. -/
def dw (n : Nat) : List Nat := digs (2 ^ 64) n
def ds (n : Nat) : List Nat := if n = 0 then [0] else dw n

theorem ds_small {n : Nat} (h : n < 2 ^ 64) : ds n = [n] := by
  unfold ds dw
  by_cases h0 : n = 0
  · simp [h0]
  · rw [if_neg h0, digs_pos (by omega) h0, Nat.mod_eq_of_lt h, Nat.div_eq_of_lt h, digs_zero]
theorem ds_big {n : Nat} (h : n ≠ 0) : ds n = dw n := by unfold ds; rw [if_neg h]
theorem val_ds (n : Nat) : val (2 ^ 64) (ds n) = n := by
  unfold ds
  split
  · subst_vars; rfl
  · exact val_digs (by omega) n
theorem ds_lt (n : Nat) : ∀ x ∈ ds n, x < 2 ^ 64 := by
  unfold ds
  split
  · intro x hx; simp at hx; omega
  · exact digs_lt (by omega) n
theorem ds_pos (n : Nat) : 0 < (ds n).length := by
  unfold ds
  split
  · simp
  · rename_i h; exact List.length_pos_iff.2 (digs_ne_nil (by omega) h)
theorem ds_two {n : Nat} (h : 2 ^ 64 ≤ n) : 2 ≤ (ds n).length := by
  rw [ds_big (by omega)]; exact digs_length_lt (k := 1) (by omega) (by omega)
theorem ds_one {n : Nat} (h : n < 2 ^ 64) : (ds n).length = 1 := by rw [ds_small h]; rfl
theorem ds_mono {m n : Nat} (h : m ≤ n) : (ds m).length ≤ (ds n).length := by
  by_cases h0 : m = 0
  · subst h0; rw [ds_one (by omega)]; exact ds_pos n
  · rw [ds_big h0, ds_big (by omega)]; exact digs_length_mono (by omega) h
theorem lt_ds (n : Nat) : n < (2 ^ 64) ^ (ds n).length := by
  have := val_lt (2 ^ 64) (ds n) (ds_lt n)
  rwa [val_ds] at this
theorem ds_le {n k : Nat} (hk : 0 < k) (h : n < (2 ^ 64) ^ k) : (ds n).length ≤ k := by
  by_cases h0 : n = 0
  · subst h0; rw [ds_one (by omega)]; exact hk
  · rw [ds_big h0]; exact digs_length_le (by omega) h
theorem ds_last {n : Nat} (h : n ≠ 0) : (ds n).getD ((ds n).length - 1) 0 ≠ 0 := by
  rw [ds_big h]; exact digs_last (by omega) h

/-- The parts of a value of the program's type of numbers say the number n. -/
def IsN (w : World) (s : Int) (p : Option Addr) (l c : Nat) (n : Nat) : Prop :=
  (n < 2 ^ 64 ∧ s = (n : Int) ∧ p = none ∧ l = 0 ∧ c = 0) ∨
  (2 ^ 64 ≤ n ∧ s = 0 ∧ ∃ b off, p = some ⟨b, off, none⟩ ∧ l = (ds n).length ∧ l ≤ c ∧ At w .u64 b off (ds n))

theorem IsN.mono {w w' : World} {s : Int} {p : Option Addr} {l c n : Nat} (h : IsN w s p l c n) (hb : Below w.heap.size w w') : IsN w' s p l c n := by
  rcases h with h | ⟨h1, h2, b, off, h3, h4, h5, h6⟩
  · exact Or.inl h
  · exact Or.inr ⟨h1, h2, b, off, h3, h4, h5, h6.mono hb⟩

theorem IsN.short {w : World} {n : Nat} (h : n < 2 ^ 64) : IsN w (n : Int) none 0 0 n := Or.inl ⟨h, rfl, rfl, rfl, rfl⟩

/-- What a call that returns a number leaves. -/
def RetN (W : World) (n : Nat) : Ending → World → Prop := fun e w' =>
  ∃ s p l c, e = .returned (.agg #[.int .u64 s, .slice p l c]) ∧ IsN w' s p l c n ∧ Below W.heap.size W w'

theorem RetN.short {W w' : World} {n : Nat} (h : n < 2 ^ 64) (hb : Below W.heap.size W w') : RetN W n (.returned (.agg #[.int .u64 (n : Int), .slice none 0 0])) w' :=
  ⟨_, _, _, _, rfl, .short h, hb⟩

/-- What a call that returns a row leaves: of memory of its own; or of any memory. -/
def RetW (W : World) (k : IntKind) (xs : List Nat) : Ending → World → Prop := fun e w' =>
  ∃ b off c, e = .returned (.slice (some ⟨b, off, none⟩) xs.length c) ∧ xs.length ≤ c ∧ W.heap.size ≤ b ∧ At w' k b off xs ∧ Fr w' b off xs.length ∧ Below W.heap.size W w'
def RetL (W : World) (k : IntKind) (xs : List Nat) : Ending → World → Prop := fun e w' =>
  ∃ b off c, e = .returned (.slice (some ⟨b, off, none⟩) xs.length c) ∧ xs.length ≤ c ∧ At w' k b off xs ∧ Below W.heap.size W w'

/-- What the trimming of a row leaves: its head, up to the last digit that is not 0. -/
def RetTrim (W : World) (base b off c : Nat) (xs : List Nat) : Ending → World → Prop := fun e w' =>
  W = w' ∧ e = .returned (.slice (some ⟨b, off, none⟩) (digs base (val base xs)).length c) ∧ xs.take (digs base (val base xs)).length = digs base (val base xs)

theorem RetTrim.mk {W : World} {base b off c : Nat} {xs : List Nat} {n : Nat} (hb : 2 ≤ base) (hx : ∀ x ∈ xs, x < base) (hn : n ≤ xs.length) (h0 : ∀ i, n ≤ i → i < xs.length → xs.getD i 0 = 0)
    (hl : n ≠ 0 → xs.getD (n - 1) 0 ≠ 0) : RetTrim W base b off c xs (.returned (.slice (some ⟨b, off, none⟩) n c)) W := by
  have h := digs_take hb xs n hx hn h0 hl
  have e : (digs base (val base xs)).length = n := by rw [← h, List.length_take]; omega
  exact ⟨rfl, by rw [e], by rw [e, h]⟩

/-- -1, 0 or 1. -/
def cmp3 (x y : Int) : Int := if x < y then -1 else if y < x then 1 else 0
theorem cmp3_lt {x y : Int} (h : x < y) : cmp3 x y = -1 := by unfold cmp3; rw [if_pos h]
theorem cmp3_gt {x y : Int} (h : y < x) : cmp3 x y = 1 := by unfold cmp3; rw [if_neg (by omega), if_pos h]
theorem cmp3_eq (x : Int) : cmp3 x x = 0 := by unfold cmp3; rw [if_neg (by omega), if_neg (by omega)]

theorem ret_slice {p : Option Addr} {l l' c : Nat} (h : l = l') : Ending.returned (.slice p l c) = .returned (.slice p l' c) := by rw [h]
theorem ret_int {k : IntKind} {a b : Int} (h : a = b) : Ending.returned (.int k a) = .returned (.int k b) := by rw [h]
theorem ret_bool {a b : Bool} (h : a = b) : Ending.returned (.bool a) = .returned (.bool b) := by rw [h]

/-- A cell of an aggregate's block that was just made. -/
theorem At.new1 (w : World) (k : IntKind) (x : Nat) (t : TypeId) : At (w.alloc (.cells #[.int k (x : Int)] t)) k w.heap.size 0 [x] := by
  intro i hi
  have : i = 0 := by simpa using hi
  subst this
  exact World.cell?_alloc_at _ _ _ _ rfl
theorem At.new2 (w : World) (k : IntKind) (x y : Nat) (t : TypeId) : At (w.alloc (.cells #[.int k (x : Int), .int k (y : Int)] t)) k w.heap.size 0 [x, y] := by
  intro i hi
  have : i = 0 ∨ i = 1 := by simp at hi; omega
  rcases this with rfl | rfl
  · exact World.cell?_alloc_at _ _ _ _ rfl
  · exact World.cell?_alloc_at _ _ _ _ rfl

theorem below_alloc {W w : World} (h : Below W.heap.size W w) (o : Obj) : Below W.heap.size W (w.alloc o) := h.alloc h.size o

theorem below_drewN {B : Nat} {a w : World} (h : Below B a w) (n : Nat) : Below B a (w.drewN n) := ⟨h.os, h.tape, h.output, h.size, h.block⟩
theorem quiet_of_eq {P : Program} {f : FuncId} {args : Array Value} {w : World} {n : Nat} {v : Value}
    (h : Calls P f args (w.drewN n) fun e w' => w.drewN n = w' ∧ e = .returned v) : Calls P f args (w.drewN n) fun e w'' => e = .returned v ∧ ∃ m, w'' = w.drewN m :=
  h.mono fun _ _ ⟨hm, he⟩ => ⟨he, n, hm.symm⟩

theorem quiet_eq_add {P : Program} {f : FuncId} {args : Array Value} {w : World} {a n : Nat} {v : Value}
    (h : Calls P f args (w.drewN (a + n)) fun e w' => w.drewN (a + n) = w' ∧ e = .returned v) :
    Calls P f args (w.drewN (a + n)) fun e w'' => e = .returned v ∧ ∃ m, w'' = w.drewN (a + m) :=
  h.mono fun _ _ ⟨hm, he⟩ => ⟨he, n, hm.symm⟩

/-- A step that leaves all older blocks alone, behind another. -/
theorem below_step {W w w' : World} (h : Below W.heap.size W w) (h' : Below w.heap.size w w') : Below W.heap.size W w' := h.trans (h'.mono h.size)

end Go.Proofs.Ytfjjmhbffbhhdaa
