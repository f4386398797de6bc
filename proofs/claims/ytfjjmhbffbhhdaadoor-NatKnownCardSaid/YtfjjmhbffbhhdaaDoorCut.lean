/- What stands in memory: rows of numbers, the program's numbers, and what a call leaves as it was. -/
import Derived.Test.YtfjjmhbffbhhdaaDoorDecTxt
import Derived.Test.YtfjjmhbffbhhdaaDoorRows
import Derived.Deep.QuietTactic
import Derived.WalkSpells
import Derived.WalkLawsBesides
import Derived.BigQuiet
import Derived.BigRegion
import Derived.Laws.BitsAllLaws
import Derived.Lib.Hide
import Derived.OwnWalk
import Derived.Laws.AppendOwnNone
import Derived.Laws.MakeOwn
import Derived.Laws.AppendOwn
namespace Go.Proofs.YtfjjmhbffbhhdaaDoor
open Go.RowKit

def At (w : World) (k : IntKind) (b off : Nat) (xs : List Nat) : Prop :=
  ∀ i, i < xs.length → w.cell? ⟨b, off + i, none⟩ = some (.int k ((xs.getD i 0 : Nat) : Int))

def Fr (w : World) (b off n : Nat) : Prop := ∀ i, i < n → w.frozen? ⟨b, off + i, none⟩ = false

theorem At.lt {w : World} {k : IntKind} {b off : Nat} {xs : List Nat} (h : At w k b off xs) (h0 : 0 < xs.length) : b < w.heap.size :=
  World.block_lt_of_cell? w ⟨b, off + 0, none⟩ (h 0 h0)

theorem At.zero {w : World} {k : IntKind} {b : Nat} {xs : List Nat} (h : At w k b 0 xs) (i : Nat) (hi : i < xs.length) : w.cell? ⟨b, i, none⟩ = some (.int k ((xs.getD i 0 : Nat) : Int)) := by
  have := h i hi
  rwa [Nat.zero_add] at this
theorem Fr.zero {w : World} {b n : Nat} (h : Fr w b 0 n) (i : Nat) (hi : i < n) : w.frozen? ⟨b, i, none⟩ = false := by
  have := h i hi
  rwa [Nat.zero_add] at this
theorem getD_set (xs : List Nat) (i j y : Nat) (hi : i < xs.length) : (xs.set i y).getD j 0 = if j = i then y else xs.getD j 0 := by
  by_cases e : j = i
  · subst e; simp [List.getD, hi]
  · have e' : ¬ i = j := fun h => e h.symm
    simp [List.getD, e, e']

theorem shr_cast (x s m : Nat) : ((x / 2 ^ s % m : Nat) : Int) = (x : Int) / 2 ^ s % m := by
  rw [Int.natCast_emod, Int.natCast_ediv, Int.natCast_pow]; rfl

theorem At.nil (w : World) (k : IntKind) (b off : Nat) : At w k b off [] := fun i hi => by simp at hi

theorem At.mono {w w' : World} {k : IntKind} {b off : Nat} {xs : List Nat} (h : At w k b off xs) (hb : Below w.heap.size w w') : At w' k b off xs := by
  intro i hi
  have h1 := h i hi
  have h2 := World.block_lt_of_cell? _ _ h1
  rw [hb.cell (p := ⟨b, off + i, none⟩) h2]; exact h1

theorem At.monoB {w w' : World} {k : IntKind} {b off B : Nat} {xs : List Nat} (h : At w k b off xs) (hb : Below B w w') (hB : b < B) : At w' k b off xs := by
  intro i hi
  rw [hb.cell (p := ⟨b, off + i, none⟩) hB]; exact h i hi

theorem Fr.mono {w w' : World} {b off n : Nat} (h : Fr w b off n) (hb : Below w.heap.size w w') (hl : b < w.heap.size) : Fr w' b off n := by
  intro i hi
  rw [hb.frozen (p := ⟨b, off + i, none⟩) hl]; exact h i hi

theorem Fr.sub {w : World} {b off n k m : Nat} (h : Fr w b off n) (hk : k + m ≤ n) : Fr w b (off + k) m := by
  intro i hi
  rw [Nat.add_assoc]; exact h (k + i) (by omega)

theorem At.drop {w : World} {k : IntKind} {b off : Nat} {xs : List Nat} (h : At w k b off xs) (n : Nat) : At w k b (off + n) (xs.drop n) := by
  intro i hi
  rw [List.length_drop] at hi
  rw [Nat.add_assoc, h (n + i) (by omega)]
  simp [List.getD, List.getElem?_drop]

theorem At.take {w : World} {k : IntKind} {b off : Nat} {xs : List Nat} (h : At w k b off xs) (n : Nat) : At w k b off (xs.take n) := by
  intro i hi
  rw [List.length_take] at hi
  rw [h i (by omega)]
  simp [List.getD, (by omega : i < n)]

theorem At.set {w : World} {k : IntKind} {b off : Nat} {xs : List Nat} (h : At w k b off xs) (j y : Nat) (hj : j < xs.length) :
    At (w.setCell ⟨b, off + j, none⟩ (.int k (y : Int))) k b off (xs.set j y) := by
  intro i hi
  rw [List.length_set] at hi
  by_cases e : i = j
  · subst e
    rw [World.cell?_setCell_same _ _ _ (h i hi)]
    simp [List.getD, hi]
  · have e' : ¬ j = i := fun h => e h.symm
    rw [World.cell?_setCell_other _ _ _ _ (by intro e2; injection e2; omega), h i hi]
    simp [List.getD, e']

theorem At.setOther {w : World} {k : IntKind} {b off : Nat} {xs : List Nat} (h : At w k b off xs) (a : Addr) (v : Value) (hj : a.block ≠ b) :
    At (w.setCell a v) k b off xs := by
  intro i hi
  rw [World.cell?_setCell_other _ _ _ _ (by intro e; exact hj (by rw [e])), h i hi]

theorem Fr.setCell {w : World} {b off n : Nat} (h : Fr w b off n) (a : Addr) (v : Value) : Fr (w.setCell a v) b off n := by
  intro i hi
  rw [World.frozen?_setCell]; exact h i hi

structure Only (w w' : World) (b off n : Nat) : Prop where
  os : w'.os = w.os
  tape : w'.tape = w.tape
  output : w'.output = w.output
  size : w.heap.size ≤ w'.heap.size
  block : ∀ k, k < w.heap.size → k ≠ b → w'.heap[k]? = w.heap[k]?
  cell : ∀ o, (o < off ∨ off + n ≤ o) → w'.cell? ⟨b, o, none⟩ = w.cell? ⟨b, o, none⟩
  frozen : ∀ o, w'.frozen? ⟨b, o, none⟩ = w.frozen? ⟨b, o, none⟩

theorem Only.refl (w : World) (b off n : Nat) : Only w w b off n :=
  ⟨rfl, rfl, rfl, Nat.le_refl _, fun _ _ _ => rfl, fun _ _ => rfl, fun _ => rfl⟩

theorem Only.trans {w w1 w2 : World} {b off n : Nat} (h : Only w w1 b off n) (k : Only w1 w2 b off n) : Only w w2 b off n :=
  ⟨k.os.trans h.os, k.tape.trans h.tape, k.output.trans h.output, Nat.le_trans h.size k.size, fun i hi hb => (k.block i (Nat.lt_of_lt_of_le hi h.size) hb).trans (h.block i hi hb),
    fun o ho => (k.cell o ho).trans (h.cell o ho), fun o => (k.frozen o).trans (h.frozen o)⟩

theorem Only.wider {w w' : World} {b off n off' n' : Nat} (h : Only w w' b off n) (h1 : off' ≤ off) (h2 : off + n ≤ off' + n') : Only w w' b off' n' :=
  ⟨h.os, h.tape, h.output, h.size, h.block, fun o ho => h.cell o (by omega), h.frozen⟩

theorem Only.setCell {w w' : World} {b off n : Nat} (h : Only w w' b off n) (j : Nat) (h1 : off ≤ j) (h2 : j < off + n) (v : Value) : Only w (w'.setCell ⟨b, j, none⟩ v) b off n :=
  h.trans ⟨rfl, rfl, rfl, by simp [World.setCell], fun k _ hb => Below.heap_setCell _ _ _ _ hb,
    fun o ho => World.cell?_setCell_other _ _ _ _ (by intro e2; injection e2; omega), fun o => World.frozen?_setCell _ _ _ _⟩

theorem Only.of_below {w w' : World} {b off n : Nat} (h : Below w.heap.size w w') (hb : b < w.heap.size) : Only w w' b off n :=
  ⟨h.os, h.tape, h.output, h.size, fun k hk _ => h.block k hk, fun o _ => h.cell (p := ⟨b, o, none⟩) hb, fun o => h.frozen (p := ⟨b, o, none⟩) hb⟩

theorem Only.drew {w w' : World} {b off n : Nat} (h : Only w w' b off n) : Only w w'.drew b off n :=
  h.trans ⟨rfl, rfl, rfl, Nat.le_refl _, fun _ _ _ => rfl, fun _ _ => rfl, fun _ => rfl⟩

theorem Only.below {w w' : World} {b off n B : Nat} (h : Only w w' b off n) (hB : B ≤ b) (hw : B ≤ w.heap.size) : Below B w w' :=
  ⟨h.os, h.tape, h.output, h.size, fun k hk => h.block k (by omega) (by omega)⟩

theorem At.only {w w' : World} {k : IntKind} {b off bz oz n : Nat} {xs : List Nat} (h : At w k b off xs) (ho : Only w w' bz oz n) (hb : b ≠ bz) : At w' k b off xs := by
  intro i hi
  have h1 := h i hi
  have h2 := World.block_lt_of_cell? _ _ h1
  rw [← h1]
  exact World.cell?_of_block (w := w) (ho.block b h2 hb)

theorem At.onlyOut {w w' : World} {k : IntKind} {b off oz n : Nat} {xs : List Nat} (h : At w k b off xs) (ho : Only w w' b oz n) (hd : off + xs.length ≤ oz ∨ oz + n ≤ off) : At w' k b off xs := by
  intro i hi
  rw [← h i hi]
  exact ho.cell _ (by omega)

theorem Fr.only {w w' : World} {b off m oz n : Nat} (h : Fr w b off m) (ho : Only w w' b oz n) : Fr w' b off m := by
  intro i hi
  rw [ho.frozen]; exact h i hi

theorem Fr.onlyOther {w w' : World} {b off m bz oz n : Nat} (h : Fr w b off m) (ho : Only w w' bz oz n) (hl : b < w.heap.size) (hb : b ≠ bz) : Fr w' b off m := by
  intro i hi
  rw [← h i hi]
  exact World.frozen?_of_block (w := w) (ho.block b hl hb)

theorem At.append {w : World} {k : IntKind} {b off : Nat} {xs ys : List Nat} (h : At w k b off xs) (h2 : At w k b (off + xs.length) ys) : At w k b off (xs ++ ys) := by
  intro i hi
  rw [List.length_append] at hi
  by_cases hx : i < xs.length
  · rw [h i hx]; simp [List.getD, List.getElem?_append, hx]
  · have := h2 (i - xs.length) (by omega)
    rw [show off + xs.length + (i - xs.length) = off + i from by omega] at this
    rw [this]; simp [List.getD, List.getElem?_append, hx]

theorem bcell {W w1 : World} (hb : Below W.heap.size W w1) : (∀ b o, b < W.heap.size → w1.cell? ⟨b, o, none⟩ = W.cell? ⟨b, o, none⟩) ∧ (∀ b o, b < W.heap.size → w1.frozen? ⟨b, o, none⟩ = W.frozen? ⟨b, o, none⟩) :=
  ⟨fun b o h => hb.cell (p := ⟨b, o, none⟩) h, fun b o h => hb.frozen (p := ⟨b, o, none⟩) h⟩

def dw (n : Nat) : List Nat := digs (2 ^ 64) n
def ds (n : Nat) : List Nat := if n = 0 then [0] else dw n

theorem ds_small {n : Nat} (h : n < 2 ^ 64) : ds n = [n] := by
  unfold ds dw
  by_cases h0 : n = 0
  · simp [h0]
  · rw [if_neg h0, digs_pos (by omega) h0, Nat.mod_eq_of_lt h, Nat.div_eq_of_lt h, digs_zero]
theorem ds_big {n : Nat} (h : n ≠ 0) : ds n = dw n := by unfold ds; rw [if_neg h]
theorem val_ds (n : Nat) : val (2 ^ 64) (ds n) = n := by
  unfold ds
  split
  · subst_vars; rfl
  · exact val_digs (by omega) n
theorem ds_lt (n : Nat) : ∀ x ∈ ds n, x < 2 ^ 64 := by
  unfold ds
  split
  · intro x hx; simp at hx; omega
  · exact digs_lt (by omega) n
theorem ds_pos (n : Nat) : 0 < (ds n).length := by
  unfold ds
  split
  · simp
  · rename_i h; exact List.length_pos_iff.2 (digs_ne_nil (by omega) h)
theorem ds_two {n : Nat} (h : 2 ^ 64 ≤ n) : 2 ≤ (ds n).length := by
  rw [ds_big (by omega)]; exact digs_length_lt (k := 1) (by omega) (by omega)
theorem ds_one {n : Nat} (h : n < 2 ^ 64) : (ds n).length = 1 := by rw [ds_small h]; rfl
theorem ds_mono {m n : Nat} (h : m ≤ n) : (ds m).length ≤ (ds n).length := by
  by_cases h0 : m = 0
  · subst h0; rw [ds_one (by omega)]; exact ds_pos n
  · rw [ds_big h0, ds_big (by omega)]; exact digs_length_mono (by omega) h
theorem lt_ds (n : Nat) : n < (2 ^ 64) ^ (ds n).length := by
  have := val_lt (2 ^ 64) (ds n) (ds_lt n)
  rwa [val_ds] at this
theorem ds_le {n k : Nat} (hk : 0 < k) (h : n < (2 ^ 64) ^ k) : (ds n).length ≤ k := by
  by_cases h0 : n = 0
  · subst h0; rw [ds_one (by omega)]; exact hk
  · rw [ds_big h0]; exact digs_length_le (by omega) h
theorem ds_last {n : Nat} (h : n ≠ 0) : (ds n).getD ((ds n).length - 1) 0 ≠ 0 := by
  rw [ds_big h]; exact digs_last (by omega) h

def IsN (w : World) (s : Int) (p : Option Addr) (l c : Nat) (n : Nat) : Prop :=
  (n < 2 ^ 64 ∧ s = (n : Int) ∧ p = none ∧ l = 0 ∧ c = 0) ∨
  (2 ^ 64 ≤ n ∧ s = 0 ∧ ∃ b off, p = some ⟨b, off, none⟩ ∧ l = (ds n).length ∧ l ≤ c ∧ At w .u64 b off (ds n))

theorem IsN.mono {w w' : World} {s : Int} {p : Option Addr} {l c n : Nat} (h : IsN w s p l c n) (hb : Below w.heap.size w w') : IsN w' s p l c n := by
  rcases h with h | ⟨h1, h2, b, off, h3, h4, h5, h6⟩
  · exact Or.inl h
  · exact Or.inr ⟨h1, h2, b, off, h3, h4, h5, h6.mono hb⟩

theorem IsN.short {w : World} {n : Nat} (h : n < 2 ^ 64) : IsN w (n : Int) none 0 0 n := Or.inl ⟨h, rfl, rfl, rfl, rfl⟩

def RetN (W : World) (n : Nat) : Ending → World → Prop := fun e w' =>
  ∃ s p l c, e = .returned (.agg #[.int .u64 s, .slice p l c]) ∧ IsN w' s p l c n ∧ Below W.heap.size W w'

theorem RetN.short {W w' : World} {n : Nat} (h : n < 2 ^ 64) (hb : Below W.heap.size W w') : RetN W n (.returned (.agg #[.int .u64 (n : Int), .slice none 0 0])) w' :=
  ⟨_, _, _, _, rfl, .short h, hb⟩

def RetW (W : World) (k : IntKind) (xs : List Nat) : Ending → World → Prop := fun e w' =>
  ∃ b off c, e = .returned (.slice (some ⟨b, off, none⟩) xs.length c) ∧ xs.length ≤ c ∧ W.heap.size ≤ b ∧ At w' k b off xs ∧ Fr w' b off xs.length ∧ Below W.heap.size W w'
def RetL (W : World) (k : IntKind) (xs : List Nat) : Ending → World → Prop := fun e w' =>
  ∃ b off c, e = .returned (.slice (some ⟨b, off, none⟩) xs.length c) ∧ xs.length ≤ c ∧ At w' k b off xs ∧ Below W.heap.size W w'

def RetTrim (W : World) (base b off c : Nat) (xs : List Nat) : Ending → World → Prop := fun e w' =>
  W = w' ∧ e = .returned (.slice (some ⟨b, off, none⟩) (digs base (val base xs)).length c) ∧ xs.take (digs base (val base xs)).length = digs base (val base xs)

theorem RetTrim.mk {W : World} {base b off c : Nat} {xs : List Nat} {n : Nat} (hb : 2 ≤ base) (hx : ∀ x ∈ xs, x < base) (hn : n ≤ xs.length) (h0 : ∀ i, n ≤ i → i < xs.length → xs.getD i 0 = 0)
    (hl : n ≠ 0 → xs.getD (n - 1) 0 ≠ 0) : RetTrim W base b off c xs (.returned (.slice (some ⟨b, off, none⟩) n c)) W := by
  have h := digs_take hb xs n hx hn h0 hl
  have e : (digs base (val base xs)).length = n := by rw [← h, List.length_take]; omega
  exact ⟨rfl, by rw [e], by rw [e, h]⟩

def cmp3 (x y : Int) : Int := if x < y then -1 else if y < x then 1 else 0
theorem cmp3_lt {x y : Int} (h : x < y) : cmp3 x y = -1 := by unfold cmp3; rw [if_pos h]
theorem cmp3_gt {x y : Int} (h : y < x) : cmp3 x y = 1 := by unfold cmp3; rw [if_neg (by omega), if_pos h]
theorem cmp3_eq (x : Int) : cmp3 x x = 0 := by unfold cmp3; rw [if_neg (by omega), if_neg (by omega)]

theorem ret_slice {p : Option Addr} {l l' c : Nat} (h : l = l') : Ending.returned (.slice p l c) = .returned (.slice p l' c) := by rw [h]
theorem ret_int {k : IntKind} {a b : Int} (h : a = b) : Ending.returned (.int k a) = .returned (.int k b) := by rw [h]
theorem At.new1 (w : World) (k : IntKind) (x : Nat) (t : TypeId) : At (w.alloc (.cells #[.int k (x : Int)] t)) k w.heap.size 0 [x] := by
  intro i hi
  have : i = 0 := by simpa using hi
  subst this
  exact World.cell?_alloc_at _ _ _ _ rfl
theorem At.new2 (w : World) (k : IntKind) (x y : Nat) (t : TypeId) : At (w.alloc (.cells #[.int k (x : Int), .int k (y : Int)] t)) k w.heap.size 0 [x, y] := by
  intro i hi
  have : i = 0 ∨ i = 1 := by simp at hi; omega
  rcases this with rfl | rfl
  · exact World.cell?_alloc_at _ _ _ _ rfl
  · exact World.cell?_alloc_at _ _ _ _ rfl

theorem below_alloc {W w : World} (h : Below W.heap.size W w) (o : Obj) : Below W.heap.size W (w.alloc o) := h.alloc h.size o

theorem below_drewN {B : Nat} {a w : World} (h : Below B a w) (n : Nat) : Below B a (w.drewN n) := ⟨h.os, h.tape, h.output, h.size, h.block⟩
theorem quiet_eq_add {P : Program} {f : FuncId} {args : Array Value} {w : World} {a n : Nat} {v : Value}
    (h : Calls P f args (w.drewN (a + n)) fun e w' => w.drewN (a + n) = w' ∧ e = .returned v) :
    Calls P f args (w.drewN (a + n)) fun e w'' => e = .returned v ∧ ∃ m, w'' = w.drewN (a + m) :=
  h.mono fun _ _ ⟨hm, he⟩ => ⟨he, n, hm.symm⟩

theorem below_step {W w w' : World} (h : Below W.heap.size W w) (h' : Below w.heap.size w w') : Below W.heap.size W w' := h.trans (h'.mono h.size)

end Go.Proofs.YtfjjmhbffbhhdaaDoor

/- Rows of bytes: a slice that says bytes; the first bytes of an argument. -/
namespace Go.Proofs.YtfjjmhbffbhhdaaDoor
open Go.RowKit

theorem Tryd.infoU8 : (Tryd.prog.info? 5).map (fun i => (i.zero, i.size, i.bytes)) = some (some (.int .u8 0), 1, 1) := by kernel_rfl
theorem Tryd.cellsU8 : Tryd.prog.cellsOf 5 = 1 := by kernel_rfl

theorem run_make_one {P : Program} (t e : TypeId) (k : IntKind) (by_ n : Nat) (ht : P.underlying t = some (.slice e)) (hi : (P.info? e).map (fun i => (i.zero, i.size, i.bytes)) = some (some (.int k 0), 1, by_))
    (hb : by_ ≤ 8) (hn : n ≤ 1099511627776) (w : World) :
    (Instr.makeSlice t (.int .i64 (n : Int)) (.int .i64 (n : Int))).run P w = .ok (.slice (some ⟨w.heap.size, 0, none⟩) n n) (w.alloc (.cells (madeCells #[.int k 0] n) e)) := by
  obtain ⟨i0, h1, h2, h3, h4⟩ := info_parts hi
  have hbb : i0.bytes * n ≤ 8 * n := Nat.mul_le_mul_right n (by omega)
  have hb' : (i0.bytes : Int) * (n : Int) ≤ 281474976710656 := by
    have h : ((i0.bytes * n : Nat) : Int) ≤ 281474976710656 := by omega
    rwa [Int.natCast_mul] at h
  have hr := run_make (P := P) w t e i0 _ ht h1 h2 .i64 .i64 n n (by omega) (by omega) hb' (by omega)
  simp only [Int.toNat_natCast, h3, Nat.mul_one] at hr
  exact hr

theorem make_u8 (n : Nat) (hn : n ≤ 1099511627776) (w : World) : (Instr.makeSlice 40 (.int .i64 (n : Int)) (.int .i64 (n : Int))).run Tryd.prog w = .ok (.slice (some ⟨w.heap.size, 0, none⟩) n n) (w.alloc (.cells (madeCells #[.int .u8 0] n) 5)) :=
  run_make_one _ _ _ 1 n Tryd.underlying40 Tryd.infoU8 (by omega) hn w
theorem At.made (w : World) (k : IntKind) (n : Nat) (t : TypeId) : At (w.alloc (.cells (madeCells #[.int k 0] n) t)) k w.heap.size 0 (List.replicate n 0) := by
  intro i hi
  have hi' : i < n := by simpa using hi
  rw [World.cell?_alloc_at _ _ _ _ rfl]
  simp [madeCells, hi', Nat.mod_one]

theorem Fr.made (w : World) (k : IntKind) (n m : Nat) (t : TypeId) : Fr (w.alloc (.cells (madeCells #[.int k 0] n) t)) w.heap.size 0 m :=
  fun _ _ => World.frozen?_alloc_at _ _ _ _ rfl

def cellsOfRow (k : IntKind) (xs : List Nat) : List Value := xs.map fun (x : Nat) => Value.int k (x : Int)

def IsB (w : World) (p : Option Addr) (l c : Nat) (bs : List Nat) : Prop :=
  bs.length = l ∧ (∀ x ∈ bs, x < 256) ∧ ((p = none ∧ l = 0 ∧ c = 0) ∨ ∃ b off sp, p = some ⟨b, off, sp⟩ ∧ l ≤ c ∧ ∀ i, i < bs.length → w.cell? ((⟨b, off, sp⟩ : Addr).add i) = some (.int .u8 ((bs.getD i 0 : Nat) : Int)))

theorem IsB.mono {w w' : World} {p : Option Addr} {l c : Nat} {bs : List Nat} (h : IsB w p l c bs) (hb : Below w.heap.size w w') : IsB w' p l c bs := by
  obtain ⟨h1, h2, h3 | ⟨b, off, sp, h3, h4, h5⟩⟩ := h
  · exact ⟨h1, h2, Or.inl h3⟩
  · exact ⟨h1, h2, Or.inr ⟨b, off, sp, h3, h4, fun i hi => by have h6 := h5 i hi; rw [hb.cell (World.block_lt_of_cell? _ _ h6)]; exact h6⟩⟩

theorem ret_own {W w2 : World} {k : IntKind} {t : TypeId} {v : Value} {bs : List Nat} (h : w2.ownsRow W.heap.size t 1 v bs.length (cellsOfRow k bs)) (hn : v ≠ .slice none 0 0) (hb : Below W.heap.size W w2) :
    RetW W k bs (.returned v) w2 := by
  rcases h.2 with ⟨h1, _⟩ | ⟨g, cap, cur, rfl, hg, _, hcap, _, _, _⟩
  · exact absurd h1 hn
  · refine ⟨g, 0, cap, rfl, hcap, hg, fun i hi => ?_, fun i _ => ?_, hb⟩
    · rw [Nat.zero_add, World.ownsRow.cellAt h i (by omega)]
      simp [cellsOfRow, List.getD, hi]
    · rw [Nat.zero_add]; exact World.ownsRow.frozenAt h i

set_option maxHeartbeats 1000000 in
theorem few_some (b off c l n : Nat) (sp : Option Nat) (bs : List Nat) (w : World) (hl : bs.length = l) (hlc : l ≤ c) (hl2 : n ≤ 1000000000) (h : ∀ i, i < bs.length → w.cell? ((⟨b, off, sp⟩ : Addr).add i) = some (.int .u8 ((bs.getD i 0 : Nat) : Int))) :
    Calls Tryd.prog 47 #[.slice (some ⟨b, off, sp⟩) l c, .int .i64 (n : Int)] w (RetW w .u8 (bs.take n)) := by
  obtain ⟨i0, hi, hz0, hz1, hz2⟩ := info_parts Tryd.infoU8
  obtain ⟨m, hmm⟩ : ∃ m, m = min l n := ⟨_, rfl⟩
  have hm : (bs.take n).length = m := by rw [List.length_take]; omega
  have hmin : min (l : Int) (n : Int) = (m : Int) := by omega
  have hite : (if n < l then (n : Int) else (l : Int)) = (m : Int) := by split <;> omega
  have hnews : ∀ j u, (cellsOfRow .u8 (bs.take n))[j]? = some u → (w.alloc (.cells #[] 5)).cell? ((⟨b, off, sp⟩ : Addr).add j) = some u := by
    intro j u hj
    have hjl : j < (bs.take n).length := by
      rcases Nat.lt_or_ge j (bs.take n).length with h | h
      · exact h
      · rw [List.getElem?_eq_none (by simpa [cellsOfRow] using h)] at hj; cases hj
    have hjb : j < bs.length := by rw [List.length_take] at hjl; omega
    have h1 := h j hjb
    have h2 : (w.alloc (.cells #[] 5)).cell? ((⟨b, off, sp⟩ : Addr).add j) = w.cell? ((⟨b, off, sp⟩ : Addr).add j) := (below_alloc (Below.refl w.heap.size w) (.cells #[] 5)).cell (World.block_lt_of_cell? _ _ h1)
    have h3 : bs.getD j 0 = (bs.take n).getD j 0 := by
      rw [List.length_take] at hjl
      simp [List.getD, show j < n by omega]
    rw [h2, h1, h3, ← hj]
    generalize bs.take n = bt at *
    simp [cellsOfRow, List.getD, hjl]
  have hm2 : m ≤ c := by omega
  have hm3 : m ≤ 1000000000 := by omega
  have HM := Lib.hid hm
  have HN := Lib.hid hnews
  clear hnews hm h hmm
  go_enter Tryd.func47, Tryd.ntmps47
  go_wp2_with (at_builtin; go_loud (refine wpList_append_own _ rfl (.tmp 5) (.tmp 11) 40 rfl w.heap.size 5 i0 (.int .u8 0) 1 1 Tryd.underlying40 hi hz0 hz1 hz2 rfl (by decide) (.slice (some ⟨w.heap.size, 0, none⟩) 0 0) 0 [] rfl ?own ⟨b, off, sp⟩ m c (cellsOfRow .u8 (bs.take n)) rfl ?c1 HN.out ?c3 ?c4 ?c5 ?c6 ?_))
  case own => exact World.ownsRow_made w #[] 0 (Nat.le_refl _) (by simp [maxLen]) (by simp)
  case c1 => rw [cellsOfRow, List.length_map, HM.out, Nat.mul_one]
  case c3 =>
    intro u hu
    simp only [cellsOfRow, List.mem_map] at hu
    obtain ⟨x, _, rfl⟩ := hu
    rfl
  case c4 => unfold maxLen; omega
  case c5 => omega
  case c6 => simp
  intro v' w2 hown hg hnil
  have hb : Below w.heap.size w w2 := (below_alloc (Below.refl w.heap.size w) (.cells #[] 5)).grown hg (by simp) (fun k hk => by simp [Value.ownBlock] at hk; omega)
  have HO := Lib.hid hown; have HNN := Lib.hid hnil; have HB := Lib.hid hb
  clear hown hg hnil hb
  go_wp2
  go_ret
  have ho := HO.out
  rw [← HM.out] at ho
  exact ret_own ho HNN.out HB.out

set_option maxHeartbeats 1000000 in
theorem few_none (n : Nat) (w : World) (hl2 : n ≤ 1000000000) :
    Calls Tryd.prog 47 #[.slice none 0 0, .int .i64 (n : Int)] w (RetW w .u8 []) := by
  obtain ⟨i0, hi, hz0, hz1, hz2⟩ := info_parts Tryd.infoU8
  go_enter Tryd.func47, Tryd.ntmps47
  go_wp2_with (at_builtin; go_loud (refine wpList_append_own_none rfl (.tmp 5) (.tmp 11) 40 rfl w.heap.size 5 i0 1 Tryd.underlying40 hi (.slice (some ⟨w.heap.size, 0, none⟩) 0 0) 0 [] rfl ?own rfl ?_))
  case own => exact World.ownsRow_made w #[] 0 (Nat.le_refl _) (by simp [maxLen]) (by simp)
  go_wp2
  go_ret
  exact ⟨w.heap.size, 0, 0, rfl, Nat.le_refl _, Nat.le_refl _, At.nil _ _ _ _, fun i hi => by simp at hi, below_alloc (Below.refl _ _) _⟩

theorem few_any (p : Option Addr) (l c n : Nat) (bs : List Nat) (w : World) (hl2 : n ≤ 1000000000) (h : IsB w p l c bs) :
    Calls Tryd.prog 47 #[.slice p l c, .int .i64 (n : Int)] w (RetW w .u8 (bs.take n)) := by
  obtain ⟨h1, h2, ⟨rfl, rfl, rfl⟩ | ⟨b, off, sp, rfl, h4, h5⟩⟩ := h
  · have : bs = [] := List.eq_nil_of_length_eq_zero h1
    subst this
    rw [List.take_nil]
    exact few_none n w hl2
  · exact few_some b off c l n sp bs w h1 h4 hl2 h5
end Go.Proofs.YtfjjmhbffbhhdaaDoor

/- Raw numbers as small ones. -/
namespace Go.Proofs.YtfjjmhbffbhhdaaDoor
open Go.RowKit

theorem pick_any (n : Int) (m : Nat) (w : World) (h1 : -9223372036854775808 ≤ n) (h2 : n ≤ 9223372036854775807) (hm : 0 < m) (hm2 : m ≤ 4611686018427387904) :
    Calls Tryd.prog 24 #[.int .i64 n, .int .i64 (m : Int)] w fun e w' => w = w' ∧ e = .returned (.int .i64 (n % (m : Int))) := by
  have n0 : ¬ m = 0 := by omega
  have d0 : ((m : Int) == 0) = false := beq_eq_false_iff_ne.2 (by omega)
  obtain ⟨t, ht⟩ : ∃ t, t = n.tmod m := ⟨_, rfl⟩
  have hlt : n.tmod m < m := Int.tmod_lt_of_pos n (by omega)
  have hgt : -(m : Int) < n.tmod m := by
    have := Int.tmod_lt_of_pos (-n) (show (0 : Int) < m by omega)
    rw [Int.neg_tmod] at this
    omega
  have he : n % (m : Int) = if n.tmod m < 0 then n.tmod m + m else n.tmod m := by
    have h3 := Int.tmod_eq_emod (a := n) (b := (m : Int))
    have h4 := Int.emod_nonneg n (show (m : Int) ≠ 0 by omega)
    have h5 := Int.emod_lt_of_pos n (show (0 : Int) < m by omega)
    split <;> rename_i hneg
    · rw [h3] at hneg ⊢
      split at hneg <;> rename_i hc <;> first | omega | (split <;> omega)
    · rw [h3] at hneg ⊢
      split at hneg <;> rename_i hc <;> first | omega | (split <;> omega)
  rw [← ht] at hlt hgt he
  have wt : IntKind.i64.wrap (n.tmod m) = t := by rw [← ht, IntKind.wrap_i64]; omega
  have wt2 : n.tmod m = t := ht.symm
  have HE := Lib.hid he
  have HM2 := Lib.hid hm2
  clear he ht hm2
  rcases Int.lt_or_le t 0 with hneg | hneg
  · have hw : IntKind.i64.wrap (t + m) = t + m := by have := HM2.out; rw [IntKind.wrap_i64]; omega
    go_enter Tryd.func24, Tryd.ntmps24
    go_wp2
    go_ret
    rw [HE.out, if_pos hneg]
    exact ⟨rfl, rfl⟩
  · go_enter Tryd.func24, Tryd.ntmps24
    go_wp2
    go_ret
    rw [HE.out, if_neg (by omega)]
    exact ⟨rfl, rfl⟩
end Go.Proofs.YtfjjmhbffbhhdaaDoor

/- A raw number as a place in a slice of whatever length; a slice of bytes cut there. -/
namespace Go.Proofs.YtfjjmhbffbhhdaaDoor
open Go.RowKit

end Go.Proofs.YtfjjmhbffbhhdaaDoor

/- Rows of one's own: their cells. -/
namespace Go.Proofs.YtfjjmhbffbhhdaaDoor
open Go.RowKit

theorem ownsRow_pos {W : World} {base : Nat} {e : TypeId} {size : Nat} {v : Value} {k : Nat} {xs : List Value} (h : W.ownsRow base e size v k xs) (hk : 0 < k) : ∃ g cap, v = .slice (some ⟨g, 0, none⟩) k cap := by
  rcases h.2 with ⟨_, h0⟩ | ⟨g, cap, _, rfl, _⟩
  · omega
  · exact ⟨g, cap, rfl⟩

theorem ownsRow_at {W : World} {base : Nat} {k : IntKind} {g n cap : Nat} {xs : List Nat} {e : TypeId} (h : W.ownsRow base e 1 (.slice (some ⟨g, 0, none⟩) n cap) n (cellsOfRow k xs)) (hn : xs.length = n) :
    base ≤ g ∧ n ≤ cap ∧ At W k g 0 xs ∧ Fr W g 0 n := by
  obtain ⟨h1, ⟨h2, _⟩ | ⟨g', cap', cur, h2, h3, h4, h5, _⟩⟩ := id h
  · cases h2
  · simp only [Value.slice.injEq, Option.some.injEq, Addr.mk.injEq, and_true, true_and] at h2
    obtain ⟨rfl, rfl⟩ := h2
    refine ⟨h3, h5, fun i hi => ?_, fun i _ => ?_⟩
    · rw [Nat.zero_add, World.ownsRow.cellAt h i (by omega)]
      simp [cellsOfRow, List.getD, hi]
    · rw [Nat.zero_add]; exact World.ownsRow.frozenAt h i

theorem cells_at {W : World} {k : IntKind} {b off : Nat} {xs : List Nat} (h : At W k b off xs) : ∀ j u, (cellsOfRow k xs)[j]? = some u → W.cell? ((⟨b, off, none⟩ : Addr).add j) = some u := by
  intro j u hj
  have hjl : j < xs.length := by
    rcases Nat.lt_or_ge j xs.length with h | h
    · exact h
    · rw [List.getElem?_eq_none (by simpa [cellsOfRow] using h)] at hj; cases hj
  rw [Go.WideShapes.add_plain]
  show W.cell? ⟨b, off + j, none⟩ = some u
  rw [h j hjl, ← hj]
  simp [cellsOfRow, List.getD, hjl]
theorem cells_one (k : IntKind) (xs : List Nat) : ∀ u ∈ cellsOfRow k xs, u.oneCell' = true := by
  intro u hu
  simp only [cellsOfRow, List.mem_map] at hu
  obtain ⟨x, _, rfl⟩ := hu
  rfl
theorem cells_len (k : IntKind) (xs : List Nat) : (cellsOfRow k xs).length = xs.length := by simp [cellsOfRow]
theorem cells_app (k : IntKind) (xs ys : List Nat) : cellsOfRow k (xs ++ ys) = cellsOfRow k xs ++ cellsOfRow k ys := by simp [cellsOfRow]

end Go.Proofs.YtfjjmhbffbhhdaaDoor
