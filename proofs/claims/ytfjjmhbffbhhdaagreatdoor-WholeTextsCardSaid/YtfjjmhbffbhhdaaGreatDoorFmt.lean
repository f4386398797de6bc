/- What stands in memory: rows of numbers, the program's numbers, and what a call leaves as it was. -/
import Derived.Test.YtfjjmhbffbhhdaaGreatDoorDecTxt
import Derived.Test.YtfjjmhbffbhhdaaGreatDoorRows
import Derived.Deep.QuietTactic
import Derived.Test.YtfjjmhbffbhhdaaGreatDoorShelf
import Derived.Lib.ItoaMem
import Derived.Lib.AppendStr
import Derived.Lib.UnsafeStr
import Derived.Shelf.Strings.Builder1
namespace Go.Proofs.YtfjjmhbffbhhdaaGreatDoor
open Go.RowKit

def At (w : World) (k : IntKind) (b off : Nat) (xs : List Nat) : Prop :=
  ∀ i, i < xs.length → w.cell? ⟨b, off + i, none⟩ = some (.int k ((xs.getD i 0 : Nat) : Int))

def Fr (w : World) (b off n : Nat) : Prop := ∀ i, i < n → w.frozen? ⟨b, off + i, none⟩ = false

theorem At.lt {w : World} {k : IntKind} {b off : Nat} {xs : List Nat} (h : At w k b off xs) (h0 : 0 < xs.length) : b < w.heap.size :=
  World.block_lt_of_cell? w ⟨b, off + 0, none⟩ (h 0 h0)

theorem At.zero {w : World} {k : IntKind} {b : Nat} {xs : List Nat} (h : At w k b 0 xs) (i : Nat) (hi : i < xs.length) : w.cell? ⟨b, i, none⟩ = some (.int k ((xs.getD i 0 : Nat) : Int)) := by
  have := h i hi
  rwa [Nat.zero_add] at this
theorem Fr.zero {w : World} {b n : Nat} (h : Fr w b 0 n) (i : Nat) (hi : i < n) : w.frozen? ⟨b, i, none⟩ = false := by
  have := h i hi
  rwa [Nat.zero_add] at this
theorem getD_set (xs : List Nat) (i j y : Nat) (hi : i < xs.length) : (xs.set i y).getD j 0 = if j = i then y else xs.getD j 0 := by
  by_cases e : j = i
  · subst e; simp [List.getD, hi]
  · have e' : ¬ i = j := fun h => e h.symm
    simp [List.getD, e, e']

theorem shr_cast (x s m : Nat) : ((x / 2 ^ s % m : Nat) : Int) = (x : Int) / 2 ^ s % m := by
  rw [Int.natCast_emod, Int.natCast_ediv, Int.natCast_pow]; rfl

theorem At.nil (w : World) (k : IntKind) (b off : Nat) : At w k b off [] := fun i hi => by simp at hi

theorem At.mono {w w' : World} {k : IntKind} {b off : Nat} {xs : List Nat} (h : At w k b off xs) (hb : Below w.heap.size w w') : At w' k b off xs := by
  intro i hi
  have h1 := h i hi
  have h2 := World.block_lt_of_cell? _ _ h1
  rw [hb.cell (p := ⟨b, off + i, none⟩) h2]; exact h1

theorem At.monoB {w w' : World} {k : IntKind} {b off B : Nat} {xs : List Nat} (h : At w k b off xs) (hb : Below B w w') (hB : b < B) : At w' k b off xs := by
  intro i hi
  rw [hb.cell (p := ⟨b, off + i, none⟩) hB]; exact h i hi

theorem Fr.mono {w w' : World} {b off n : Nat} (h : Fr w b off n) (hb : Below w.heap.size w w') (hl : b < w.heap.size) : Fr w' b off n := by
  intro i hi
  rw [hb.frozen (p := ⟨b, off + i, none⟩) hl]; exact h i hi

theorem Fr.sub {w : World} {b off n k m : Nat} (h : Fr w b off n) (hk : k + m ≤ n) : Fr w b (off + k) m := by
  intro i hi
  rw [Nat.add_assoc]; exact h (k + i) (by omega)

theorem At.drop {w : World} {k : IntKind} {b off : Nat} {xs : List Nat} (h : At w k b off xs) (n : Nat) : At w k b (off + n) (xs.drop n) := by
  intro i hi
  rw [List.length_drop] at hi
  rw [Nat.add_assoc, h (n + i) (by omega)]
  simp [List.getD, List.getElem?_drop]

theorem At.take {w : World} {k : IntKind} {b off : Nat} {xs : List Nat} (h : At w k b off xs) (n : Nat) : At w k b off (xs.take n) := by
  intro i hi
  rw [List.length_take] at hi
  rw [h i (by omega)]
  simp [List.getD, (by omega : i < n)]

theorem At.set {w : World} {k : IntKind} {b off : Nat} {xs : List Nat} (h : At w k b off xs) (j y : Nat) (hj : j < xs.length) :
    At (w.setCell ⟨b, off + j, none⟩ (.int k (y : Int))) k b off (xs.set j y) := by
  intro i hi
  rw [List.length_set] at hi
  by_cases e : i = j
  · subst e
    rw [World.cell?_setCell_same _ _ _ (h i hi)]
    simp [List.getD, hi]
  · have e' : ¬ j = i := fun h => e h.symm
    rw [World.cell?_setCell_other _ _ _ _ (by intro e2; injection e2; omega), h i hi]
    simp [List.getD, e']

theorem At.setOther {w : World} {k : IntKind} {b off : Nat} {xs : List Nat} (h : At w k b off xs) (a : Addr) (v : Value) (hj : a.block ≠ b) :
    At (w.setCell a v) k b off xs := by
  intro i hi
  rw [World.cell?_setCell_other _ _ _ _ (by intro e; exact hj (by rw [e])), h i hi]

theorem Fr.setCell {w : World} {b off n : Nat} (h : Fr w b off n) (a : Addr) (v : Value) : Fr (w.setCell a v) b off n := by
  intro i hi
  rw [World.frozen?_setCell]; exact h i hi

structure Only (w w' : World) (b off n : Nat) : Prop where
  os : w'.os = w.os
  tape : w'.tape = w.tape
  output : w'.output = w.output
  size : w.heap.size ≤ w'.heap.size
  block : ∀ k, k < w.heap.size → k ≠ b → w'.heap[k]? = w.heap[k]?
  cell : ∀ o, (o < off ∨ off + n ≤ o) → w'.cell? ⟨b, o, none⟩ = w.cell? ⟨b, o, none⟩
  frozen : ∀ o, w'.frozen? ⟨b, o, none⟩ = w.frozen? ⟨b, o, none⟩

theorem Only.refl (w : World) (b off n : Nat) : Only w w b off n :=
  ⟨rfl, rfl, rfl, Nat.le_refl _, fun _ _ _ => rfl, fun _ _ => rfl, fun _ => rfl⟩

theorem Only.trans {w w1 w2 : World} {b off n : Nat} (h : Only w w1 b off n) (k : Only w1 w2 b off n) : Only w w2 b off n :=
  ⟨k.os.trans h.os, k.tape.trans h.tape, k.output.trans h.output, Nat.le_trans h.size k.size, fun i hi hb => (k.block i (Nat.lt_of_lt_of_le hi h.size) hb).trans (h.block i hi hb),
    fun o ho => (k.cell o ho).trans (h.cell o ho), fun o => (k.frozen o).trans (h.frozen o)⟩

theorem Only.wider {w w' : World} {b off n off' n' : Nat} (h : Only w w' b off n) (h1 : off' ≤ off) (h2 : off + n ≤ off' + n') : Only w w' b off' n' :=
  ⟨h.os, h.tape, h.output, h.size, h.block, fun o ho => h.cell o (by omega), h.frozen⟩

theorem Only.setCell {w w' : World} {b off n : Nat} (h : Only w w' b off n) (j : Nat) (h1 : off ≤ j) (h2 : j < off + n) (v : Value) : Only w (w'.setCell ⟨b, j, none⟩ v) b off n :=
  h.trans ⟨rfl, rfl, rfl, by simp [World.setCell], fun k _ hb => Below.heap_setCell _ _ _ _ hb,
    fun o ho => World.cell?_setCell_other _ _ _ _ (by intro e2; injection e2; omega), fun o => World.frozen?_setCell _ _ _ _⟩

theorem Only.of_below {w w' : World} {b off n : Nat} (h : Below w.heap.size w w') (hb : b < w.heap.size) : Only w w' b off n :=
  ⟨h.os, h.tape, h.output, h.size, fun k hk _ => h.block k hk, fun o _ => h.cell (p := ⟨b, o, none⟩) hb, fun o => h.frozen (p := ⟨b, o, none⟩) hb⟩

theorem Only.drew {w w' : World} {b off n : Nat} (h : Only w w' b off n) : Only w w'.drew b off n :=
  h.trans ⟨rfl, rfl, rfl, Nat.le_refl _, fun _ _ _ => rfl, fun _ _ => rfl, fun _ => rfl⟩

theorem Only.below {w w' : World} {b off n B : Nat} (h : Only w w' b off n) (hB : B ≤ b) (hw : B ≤ w.heap.size) : Below B w w' :=
  ⟨h.os, h.tape, h.output, h.size, fun k hk => h.block k (by omega) (by omega)⟩

theorem At.only {w w' : World} {k : IntKind} {b off bz oz n : Nat} {xs : List Nat} (h : At w k b off xs) (ho : Only w w' bz oz n) (hb : b ≠ bz) : At w' k b off xs := by
  intro i hi
  have h1 := h i hi
  have h2 := World.block_lt_of_cell? _ _ h1
  rw [← h1]
  exact World.cell?_of_block (w := w) (ho.block b h2 hb)

theorem At.onlyOut {w w' : World} {k : IntKind} {b off oz n : Nat} {xs : List Nat} (h : At w k b off xs) (ho : Only w w' b oz n) (hd : off + xs.length ≤ oz ∨ oz + n ≤ off) : At w' k b off xs := by
  intro i hi
  rw [← h i hi]
  exact ho.cell _ (by omega)

theorem Fr.only {w w' : World} {b off m oz n : Nat} (h : Fr w b off m) (ho : Only w w' b oz n) : Fr w' b off m := by
  intro i hi
  rw [ho.frozen]; exact h i hi

theorem Fr.onlyOther {w w' : World} {b off m bz oz n : Nat} (h : Fr w b off m) (ho : Only w w' bz oz n) (hl : b < w.heap.size) (hb : b ≠ bz) : Fr w' b off m := by
  intro i hi
  rw [← h i hi]
  exact World.frozen?_of_block (w := w) (ho.block b hl hb)

theorem At.append {w : World} {k : IntKind} {b off : Nat} {xs ys : List Nat} (h : At w k b off xs) (h2 : At w k b (off + xs.length) ys) : At w k b off (xs ++ ys) := by
  intro i hi
  rw [List.length_append] at hi
  by_cases hx : i < xs.length
  · rw [h i hx]; simp [List.getD, List.getElem?_append, hx]
  · have := h2 (i - xs.length) (by omega)
    rw [show off + xs.length + (i - xs.length) = off + i from by omega] at this
    rw [this]; simp [List.getD, List.getElem?_append, hx]

theorem bcell {W w1 : World} (hb : Below W.heap.size W w1) : (∀ b o, b < W.heap.size → w1.cell? ⟨b, o, none⟩ = W.cell? ⟨b, o, none⟩) ∧ (∀ b o, b < W.heap.size → w1.frozen? ⟨b, o, none⟩ = W.frozen? ⟨b, o, none⟩) :=
  ⟨fun b o h => hb.cell (p := ⟨b, o, none⟩) h, fun b o h => hb.frozen (p := ⟨b, o, none⟩) h⟩

def dw (n : Nat) : List Nat := digs (2 ^ 64) n
def ds (n : Nat) : List Nat := if n = 0 then [0] else dw n

theorem ds_small {n : Nat} (h : n < 2 ^ 64) : ds n = [n] := by
  unfold ds dw
  by_cases h0 : n = 0
  · simp [h0]
  · rw [if_neg h0, digs_pos (by omega) h0, Nat.mod_eq_of_lt h, Nat.div_eq_of_lt h, digs_zero]
theorem ds_big {n : Nat} (h : n ≠ 0) : ds n = dw n := by unfold ds; rw [if_neg h]
theorem val_ds (n : Nat) : val (2 ^ 64) (ds n) = n := by
  unfold ds
  split
  · subst_vars; rfl
  · exact val_digs (by omega) n
theorem ds_lt (n : Nat) : ∀ x ∈ ds n, x < 2 ^ 64 := by
  unfold ds
  split
  · intro x hx; simp at hx; omega
  · exact digs_lt (by omega) n
theorem ds_pos (n : Nat) : 0 < (ds n).length := by
  unfold ds
  split
  · simp
  · rename_i h; exact List.length_pos_iff.2 (digs_ne_nil (by omega) h)
theorem ds_two {n : Nat} (h : 2 ^ 64 ≤ n) : 2 ≤ (ds n).length := by
  rw [ds_big (by omega)]; exact digs_length_lt (k := 1) (by omega) (by omega)
theorem ds_one {n : Nat} (h : n < 2 ^ 64) : (ds n).length = 1 := by rw [ds_small h]; rfl
theorem ds_mono {m n : Nat} (h : m ≤ n) : (ds m).length ≤ (ds n).length := by
  by_cases h0 : m = 0
  · subst h0; rw [ds_one (by omega)]; exact ds_pos n
  · rw [ds_big h0, ds_big (by omega)]; exact digs_length_mono (by omega) h
theorem lt_ds (n : Nat) : n < (2 ^ 64) ^ (ds n).length := by
  have := val_lt (2 ^ 64) (ds n) (ds_lt n)
  rwa [val_ds] at this
theorem ds_le {n k : Nat} (hk : 0 < k) (h : n < (2 ^ 64) ^ k) : (ds n).length ≤ k := by
  by_cases h0 : n = 0
  · subst h0; rw [ds_one (by omega)]; exact hk
  · rw [ds_big h0]; exact digs_length_le (by omega) h
theorem ds_last {n : Nat} (h : n ≠ 0) : (ds n).getD ((ds n).length - 1) 0 ≠ 0 := by
  rw [ds_big h]; exact digs_last (by omega) h

def IsN (w : World) (s : Int) (p : Option Addr) (l c : Nat) (n : Nat) : Prop :=
  (n < 2 ^ 64 ∧ s = (n : Int) ∧ p = none ∧ l = 0 ∧ c = 0) ∨
  (2 ^ 64 ≤ n ∧ s = 0 ∧ ∃ b off, p = some ⟨b, off, none⟩ ∧ l = (ds n).length ∧ l ≤ c ∧ At w .u64 b off (ds n))

theorem IsN.mono {w w' : World} {s : Int} {p : Option Addr} {l c n : Nat} (h : IsN w s p l c n) (hb : Below w.heap.size w w') : IsN w' s p l c n := by
  rcases h with h | ⟨h1, h2, b, off, h3, h4, h5, h6⟩
  · exact Or.inl h
  · exact Or.inr ⟨h1, h2, b, off, h3, h4, h5, h6.mono hb⟩

theorem IsN.short {w : World} {n : Nat} (h : n < 2 ^ 64) : IsN w (n : Int) none 0 0 n := Or.inl ⟨h, rfl, rfl, rfl, rfl⟩

def RetN (W : World) (n : Nat) : Ending → World → Prop := fun e w' =>
  ∃ s p l c, e = .returned (.agg #[.int .u64 s, .slice p l c]) ∧ IsN w' s p l c n ∧ Below W.heap.size W w'

theorem RetN.short {W w' : World} {n : Nat} (h : n < 2 ^ 64) (hb : Below W.heap.size W w') : RetN W n (.returned (.agg #[.int .u64 (n : Int), .slice none 0 0])) w' :=
  ⟨_, _, _, _, rfl, .short h, hb⟩

def RetW (W : World) (k : IntKind) (xs : List Nat) : Ending → World → Prop := fun e w' =>
  ∃ b off c, e = .returned (.slice (some ⟨b, off, none⟩) xs.length c) ∧ xs.length ≤ c ∧ W.heap.size ≤ b ∧ At w' k b off xs ∧ Fr w' b off xs.length ∧ Below W.heap.size W w'
def RetL (W : World) (k : IntKind) (xs : List Nat) : Ending → World → Prop := fun e w' =>
  ∃ b off c, e = .returned (.slice (some ⟨b, off, none⟩) xs.length c) ∧ xs.length ≤ c ∧ At w' k b off xs ∧ Below W.heap.size W w'

def RetTrim (W : World) (base b off c : Nat) (xs : List Nat) : Ending → World → Prop := fun e w' =>
  W = w' ∧ e = .returned (.slice (some ⟨b, off, none⟩) (digs base (val base xs)).length c) ∧ xs.take (digs base (val base xs)).length = digs base (val base xs)

theorem RetTrim.mk {W : World} {base b off c : Nat} {xs : List Nat} {n : Nat} (hb : 2 ≤ base) (hx : ∀ x ∈ xs, x < base) (hn : n ≤ xs.length) (h0 : ∀ i, n ≤ i → i < xs.length → xs.getD i 0 = 0)
    (hl : n ≠ 0 → xs.getD (n - 1) 0 ≠ 0) : RetTrim W base b off c xs (.returned (.slice (some ⟨b, off, none⟩) n c)) W := by
  have h := digs_take hb xs n hx hn h0 hl
  have e : (digs base (val base xs)).length = n := by rw [← h, List.length_take]; omega
  exact ⟨rfl, by rw [e], by rw [e, h]⟩

def cmp3 (x y : Int) : Int := if x < y then -1 else if y < x then 1 else 0
theorem cmp3_lt {x y : Int} (h : x < y) : cmp3 x y = -1 := by unfold cmp3; rw [if_pos h]
theorem cmp3_gt {x y : Int} (h : y < x) : cmp3 x y = 1 := by unfold cmp3; rw [if_neg (by omega), if_pos h]
theorem cmp3_eq (x : Int) : cmp3 x x = 0 := by unfold cmp3; rw [if_neg (by omega), if_neg (by omega)]

theorem ret_slice {p : Option Addr} {l l' c : Nat} (h : l = l') : Ending.returned (.slice p l c) = .returned (.slice p l' c) := by rw [h]
theorem ret_int {k : IntKind} {a b : Int} (h : a = b) : Ending.returned (.int k a) = .returned (.int k b) := by rw [h]
theorem At.new1 (w : World) (k : IntKind) (x : Nat) (t : TypeId) : At (w.alloc (.cells #[.int k (x : Int)] t)) k w.heap.size 0 [x] := by
  intro i hi
  have : i = 0 := by simpa using hi
  subst this
  exact World.cell?_alloc_at _ _ _ _ rfl
theorem At.new2 (w : World) (k : IntKind) (x y : Nat) (t : TypeId) : At (w.alloc (.cells #[.int k (x : Int), .int k (y : Int)] t)) k w.heap.size 0 [x, y] := by
  intro i hi
  have : i = 0 ∨ i = 1 := by simp at hi; omega
  rcases this with rfl | rfl
  · exact World.cell?_alloc_at _ _ _ _ rfl
  · exact World.cell?_alloc_at _ _ _ _ rfl

theorem below_alloc {W w : World} (h : Below W.heap.size W w) (o : Obj) : Below W.heap.size W (w.alloc o) := h.alloc h.size o

theorem below_drewN {B : Nat} {a w : World} (h : Below B a w) (n : Nat) : Below B a (w.drewN n) := ⟨h.os, h.tape, h.output, h.size, h.block⟩
theorem quiet_eq_add {P : Program} {f : FuncId} {args : Array Value} {w : World} {a n : Nat} {v : Value}
    (h : Calls P f args (w.drewN (a + n)) fun e w' => w.drewN (a + n) = w' ∧ e = .returned v) :
    Calls P f args (w.drewN (a + n)) fun e w'' => e = .returned v ∧ ∃ m, w'' = w.drewN (a + m) :=
  h.mono fun _ _ ⟨hm, he⟩ => ⟨he, n, hm.symm⟩

theorem below_step {W w w' : World} (h : Below W.heap.size W w) (h' : Below w.heap.size w w') : Below W.heap.size W w' := h.trans (h'.mono h.size)

end Go.Proofs.YtfjjmhbffbhhdaaGreatDoor

/- strconv.FormatUint of any word at base 10; a builder written to. -/
namespace Go.Proofs.YtfjjmhbffbhhdaaGreatDoor
open Go.RowKit

def TabP (w : World) : Prop := Lib.TabIs Tryz.prog w "internal/strconv.uint64pow10" .u64 Lib.pow10Tab
theorem TabP.monoB {w w' : World} {B : Nat} (h : TabP w) (hb : Below B w w') (hB : 2 < B) : TabP w' := by
  unfold TabP Lib.TabIs World.var? at *
  rw [show Tryz.prog.globalNamed "internal/strconv.uint64pow10" = some 2 by kernel_rfl] at h ⊢
  simp only [Option.bind_some] at h ⊢
  rw [hb.block 2 hB]
  exact h
theorem TabP.lt {w : World} (h : TabP w) : 2 < w.heap.size := by
  unfold TabP Lib.TabIs World.var? at *
  rw [show Tryz.prog.globalNamed "internal/strconv.uint64pow10" = some 2 by kernel_rfl] at h
  simp only [Option.bind_some] at h
  rcases Nat.lt_or_ge 2 w.heap.size with h' | h'
  · exact h'
  · rw [Array.getElem?_eq_none h'] at h; simp at h
theorem TabP.mono {w w' : World} (h : TabP w) (hb : Below w.heap.size w w') : TabP w' := h.monoB hb h.lt

open Go.Sort in
set_option maxRecDepth 100000 in
set_option maxHeartbeats 2000000 in
theorem ifmt_any (u : Nat) (w : World) (hu : u < 18446744073709551616) (htab : TabP w) :
    Calls Tryz.prog 78 #[.int .u64 (u : Int), .int .i64 10] w fun e w' => e = .returned (.string ⟨(Lib.decDigits u).toArray⟩) ∧ Below w.heap.size w w' := by
  by_cases hs : u < 100
  · have hc : ((u : Int) < 100) := by omega
    go_enter Tryz.func78, Tryz.ntmps78
    go_wp2_with fail
    refine (Tryz.internal_strconv_small u hs w).mono ?_
    rintro e w' ⟨rfl, rfl⟩
    go_wp2
    go_ret
    exact ⟨rfl, Below.refl _ _⟩
  · have hu1 : 1 ≤ u := by omega
    have hc : ¬ ((u : Int) < 100) := by omega
    have hnd20 : Lib.nDigits u ≤ 20 := by have := Lib.numDigits_eq u hu1 hu; split at this <;> omega
    have hal : Tryz.prog.arrayLen 136 = 24 := by kernel_rfl
    have hsl : ∀ W, (Instr.sliceAt 136 (.pointer (some ⟨w.heap.size, 0, none⟩)) none (some (.int .i64 (Lib.nDigits u : Int))) none).run Tryz.prog W = .ok (.slice (some ⟨w.heap.size, 0, none⟩) (Lib.nDigits u) 24) W := fun W => by
      rw [run_sliceAt_array_h W 136 ⟨w.heap.size, 0, none⟩ (by kernel_rfl) .i64 (Lib.nDigits u : Int) (by omega) (by rw [hal]; omega)]
      go_simp
    have hH0 : Holds (fun (b : UInt8) => Value.int .u8 (b.toNat : Int)) (w.alloc (.cells Lib.zeros24 136)) w.heap.size 0 (Array.replicate (Lib.nDigits u) (0 : UInt8)) := fun j hj => by
      have hj' : j < Lib.nDigits u := by simpa using hj
      refine ⟨?_, World.frozen?_alloc_new _ _ _ _⟩
      rw [World.cell?_alloc_new, Lib.zeros24_at _ (by omega), getElem!_pos _ j hj]
      simp
    have hfmt := Tryz.internal_strconv_formatBase10 w.heap.size 0 24 u (Array.replicate (Lib.nDigits u) 0) (w.alloc (.cells Lib.zeros24 136)) hH0 (by rw [Array.size_replicate]; exact Lib.lt_pow_nDigits u) hu (by rw [Array.size_replicate]; omega)
    rw [Array.size_replicate] at hfmt
    have HH0 := Lib.hid hH0; have HF := Lib.hid hfmt
    clear hH0 hfmt hal
    go_enter Tryz.func78, Tryz.ntmps78
    go_wp2_with fail
    refine (Tryz.internal_strconv_numDigits u hu1 hu _ (Lib.tabIs_alloc htab _)).mono ?_
    rintro e w' ⟨rfl, rfl⟩
    go_wp2_with fail
    refine HF.out.mono ?_
    rintro e w' ⟨rfl, k, v', dk, rfl, hF⟩
    have hcv : (convert 22 9 (.slice (some ⟨w.heap.size, 0, none⟩) (Lib.nDigits u) 24)).run Tryz.prog ((putRow (fun (b : UInt8) => Value.int .u8 (b.toNat : Int)) (w.alloc (.cells Lib.zeros24 136)) w.heap.size 0 dk).drewN k) = .ok (.string ⟨(Lib.decDigits u).toArray⟩) ((putRow (fun (b : UInt8) => Value.int .u8 (b.toNat : Int)) (w.alloc (.cells Lib.zeros24 136)) w.heap.size 0 dk).drewN k) := by
      have h := run_convert_bytes_back (P := Tryz.prog) ((putRow (fun (b : UInt8) => Value.int .u8 (b.toNat : Int)) (w.alloc (.cells Lib.zeros24 136)) w.heap.size 0 dk).drewN k) 22 9 5 ⟨w.heap.size, 0, none⟩ 24 (Lib.decDigits u) Tryz.underlying22 Tryz.underlying5 Tryz.underlying9 (fun j hj => by
        rw [Lib.row_is_numeral hF j hj, Lib.add_plain, World.cell?_drewN]
        exact cell?_putRow (fun (b : UInt8) => Value.int .u8 (b.toNat : Int)) _ w.heap.size 0 _ dk HH0.out (by rw [hF.size, Array.size_replicate]) j (by rw [hF.size]; rw [Lib.decDigits_length] at hj; exact hj))
      rw [Lib.decDigits_length] at h
      exact h
    go_wp2
    go_ret
    refine ⟨rfl, ?_⟩
    refine below_drewN ?_ k
    refine ⟨rfl, rfl, rfl, by rw [size_putRow]; exact (below_alloc (Below.refl _ _) _).size, fun i hi => ?_⟩
    show ((w.alloc _).heap.modify w.heap.size _)[i]? = _
    rw [Array.getElem?_modify, if_neg (by omega)]
    exact Below.heap_alloc w _ i hi

set_option maxRecDepth 100000 in
set_option maxHeartbeats 1000000 in
theorem fmt_any (u : Nat) (w : World) (hu : u < 18446744073709551616) (htab : TabP w) :
    Calls Tryz.prog 52 #[.int .u64 (u : Int), .int .i64 10] w fun e w' => e = .returned (.string ⟨(Lib.decDigits u).toArray⟩) ∧ Below w.heap.size w w' := by
  have H := Lib.hid (ifmt_any u w hu htab)
  clear htab
  go_enter Tryz.func52, Tryz.ntmps52
  go_wp2_with fail
  refine H.out.mono ?_
  rintro e w' ⟨rfl, hb⟩
  go_wp2
  go_ret
  exact ⟨rfl, hb⟩

theorem Tryz.infoBu : (Tryz.prog.info? 97).map (·.size) = some 2 := by kernel_rfl
set_option maxHeartbeats 1000000 in
set_option maxRecDepth 100000 in
theorem copyCheck_any (B b : Nat) (bs : List Value) (w : World) (h : Lib.IsBuilder 97 5 B b bs w) :
    Calls Tryz.prog 80 #[.pointer (some ⟨b, 0, none⟩)] w fun e w' => e = .returned (.tuple #[]) ∧ (Lib.BuilderAt 97 5 B b (.pointer (some ⟨b, 0, none⟩)) bs w' ∧ Below B w w') := by
  obtain ⟨j, hj, hjs⟩ := Option.map_eq_some_iff.1 Tryz.infoBu
  rcases h with h | h
  · have h0 := h.cell0
    have hsh := h.shape
    have hfz := h.frozen0
    have H := Lib.hid h
    clear h
    go_enter Tryz.func80, Tryz.ntmps80
    go_wp2
    rw [Lib.run_to_unsafe w ⟨b, 0, none⟩ Tryz.underlying95 Tryz.underlying140 hj (by rw [hjs]; decide) hsh (Nat.zero_lt_succ 1)]
    simp only [Result.andThen]
    rw [Oper.upon_value]
    go_wp2
    rw [run_callFunc_extern Tryz.func102 (by kernel_rfl) (by kernel_rfl) (by kernel_rfl) (e := Extern.AbiNoEscape.same) (by kernel_rfl)]
    rw [Lib.run_noEscape]
    simp only [Result.andThen]
    rw [Oper.upon_value]
    go_wp2
    rw [Lib.run_from_unsafe w ⟨b, 0, none⟩ Tryz.underlying140 Tryz.underlying95 hj hsh (by kernel_rfl)]
    simp only [Result.andThen]
    rw [Oper.upon_value]
    go_wp2
    go_end0
    exact ⟨rfl, H.out.used _, (Below.refl B w).setCell (p := ⟨b, 0, none⟩) H.out.1 _⟩
  · have h0 := h.cell0
    have H := Lib.hid h
    clear h
    go_enter Tryz.func80, Tryz.ntmps80
    go_wp2
    rw [Lib.run_neq_ptr_same w _ Tryz.underlying95 hj]
    go_wp2
    go_end0
    exact ⟨rfl, H.out, Below.refl B _⟩

theorem Tryz.infoU8b : (Tryz.prog.info? 5).map (fun i => (i.zero, i.size, i.bytes)) = some (some (.int .u8 0), 1, 1) := by kernel_rfl
set_option maxHeartbeats 2000000 in
set_option maxRecDepth 100000 in
theorem write_any (B b : Nat) (bs : List Value) (s : ByteArray) (w : World) (h : Lib.IsBuilder 97 5 B b bs w) (hlen : bs.length + s.size ≤ 140737488355328) (hBw : B ≤ w.heap.size) :
    Calls Tryz.prog 56 #[.pointer (some ⟨b, 0, none⟩), .string s] w fun e w' => e = .returned (.tuple #[.int .i64 s.size, .nilIface]) ∧ (Lib.IsBuilder 97 5 B b (bs ++ Lib.strCells s) w' ∧ Below B w w') := by
  obtain ⟨i0, hi, hz0, hz1, hz2⟩ := info_parts Tryz.infoU8b
  have HC := Lib.hid (copyCheck_any B b bs w h)
  clear h
  go_enter Tryz.func56, Tryz.ntmps56
  go_wp2_with fail
  refine HC.out.mono ?_
  rintro e w1 ⟨rfl, h1, hb1⟩
  obtain ⟨hB, v, hbk, hown, hne⟩ := h1
  have c0 : w1.cell? ⟨b, 0, none⟩ = some (.pointer (some ⟨b, 0, none⟩)) := by rw [Lib.cell_of_heap hbk]; rfl
  have c1 : w1.cell? ⟨b, 1, none⟩ = some v := by rw [Lib.cell_of_heap hbk]; rfl
  have hsz1 := hb1.size
  go_wp2_with (at_builtin; go_loud (refine Lib.wpList_append_own_string _ rfl (.tmp 12) (.tmp 13) 22 9 rfl B 5 i0 Tryz.underlying22 Tryz.underlying9 hi hz0 hz1 hz2 v bs.length bs rfl hown s rfl ?c3 ?c4 ?c5 ?_))
  case c3 => unfold maxLen; omega
  case c4 => omega
  case c5 => omega
  intro v' w2 hown' hgrow _
  have hlt : b < w1.heap.size := by
    rcases Nat.lt_or_ge b w1.heap.size with h' | h'
    · exact h'
    · simp [Array.getElem?_eq_none h'] at hbk
  have hb2 : w2.heap[b]? = some (.cells #[.pointer (some ⟨b, 0, none⟩), v] 97 (0, 0)) := by
    rw [hgrow.block b hlt (fun e => hne e.symm)]
    exact hbk
  have d1 : w2.cell? ⟨b, 1, none⟩ = some v := by rw [Lib.cell_of_heap hb2]; rfl
  have f1 : w2.frozen? ⟨b, 1, none⟩ = false := Lib.frozen_of_heap hb2 1
  obtain ⟨ao, n', cap, rfl⟩ : ∃ ao n' cap, v' = .slice ao n' cap := by
    rcases hown'.2 with ⟨hv, _⟩ | ⟨g, cap, cur, hv, _⟩
    · exact ⟨_, _, _, hv⟩
    · exact ⟨_, _, _, hv⟩
  go_wp2
  go_ret2
  refine ⟨rfl, Or.inr ?_, ?_⟩
  · exact Lib.BuilderAt.put (T := 97) (e := 5) hB hb2 (bs' := bs ++ Lib.strCells s) (by simpa [Lib.strCells_length] using hown') (by decide)
  · exact (hb1.grown hgrow (by omega) (fun k hk => (hown.lt k hk).1)).setCell (p := ⟨b, 1, none⟩) hB _
end Go.Proofs.YtfjjmhbffbhhdaaGreatDoor
