/- Words and bytes of a number (numbers alone). -/
import Derived.Test.YtfjjmhbffbhhdaaGreatDoorFill
import Derived.Test.YtfjjmhbffbhhdaaGreatDoorSum
import Derived.Test.YtfjjmhbffbhhdaaGreatDoorQNum
import Derived.Test.YtfjjmhbffbhhdaaGreatDoorTz
import Derived.Test.YtfjjmhbffbhhdaaGreatDoorDivide
import Derived.Test.YtfjjmhbffbhhdaaGreatDoorShiftS
import Derived.Deep.RegionWith
import Derived.Test.YtfjjmhbffbhhdaaGreatDoorLeapFrom
namespace Go.Proofs.YtfjjmhbffbhhdaaGreatDoor

end Go.Proofs.YtfjjmhbffbhhdaaGreatDoor

/- A number as words, and words as a number: the program's. -/
namespace Go.Proofs.YtfjjmhbffbhhdaaGreatDoor
open Go.RowKit

end Go.Proofs.YtfjjmhbffbhhdaaGreatDoor

/- The words of a number: the program's. -/
namespace Go.Proofs.YtfjjmhbffbhhdaaGreatDoor
open Go.RowKit

end Go.Proofs.YtfjjmhbffbhhdaaGreatDoor

/- The leading words of two numbers: the program's. -/
namespace Go.Proofs.YtfjjmhbffbhhdaaGreatDoor
open Go.RowKit

end Go.Proofs.YtfjjmhbffbhhdaaGreatDoor

/- What a leap makes of two numbers: the program's. -/
namespace Go.Proofs.YtfjjmhbffbhhdaaGreatDoor
open Go.RowKit

end Go.Proofs.YtfjjmhbffbhhdaaGreatDoor

/- What the loop of leaps keeps (numbers and rows alone); its drawn statements' table. -/
namespace Go.Proofs.YtfjjmhbffbhhdaaGreatDoor
open Go.RowKit

theorem val_zeros {b : Nat} : ∀ (xs : List Nat), (∀ i, i < xs.length → xs.getD i 0 = 0) → val b xs = 0
  | [], _ => rfl
  | x :: xs, h => by
    have h0 : x = 0 := by simpa using h 0 (by simp)
    have h1 := val_zeros (b := b) xs (fun i hi => by simpa using h (i + 1) (by simpa using hi))
    show x + b * val b xs = 0
    rw [h1, h0, Nat.mul_zero]
theorem val_cut {b n : Nat} {xs : List Nat} (hn : n ≤ xs.length) (h : ∀ i, n ≤ i → i < xs.length → xs.getD i 0 = 0) : val b (xs.take n) = val b xs := by
  have h1 := val_split b xs n hn
  have h2 : val b (xs.drop n) = 0 := val_zeros _ (fun i hi => by
    rw [List.length_drop] at hi
    have := h (n + i) (by omega) (by omega)
    simpa [List.getD, List.getElem?_drop] using this)
  rw [h2, Nat.mul_zero, Nat.add_zero] at h1
  exact h1.symm
theorem getD_take {xs : List Nat} {n i : Nat} (h : i < n) : (xs.take n).getD i 0 = xs.getD i 0 := by
  simp [List.getD, h]

structure LeapRows (X Y n : Nat) (xs ys zs us : List Nat) (P Q : Nat) : Prop where
  n1 : 1 ≤ n
  lx : xs.length = n
  ly : ys.length = n
  lz : zs.length = n
  lu : us.length = n
  bx : ∀ x ∈ xs, x < 2 ^ 64
  by_ : ∀ x ∈ ys, x < 2 ^ 64
  bz : ∀ x ∈ zs, x < 2 ^ 64
  bu : ∀ x ∈ us, x < 2 ^ 64
  vx : val (2 ^ 64) xs = P
  vy : val (2 ^ 64) ys = Q
  lt : Q < P
  le : P ≤ X
  gcd : Nat.gcd P Q = Nat.gcd X Y
  top : 1 < n → xs.getD (n - 1) 0 ≠ 0

theorem LeapRows.next {X Y n m P Q P' Q' : Nat} {xs ys zs us qs ps : List Nat} (h : LeapRows X Y n xs ys zs us P Q) (lq : qs.length = n) (lp : ps.length = n) (bq : ∀ x ∈ qs, x < 2 ^ 64) (bp : ∀ x ∈ ps, x < 2 ^ 64)
    (vq : val (2 ^ 64) qs = P') (vp : val (2 ^ 64) ps = Q') (hlt : Q' < P') (hle : P' ≤ X) (hg : Nat.gcd P' Q' = Nat.gcd X Y) (hm1 : 1 ≤ m) (hm : m ≤ n) (h0 : ∀ i, m ≤ i → i < n → qs.getD i 0 = 0) (ht : 1 < m → qs.getD (m - 1) 0 ≠ 0) :
    LeapRows X Y m (qs.take m) (ps.take m) (xs.take m) (ys.take m) P' Q' := by
  have e1 : val (2 ^ 64) (qs.take m) = P' := by rw [val_cut (by omega) (fun i h1 h2 => h0 i h1 (by omega))]; exact vq
  have e2 : P' < (2 ^ 64) ^ m := by
    rw [← e1]
    exact val_take_lt _ _ _ bq (by omega)
  have e3 : val (2 ^ 64) (ps.take m) = Q' := by rw [(val_nil_ge (Nat.two_pow_pos _) (by rw [vp]; omega)).1]; exact vp
  refine ⟨hm1, ?_, ?_, ?_, ?_, fun x hx => bq x (List.mem_of_mem_take hx), fun x hx => bp x (List.mem_of_mem_take hx), fun x hx => h.bx x (List.mem_of_mem_take hx), fun x hx => h.by_ x (List.mem_of_mem_take hx), e1, e3, hlt, hle, hg, fun h1 => ?_⟩
  · rw [List.length_take]; omega
  · rw [List.length_take]; omega
  · rw [List.length_take, h.lx]; omega
  · rw [List.length_take, h.ly]; omega
  · rw [getD_take (by omega)]; exact ht h1

inductive LWant where
  | is (v : Value)
  | rowp (base l n : Nat)
  | any
def LMeans (w : World) : LWant → Value → Prop
  | .is x, v => v = x
  | .rowp base l n, v => ∃ b zs c, v = .slice (some ⟨b, 0, none⟩) l c ∧ zs.length = l ∧ l ≤ c ∧ (∀ x ∈ zs, x < 2 ^ 64) ∧ val (2 ^ 64) zs = n ∧ base ≤ b ∧ At w .u64 b 0 zs ∧ Fr w b 0 l ∧ b < w.heap.size
  | .any, _ => True
theorem LMeans.below {w w' : World} {q : LWant} {v : Value} (h : LMeans w q v) (hb : Below w.heap.size w w') : LMeans w' q v := by
  cases q with
  | is x => exact h
  | any => trivial
  | rowp base l n =>
    obtain ⟨b, zs, c, h1, h2, h3, h4, h5, h6, h7, h8, h9⟩ := h
    exact ⟨b, zs, c, h1, h2, h3, h4, h5, h6, h7.mono hb, h8.mono hb h9, Nat.lt_of_lt_of_le h9 hb.size⟩
def LTab (t : List LWant) (off : Nat) (i : Nat) (v : Value) (w : World) : Prop := LMeans w (t.getD (i - off) .any) v
theorem LTab.stable {t : List LWant} {off : Nat} : ∀ i v w w', Below w.heap.size w w' → LTab t off i v w → LTab t off i v w' := fun _ _ _ _ hb h => LMeans.below h hb

end Go.Proofs.YtfjjmhbffbhhdaaGreatDoor
