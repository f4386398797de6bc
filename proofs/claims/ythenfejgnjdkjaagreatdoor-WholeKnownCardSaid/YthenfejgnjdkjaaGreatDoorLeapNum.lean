/- The leading words of two numbers: the program's. -/
import Derived.Test.YthenfejgnjdkjaaGreatDoorWords2
import Derived.Test.YthenfejgnjdkjaaGreatDoorLeapDiff
import Derived.Test.YthenfejgnjdkjaaGreatDoorDivide
import Derived.Test.YthenfejgnjdkjaaGreatDoorLeapFrom
import Derived.Test.YthenfejgnjdkjaaGreatDoorLeapTake
namespace Go.Proofs.YthenfejgnjdkjaaGreatDoor
open Go.RowKit

theorem or_lead {t z s : Nat} (ht : t * 2 ^ s < 2 ^ 64) (hz : z < 2 ^ s) (hs : s < 64) : bits .or .u64 ((t * 2 ^ s : Nat) : Int) (z : Int) = ((t * 2 ^ s + z : Nat) : Int) := by
  have hz2 : z < 2 ^ 64 := Nat.lt_of_lt_of_le hz (Nat.pow_le_pow_right (by omega) (by omega))
  rw [u64_or_nat _ _ (by omega) (by omega), Nat.mul_comm t, ← Nat.two_pow_add_eq_or_of_lt hz]

set_option maxRecDepth 100000 in
set_option maxHeartbeats 1000000 in
theorem first_any (bx ox cx n s g1 g2 : Nat) (xs : List Nat) (w : World) (hx : xs.length = n) (hn : 2 ≤ n) (hk : n ≤ 1000000) (hX : ∀ x ∈ xs, x < 2 ^ 64) (h : At w .u64 bx ox xs) (hs : s < 64)
    (ht : xs.getD (n - 1) 0 * 2 ^ s < 2 ^ 64) (h1 : w.cell? ⟨g1, 0, none⟩ = some (.int .i64 (n : Int))) (h2 : w.cell? ⟨g2, 0, none⟩ = some (.int .i64 (s : Int))) :
    Calls Tryz.prog 83 #[.slice (some ⟨bx, ox, none⟩) n cx, .pointer (some ⟨g1, 0, none⟩), .pointer (some ⟨g2, 0, none⟩)] w fun e w' =>
      e = .returned (.int .u64 ((val (2 ^ 64) xs / ((2 ^ 64) ^ (n - 2) * 2 ^ (64 - s)) : Nat) : Int)) ∧ Below w.heap.size w w' := by
  have hl := lead_val (n := n - 2) (by omega) hX (show s ≤ 64 by omega)
  rw [show n - 2 + 1 = n - 1 by omega] at hl
  have c1 := h (n - 2) (by omega)
  have c2 := h (n - 1) (by omega)
  have hz : xs.getD (n - 2) 0 / 2 ^ (64 - s) < 2 ^ s := by
    have := getD_lt hX (by omega) (n - 2)
    rw [Nat.div_lt_iff_lt_mul (Nat.two_pow_pos _), ← Nat.pow_add, show s + (64 - s) = 64 by omega]
    exact this
  obtain ⟨R, hR⟩ : ∃ R, R = val (2 ^ 64) xs / ((2 ^ 64) ^ (n - 2) * 2 ^ (64 - s)) := ⟨_, rfl⟩
  rw [← hR] at hl ⊢
  have hor := or_lead ht hz hs
  rw [← hl] at hor
  have wsl : IntKind.u64.wrap (((xs.getD (n - 1) 0 : Nat) : Int) * 2 ^ s) = ((xs.getD (n - 1) 0 * 2 ^ s : Nat) : Int) := by
    rw [show (((xs.getD (n - 1) 0 : Nat) : Int) * 2 ^ s) = ((xs.getD (n - 1) 0 * 2 ^ s : Nat) : Int) from by norm_cast, IntKind.wrap_u64]
    omega
  have wsr : ((xs.getD (n - 2) 0 : Nat) : Int) / 2 ^ (64 - s) = ((xs.getD (n - 2) 0 / 2 ^ (64 - s) : Nat) : Int) := by rw [Int.natCast_ediv, Int.natCast_pow]; rfl
  generalize xs.getD (n - 2) 0 / 2 ^ (64 - s) = z2 at *
  generalize xs.getD (n - 1) 0 * 2 ^ s = z1 at *
  generalize xs.getD (n - 1) 0 = x1 at *
  generalize xs.getD (n - 2) 0 = x0 at *
  have i1 : (0 : Int) ≤ (n : Int) - 1 := by omega
  have i2 : (0 : Int) ≤ (n : Int) - 2 := by omega
  have i4 : (n : Int) - 1 < n := by omega
  have i5 : (n : Int) - 2 < n := by omega
  have i3 : (0 : Int) ≤ 64 - (s : Int) := by omega
  clear h hX hx hl hR ht hz
  go_enter Tryz.func83, Tryz.ntmps83
  go_wp2
  go_big_region
  go_wp2
  go_ret
  exact ⟨rfl, Below.drew (Below.refl _ _)⟩

theorem top_le {xs ys : List Nat} {n : Nat} (hx : xs.length = n) (hy : ys.length = n) (hn : 1 ≤ n) (hX : ∀ x ∈ xs, x < 2 ^ 64) (hle : val (2 ^ 64) ys ≤ val (2 ^ 64) xs) : ys.getD (n - 1) 0 ≤ xs.getD (n - 1) 0 := by
  have h1 := val_split (2 ^ 64) xs (n - 1) (by omega)
  have h2 := val_split (2 ^ 64) ys (n - 1) (by omega)
  rw [val_drop_cons _ _ _ (by omega), List.drop_of_length_le (by omega)] at h1 h2
  have h3 := val_take_lt (2 ^ 64) xs (n - 1) hX (by omega)
  simp only [val, Nat.mul_zero, Nat.add_zero] at h1 h2
  generalize (2 ^ 64) ^ (n - 1) = E at h1 h2 h3
  generalize xs.getD (n - 1) 0 = x at *
  generalize ys.getD (n - 1) 0 = y at *
  rcases Nat.lt_or_ge x y with h | h
  · exfalso
    have h4 : E * (x + 1) ≤ E * y := Nat.mul_le_mul_left E h
    rw [Nat.mul_succ] at h4
    omega
  · exact h
theorem lead_fits {t s : Nat} (h : bitLen t ≤ 64 - s) (hs : s ≤ 64) {u : Nat} (hu : u ≤ t) : u * 2 ^ s < 2 ^ 64 := by
  have h1 : t < 2 ^ (64 - s) := bitLen_lt_pow.2 h
  have h2 : u * 2 ^ s < 2 ^ (64 - s) * 2 ^ s := Nat.mul_lt_mul_of_pos_right (by omega) (Nat.two_pow_pos s)
  rwa [← Nat.pow_add, show 64 - s + s = 64 by omega] at h2

def RetLead (w : World) (X Y : Nat) : Ending → World → Prop := fun e w' =>
  ∃ K a b : Nat, 0 < K ∧ a = X / K ∧ b = Y / K ∧ 1 ≤ a ∧ a < 2 ^ 64 ∧ e = .returned (.tuple #[.int .u64 (a : Int), .int .u64 (b : Int)]) ∧ Below w.heap.size w w'

set_option maxRecDepth 100000 in
set_option maxHeartbeats 1000000 in
theorem leading_any (b1 o1 c1 b2 o2 c2 n : Nat) (xs ys : List Nat) (w : World) (hx : xs.length = n) (hy : ys.length = n) (hn : 2 ≤ n) (hk : n ≤ 1000000) (hX : ∀ x ∈ xs, x < 2 ^ 64) (hY : ∀ x ∈ ys, x < 2 ^ 64)
    (h1 : At w .u64 b1 o1 xs) (h2 : At w .u64 b2 o2 ys) (ht : xs.getD (n - 1) 0 ≠ 0) (hle : val (2 ^ 64) ys ≤ val (2 ^ 64) xs) :
    Calls Tryz.prog 58 #[.slice (some ⟨b1, o1, none⟩) n c1, .slice (some ⟨b2, o2, none⟩) n c2] w (RetLead w (val (2 ^ 64) xs) (val (2 ^ 64) ys)) := by
  have htl := getD_lt hX (by omega) (n - 1)
  have hbl : bitLen (xs.getD (n - 1) 0) ≤ 64 := bitLen_lt_pow.1 htl
  have hbp := bitLen_pos ht
  obtain ⟨s, hs⟩ : ∃ s, s = 64 - bitLen (xs.getD (n - 1) 0) := ⟨_, rfl⟩
  have hs64 : s < 64 := by omega
  have hf1 := lead_fits (s := s) (by omega) (by omega) (Nat.le_refl (xs.getD (n - 1) 0))
  have hf2 := lead_fits (s := s) (by omega) (by omega) (top_le hx hy (by omega) hX hle)
  have hl := lead_val (n := n - 2) (s := s) (by omega) hX (by omega)
  rw [show n - 2 + 1 = n - 1 by omega] at hl
  have hz : xs.getD (n - 2) 0 / 2 ^ (64 - s) < 2 ^ s := by
    have := getD_lt hX (by omega) (n - 2)
    rw [Nat.div_lt_iff_lt_mul (Nat.two_pow_pos _), ← Nat.pow_add, show s + (64 - s) = 64 by omega]
    exact this
  have hFX := fun g1 g2 W a b c => first_any b1 o1 c1 n s g1 g2 xs W hx hn hk hX a hs64 hf1 b c
  have hFY := fun g1 g2 W a b c => first_any b2 o2 c2 n s g1 g2 ys W hy hn hk hY a hs64 hf2 b c
  obtain ⟨K, hK⟩ : ∃ K, K = (2 ^ 64) ^ (n - 2) * 2 ^ (64 - s) := ⟨_, rfl⟩
  have hK0 : 0 < K := by rw [hK]; exact Nat.mul_pos (Nat.pow_pos (Nat.two_pow_pos _)) (Nat.two_pow_pos _)
  rw [← hK] at hl hFX hFY
  obtain ⟨a, ha⟩ : ∃ a, a = val (2 ^ 64) xs / K := ⟨_, rfl⟩
  obtain ⟨b, hb⟩ : ∃ b, b = val (2 ^ 64) ys / K := ⟨_, rfl⟩
  have ha1 : 1 ≤ a := by
    rw [ha, hl]
    have : 0 < xs.getD (n - 1) 0 * 2 ^ s := Nat.mul_pos (Nat.pos_of_ne_zero ht) (Nat.two_pow_pos _)
    exact Nat.le_trans this (Nat.le_add_right _ _)
  have ha2 : a < 2 ^ 64 := by
    rw [ha, hl, Nat.mul_comm (xs.getD (n - 1) 0), Nat.two_pow_add_eq_or_of_lt hz]
    exact Nat.or_lt_two_pow (by rw [Nat.mul_comm]; exact hf1) (Nat.lt_of_lt_of_le hz (Nat.pow_le_pow_right (by omega) (by omega)))
  rw [← ha] at hFX
  rw [← hb] at hFY
  obtain ⟨X, hXX⟩ : ∃ X, X = val (2 ^ 64) xs := ⟨_, rfl⟩
  obtain ⟨Y, hYY⟩ : ∃ Y, Y = val (2 ^ 64) ys := ⟨_, rfl⟩
  rw [← hXX] at ha ⊢
  rw [← hYY] at hb ⊢
  have HFX := Lib.hid hFX; have HFY := Lib.hid hFY
  have HR := Lib.hid (And.intro hK0 (And.intro ha (And.intro hb (And.intro ha1 ha2))))
  have c9 := h1 (n - 1) (by omega)
  have LZ := Lib.hid (fun W => lz64_any (xs.getD (n - 1) 0) htl W)
  rw [← hs] at LZ
  have H1 := Lib.hid h1; have H2 := Lib.hid h2
  generalize xs.getD (n - 1) 0 = t at *
  have i1 : (0 : Int) ≤ (n : Int) - 1 := by omega
  have i4 : (n : Int) - 1 < n := by omega
  have hb1 := World.block_lt_of_cell? _ _ c9
  have hmf : ∀ (fn : Fn) (first cap : Array Value) (w : World), (Instr.makeFunc fn first cap).run Tryz.prog w = .ok (.func fn first cap) w := fun _ _ _ _ => rfl
  clear htl hbl hbp hf1 hf2 hl hz hFX hFY hK hK0 ha hb ha1 ha2 h1 h2 hX hY hle hs ht hXX hYY
  go_enter Tryz.func58, Tryz.ntmps58
  go_wp2_with fail
  refine (LZ.out _).mono ?_
  rintro e w' ⟨rfl, rfl⟩
  go_wp2_with fail
  obtain ⟨w2, hw2⟩ : ∃ w2, w2 = (w.alloc (.cells #[.int .i64 (n : Int)] 3)).alloc (.cells #[.int .i64 (s : Int)] 3) := ⟨_, rfl⟩
  rw [← hw2]
  have hB : Below w.heap.size w w2 := by rw [hw2]; exact below_alloc (below_alloc (Below.refl _ _) _) _
  have q1 : w2.cell? ⟨w.heap.size, 0, none⟩ = some (.int .i64 (n : Int)) := by rw [hw2]; simp [go_sem]
  have q2 : w2.cell? ⟨w.heap.size + 1, 0, none⟩ = some (.int .i64 (s : Int)) := by rw [hw2]; simp [go_sem]
  obtain ⟨g1, hg1⟩ : ∃ g, g = w.heap.size := ⟨_, rfl⟩
  obtain ⟨g2, hg2⟩ : ∃ g, g = w.heap.size + 1 := ⟨_, rfl⟩
  rw [← hg1] at q1
  rw [← hg2] at q2
  rw [← hg2, ← hg1]
  have Q1 := Lib.hid q1; have Q2 := Lib.hid q2
  have HB := Lib.hid hB
  clear hw2 q1 q2 hB hg1 hg2
  refine (HFX.out g1 g2 w2 (H1.out.mono HB.out) Q1.out Q2.out).mono ?_
  rintro e w3 ⟨rfl, hb3⟩
  have Q13 := Lib.hid (wcell hb3 Q1.out); have Q23 := Lib.hid (wcell hb3 Q2.out)
  have HB3 := Lib.hid (below_step HB.out hb3)
  clear hb3
  go_wp2_with fail
  refine (HFY.out g1 g2 w3 (H2.out.mono HB3.out) Q13.out Q23.out).mono ?_
  rintro e w4 ⟨rfl, hb4⟩
  have HB4 := Lib.hid (below_step HB3.out hb4)
  clear hb4
  go_wp2
  refine bodyPost_ret (v := .tuple #[.int .u64 (a : Int), .int .u64 (b : Int)]) (by simp [results, Tryz.results58, go_sem]) rfl ?_
  exact ⟨K, a, b, HR.out.1, HR.out.2.1, HR.out.2.2.1, HR.out.2.2.2.1, HR.out.2.2.2.2, rfl, HB4.out⟩
end Go.Proofs.YthenfejgnjdkjaaGreatDoor

/- What the loop of leaps keeps (numbers and rows alone); its drawn statements' table. -/
namespace Go.Proofs.YthenfejgnjdkjaaGreatDoor
open Go.RowKit

theorem val_zeros {b : Nat} : ∀ (xs : List Nat), (∀ i, i < xs.length → xs.getD i 0 = 0) → val b xs = 0
  | [], _ => rfl
  | x :: xs, h => by
    have h0 : x = 0 := by simpa using h 0 (by simp)
    have h1 := val_zeros (b := b) xs (fun i hi => by simpa using h (i + 1) (by simpa using hi))
    show x + b * val b xs = 0
    rw [h1, h0, Nat.mul_zero]
theorem val_cut {b n : Nat} {xs : List Nat} (hn : n ≤ xs.length) (h : ∀ i, n ≤ i → i < xs.length → xs.getD i 0 = 0) : val b (xs.take n) = val b xs := by
  have h1 := val_split b xs n hn
  have h2 : val b (xs.drop n) = 0 := val_zeros _ (fun i hi => by
    rw [List.length_drop] at hi
    have := h (n + i) (by omega) (by omega)
    simpa [List.getD, List.getElem?_drop] using this)
  rw [h2, Nat.mul_zero, Nat.add_zero] at h1
  exact h1.symm
theorem getD_take {xs : List Nat} {n i : Nat} (h : i < n) : (xs.take n).getD i 0 = xs.getD i 0 := by
  simp [List.getD, h]

structure LeapRows (X Y n : Nat) (xs ys zs us : List Nat) (P Q : Nat) : Prop where
  n1 : 1 ≤ n
  lx : xs.length = n
  ly : ys.length = n
  lz : zs.length = n
  lu : us.length = n
  bx : ∀ x ∈ xs, x < 2 ^ 64
  by_ : ∀ x ∈ ys, x < 2 ^ 64
  bz : ∀ x ∈ zs, x < 2 ^ 64
  bu : ∀ x ∈ us, x < 2 ^ 64
  vx : val (2 ^ 64) xs = P
  vy : val (2 ^ 64) ys = Q
  lt : Q < P
  le : P ≤ X
  gcd : Nat.gcd P Q = Nat.gcd X Y
  top : 1 < n → xs.getD (n - 1) 0 ≠ 0

theorem words_top {X n : Nat} {zs : List Nat} (hX : X ≠ 0) (hn : n = (bitLen X + 63) / 64) (hl : zs.length = n) (hb : ∀ x ∈ zs, x < 2 ^ 64) (hv : val (2 ^ 64) zs = X) : zs.getD (n - 1) 0 ≠ 0 := by
  intro h0
  have hp := bitLen_pos hX
  have h1 := val_split (2 ^ 64) zs (n - 1) (by omega)
  rw [val_drop_cons _ _ _ (by omega), List.drop_of_length_le (by omega), h0] at h1
  simp only [val, Nat.mul_zero, Nat.add_zero] at h1
  have h2 := val_take_lt (2 ^ 64) zs (n - 1) hb (by omega)
  rw [← h1, hv, ← Nat.pow_mul] at h2
  have h3 := bitLen_lt_pow.1 h2
  omega
theorem words_fit {X n : Nat} (hn : n = (bitLen X + 63) / 64) : X < (2 ^ 64) ^ n := by
  rw [← Nat.pow_mul]
  exact bitLen_lt_pow.2 (by omega)
theorem LeapRows.next {X Y n m P Q P' Q' : Nat} {xs ys zs us qs ps : List Nat} (h : LeapRows X Y n xs ys zs us P Q) (lq : qs.length = n) (lp : ps.length = n) (bq : ∀ x ∈ qs, x < 2 ^ 64) (bp : ∀ x ∈ ps, x < 2 ^ 64)
    (vq : val (2 ^ 64) qs = P') (vp : val (2 ^ 64) ps = Q') (hlt : Q' < P') (hle : P' ≤ X) (hg : Nat.gcd P' Q' = Nat.gcd X Y) (hm1 : 1 ≤ m) (hm : m ≤ n) (h0 : ∀ i, m ≤ i → i < n → qs.getD i 0 = 0) (ht : 1 < m → qs.getD (m - 1) 0 ≠ 0) :
    LeapRows X Y m (qs.take m) (ps.take m) (xs.take m) (ys.take m) P' Q' := by
  have e1 : val (2 ^ 64) (qs.take m) = P' := by rw [val_cut (by omega) (fun i h1 h2 => h0 i h1 (by omega))]; exact vq
  have e2 : P' < (2 ^ 64) ^ m := by
    rw [← e1]
    exact val_take_lt _ _ _ bq (by omega)
  have e3 : val (2 ^ 64) (ps.take m) = Q' := by rw [(val_nil_ge (Nat.two_pow_pos _) (by rw [vp]; omega)).1]; exact vp
  refine ⟨hm1, ?_, ?_, ?_, ?_, fun x hx => bq x (List.mem_of_mem_take hx), fun x hx => bp x (List.mem_of_mem_take hx), fun x hx => h.bx x (List.mem_of_mem_take hx), fun x hx => h.by_ x (List.mem_of_mem_take hx), e1, e3, hlt, hle, hg, fun h1 => ?_⟩
  · rw [List.length_take]; omega
  · rw [List.length_take]; omega
  · rw [List.length_take, h.lx]; omega
  · rw [List.length_take, h.ly]; omega
  · rw [getD_take (by omega)]; exact ht h1

inductive LWant where
  | is (v : Value)
  | rowp (base l n : Nat)
  | any
def LMeans (w : World) : LWant → Value → Prop
  | .is x, v => v = x
  | .rowp base l n, v => ∃ b zs c, v = .slice (some ⟨b, 0, none⟩) l c ∧ zs.length = l ∧ l ≤ c ∧ (∀ x ∈ zs, x < 2 ^ 64) ∧ val (2 ^ 64) zs = n ∧ base ≤ b ∧ At w .u64 b 0 zs ∧ Fr w b 0 l ∧ b < w.heap.size
  | .any, _ => True
theorem LMeans.below {w w' : World} {q : LWant} {v : Value} (h : LMeans w q v) (hb : Below w.heap.size w w') : LMeans w' q v := by
  cases q with
  | is x => exact h
  | any => trivial
  | rowp base l n =>
    obtain ⟨b, zs, c, h1, h2, h3, h4, h5, h6, h7, h8, h9⟩ := h
    exact ⟨b, zs, c, h1, h2, h3, h4, h5, h6, h7.mono hb, h8.mono hb h9, Nat.lt_of_lt_of_le h9 hb.size⟩
def LTab (t : List LWant) (off : Nat) (i : Nat) (v : Value) (w : World) : Prop := LMeans w (t.getD (i - off) .any) v
theorem LTab.stable {t : List LWant} {off : Nat} : ∀ i v w w', Below w.heap.size w w' → LTab t off i v w → LTab t off i v w' := fun _ _ _ _ hb h => LMeans.below h hb

noncomputable def rowAt (w : World) : Value → Nat
  | .slice (some a) l _ => val (2 ^ 64) ((List.range l).map fun i => match w.cell? ⟨a.block, i, none⟩ with | some v => (intOf v).toNat | none => 0)
  | _ => 0
theorem rowAt_eq {w : World} {b l c : Nat} {xs : List Nat} (h : At w .u64 b 0 xs) (hl : xs.length = l) : rowAt w (.slice (some ⟨b, 0, none⟩) l c) = val (2 ^ 64) xs := by
  show val (2 ^ 64) ((List.range l).map fun i => match w.cell? ⟨b, i, none⟩ with | some v => (intOf v).toNat | none => 0) = _
  congr 1
  apply List.ext_getElem
  · simp [hl]
  · intro i h1 h2
    have := h i h2
    rw [Nat.zero_add] at this
    simp only [List.getElem_map, List.getElem_range, this]
    show Int.toNat ((xs.getD i 0 : Nat) : Int) = _
    rw [Int.toNat_natCast]
    simp [List.getD, h2]
end Go.Proofs.YthenfejgnjdkjaaGreatDoor
