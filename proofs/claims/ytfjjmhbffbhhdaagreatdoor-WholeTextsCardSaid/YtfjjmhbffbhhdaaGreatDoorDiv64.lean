/- Div64: a quotient of two digits by one. -/
import Derived.Test.YtfjjmhbffbhhdaaGreatDoorShiftS
import Derived.Test.YtfjjmhbffbhhdaaGreatDoorLong
namespace Go.Proofs.YtfjjmhbffbhhdaaGreatDoor
open Go.RowKit

theorem lz64_any (n : Nat) (hn : n < 2 ^ 64) (w : World) : Calls Tryz.prog 91 #[.int .u64 (n : Int)] w fun e w' => w = w' ∧ e = .returned (.int .i64 ((64 - bitLen n : Nat) : Int)) := by
  have hb : bitLen n ≤ 64 := bitLen_lt_pow.1 hn
  go_enter Tryz.func91, Tryz.ntmps91
  go_wp2_with (go_at_call 107; refine (len64_any n hn _).mono ?_; rintro e w2 ⟨rfl, rfl⟩)
  go_ret
  exact ⟨rfl, ret_int (by omega)⟩

def RetQ (W : World) (q r : Nat) : Ending → World → Prop := fun e w' => e = .returned (.tuple #[.int .u64 (q : Int), .int .u64 (r : Int)]) ∧ Below W.heap.size W w'

set_option maxHeartbeats 1000000 in
theorem div64_zero (lo y : Nat) (hlo : lo < 2 ^ 64) (hy : 0 < y) (w : World) :
    Calls Tryz.prog 79 #[.int .u64 0, .int .u64 (lo : Int), .int .u64 (y : Int)] w (RetQ w (lo / y) (lo % y)) := by
  have d0 : ((y : Int) == 0) = false := beq_eq_false_iff_ne.2 (by omega)
  have n0 : ¬ y = 0 := by omega
  have wq : IntKind.u64.wrap ((lo : Int) / y) = (lo : Int) / y := by
    have h1 : lo / y < 2 ^ 64 := Nat.lt_of_le_of_lt (Nat.div_le_self lo y) hlo
    rw [← Int.natCast_ediv, IntKind.wrap_u64]
    generalize lo / y = q at *
    omega
  have wr : ((lo : Int)).tmod y = (lo : Int) % y := Int.tmod_eq_emod_of_nonneg (by omega)
  go_enter Tryz.func79, Tryz.ntmps79
  go_wp2
  go_big_region
  go_wp2
  exact bodyPost_ret (v := .tuple #[.int .u64 ((lo / y : Nat) : Int), .int .u64 ((lo % y : Nat) : Int)]) (by simp [results, Tryz.results79, go_sem]) rfl ⟨rfl, (Below.refl _ _).drew⟩

theorem div64_norm {y s : Nat} (hy0 : 0 < y) (hy : y < 2 ^ 64) (hs : 64 - bitLen y = s) : s < 64 ∧ 2 ^ 63 ≤ y * 2 ^ s ∧ y * 2 ^ s < 2 ^ 64 := by
  have hb : bitLen y ≤ 64 := bitLen_lt_pow.1 hy
  have hp := bitLen_pos (n := y) (by omega)
  refine ⟨by omega, ?_, ?_⟩
  · have h1 : 2 ^ (bitLen y - 1) ≤ y := by
      rcases Nat.lt_or_ge y (2 ^ (bitLen y - 1)) with h | h
      · have := bitLen_lt_pow.1 h; omega
      · exact h
    have h2 : 2 ^ (bitLen y - 1) * 2 ^ s ≤ y * 2 ^ s := Nat.mul_le_mul_right _ h1
    rw [← Nat.pow_add, show bitLen y - 1 + s = 63 from by omega] at h2
    exact h2
  · have h1 : y < 2 ^ bitLen y := bitLen_lt_pow.2 (Nat.le_refl _)
    have h2 : y * 2 ^ s < 2 ^ bitLen y * 2 ^ s := Nat.mul_lt_mul_of_pos_right h1 (Nat.two_pow_pos s)
    rw [← Nat.pow_add, show bitLen y + s = 64 from by omega] at h2
    exact h2

structure HalfInv (U y1 y0 u q r : Nat) : Prop where
  eq : q * y1 + r = U
  rest : r < 4294967296
  most : q ≤ 4294967297
  over : U * 4294967296 + u < (q + 1) * (y1 * 4294967296 + y0)

theorem HalfInv.start {U y1 y0 u : Nat} (h1 : 2147483648 ≤ y1) (h2 : y1 < 4294967296) (h3 : y0 < 4294967296) (hu : u < 4294967296) (hU : U < y1 * 4294967296 + y0) : HalfInv U y1 y0 u (U / y1) (U % y1) := by
  refine ⟨by rw [Nat.mul_comm]; exact Nat.div_add_mod U y1, by have := Nat.mod_lt U (show 0 < y1 by omega); omega, ?_, guess_start (by omega) hu⟩
  have : U / y1 < 4294967298 := (Nat.div_lt_iff_lt_mul (by omega)).2 (by omega)
  omega
theorem HalfInv.pos {U y1 y0 u q r : Nat} (_h : HalfInv U y1 y0 u q r) (_h3 : y0 < 4294967296) (hc : 4294967296 ≤ q ∨ r * 4294967296 + u < q * y0) : 0 < q := by
  rcases hc with h | h
  · omega
  · rcases Nat.eq_zero_or_pos q with h0 | h0
    · rw [h0, Nat.zero_mul] at h; omega
    · exact h0
theorem HalfInv.less {U y1 y0 u q r : Nat} (h : HalfInv U y1 y0 u q r) (hu : u < 4294967296) (hU : U < y1 * 4294967296 + y0) (hc : 4294967296 ≤ q ∨ r * 4294967296 + u < q * y0) : U * 4294967296 + u < q * (y1 * 4294967296 + y0) := by
  rcases hc with hc | hc
  · have h2 : 4294967296 * (y1 * 4294967296 + y0) ≤ q * (y1 * 4294967296 + y0) := Nat.mul_le_mul_right _ hc
    omega
  · exact guess_over h.eq hc
theorem HalfInv.step {U y1 y0 u q r : Nat} (h : HalfInv U y1 y0 u q r) (h3 : y0 < 4294967296) (hu : u < 4294967296) (hU : U < y1 * 4294967296 + y0) (hc : 4294967296 ≤ q ∨ r * 4294967296 + u < q * y0)
    (hr : r + y1 < 4294967296) : HalfInv U y1 y0 u (q - 1) (r + y1) := by
  have hp := h.pos h3 hc
  have hl := h.less hu hU hc
  have he := h.eq
  have hm := h.most
  obtain ⟨k, rfl⟩ : ∃ k, q = k + 1 := ⟨q - 1, by omega⟩
  rw [Nat.add_sub_cancel]
  refine ⟨by rw [← he, Nat.add_mul]; omega, hr, by omega, hl⟩
theorem HalfInv.done {U y1 y0 u q r : Nat} (h : HalfInv U y1 y0 u q r) (hc : q * y0 ≤ r * 4294967296 + u) : q = (U * 4294967296 + u) / (y1 * 4294967296 + y0) :=
  (Nat.div_eq_of_lt_le (guess_fits h.eq hc) h.over).symm
theorem HalfInv.last {U y1 y0 u q r : Nat} (h : HalfInv U y1 y0 u q r) (h3 : y0 < 4294967296) (hu : u < 4294967296) (hU : U < y1 * 4294967296 + y0) (hc : 4294967296 ≤ q ∨ r * 4294967296 + u < q * y0)
    (hr : 4294967296 ≤ r + y1) : q - 1 = (U * 4294967296 + u) / (y1 * 4294967296 + y0) := by
  have hp := h.pos h3 hc
  have hl := h.less hu hU hc
  have he := h.eq
  have hm := h.most
  obtain ⟨k, rfl⟩ : ∃ k, q = k + 1 := ⟨q - 1, by omega⟩
  rw [Nat.add_sub_cancel]
  refine (Nat.div_eq_of_lt_le (guess_fits (r := r + y1) (by rw [← he, Nat.add_mul]; omega) ?_) hl).symm
  have h1 : k * y0 ≤ 4294967296 * 4294967296 := Nat.mul_le_mul (by omega) (by omega)
  have h2 : 4294967296 * 4294967296 ≤ (r + y1) * 4294967296 := Nat.mul_le_mul_right _ hr
  omega

theorem div64_split {hi lo y s Y : Nat} (hs : s < 64) (hlt : hi < y) (hlo : lo < 2 ^ 64) (hY : Y = y * 2 ^ s) (hY2 : Y < 2 ^ 64) :
    ∃ H L V, hi * 2 ^ s = H ∧ H < 2 ^ 64 ∧ lo / 2 ^ (64 - s) = L ∧ L < 2 ^ 64 ∧ H ||| L = H + L ∧ H + L < Y ∧ lo * 2 ^ s % 2 ^ 64 = V ∧ V < 2 ^ 64 ∧ (hi * 2 ^ 64 + lo) * 2 ^ s = (H + L) * 2 ^ 64 + V := by
  obtain ⟨e1, e2, _⟩ := up_digit hlo hs
  have hH : hi * 2 ^ s < Y := by rw [hY]; exact Nat.mul_lt_mul_of_pos_right hlt (Nat.two_pow_pos s)
  have hV : lo * 2 ^ s % 2 ^ 64 < 2 ^ 64 := Nat.mod_lt _ (by omega)
  have hor : hi * 2 ^ s ||| lo / 2 ^ (64 - s) = hi * 2 ^ s + lo / 2 ^ (64 - s) := by
    rw [Nat.mul_comm hi, Nat.two_pow_add_eq_or_of_lt e2]
  have hUY : hi * 2 ^ s + lo / 2 ^ (64 - s) < Y := by
    have h2 : (hi + 1) * 2 ^ s ≤ y * 2 ^ s := Nat.mul_le_mul_right _ hlt
    rw [← hY, Nat.add_mul] at h2
    omega
  have heq : (hi * 2 ^ 64 + lo) * 2 ^ s = (hi * 2 ^ s + lo / 2 ^ (64 - s)) * 2 ^ 64 + lo * 2 ^ s % 2 ^ 64 := by
    rw [Nat.add_mul]
    generalize lo * 2 ^ s % 2 ^ 64 = V at *
    generalize lo / 2 ^ (64 - s) = L at *
    generalize lo * 2 ^ s = M at *
    have : hi * 2 ^ 64 * 2 ^ s = hi * 2 ^ s * 2 ^ 64 := by grind
    rw [this]
    omega
  refine ⟨hi * 2 ^ s, lo / 2 ^ (64 - s), lo * 2 ^ s % 2 ^ 64, Eq.refl _, ?_, Eq.refl _, ?_, hor, hUY, Eq.refl _, hV, heq⟩ <;> omega

theorem div64_end {N y s Y U V v1 v0 q1 q0 U2 R : Nat} (hY : Y = y * 2 ^ s) (hN : N * 2 ^ s = U * 2 ^ 64 + V) (hV : V = v1 * 4294967296 + v0) (hq1 : U * 4294967296 + v1 = q1 * Y + U2) (hq0 : U2 * 4294967296 + v0 = q0 * Y + R) (hR : R < Y) :
    q1 * 4294967296 + q0 = N / y ∧ R / 2 ^ s = N % y := by
  have e : N * 2 ^ s = (q1 * 4294967296 + q0) * Y + R := by
    have e1 : (q1 * 4294967296 + q0) * Y = q1 * Y * 4294967296 + q0 * Y := by grind
    generalize q1 * Y = A at *
    generalize q0 * Y = B at *
    omega
  obtain ⟨Q, hQ⟩ : ∃ Q, Q = q1 * 4294967296 + q0 := ⟨_, rfl⟩
  rw [← hQ] at e ⊢
  clear hQ hq1 hq0 hV
  subst hY
  have hp := Nat.two_pow_pos s
  generalize 2 ^ s = p at *
  have e2 : N * p = Q * y * p + R := by rw [e]; grind
  have h1 : Q * y ≤ N := by
    refine Nat.le_of_mul_le_mul_right (c := p) ?_ hp
    omega
  have h2 : R = (N - Q * y) * p := by rw [Nat.sub_mul]; omega
  have h3 : N - Q * y < y := by
    refine Nat.lt_of_mul_lt_mul_right (a := p) ?_
    rw [← h2]; exact hR
  have hq : Q = N / y := by
    refine (Nat.div_eq_of_lt_le h1 ?_).symm
    rw [Nat.add_mul]; omega
  refine ⟨hq, ?_⟩
  rw [h2, Nat.mul_div_cancel _ hp]
  have := Nat.div_add_mod N y
  rw [← hq, Nat.mul_comm] at this
  omega

theorem wrap_at {z : Int} {n : Nat} (h : z % 18446744073709551616 = n) : IntKind.u64.wrap z = (n : Int) := by rw [IntKind.wrap_u64]; exact h

set_option maxRecDepth 100000 in
set_option maxHeartbeats 8000000 in
theorem div64_pos (hi lo y : Nat) (hhi : 0 < hi) (hlt : hi < y) (hy : y < 2 ^ 64) (hlo : lo < 2 ^ 64) (w : World) :
    Calls Tryz.prog 79 #[.int .u64 (hi : Int), .int .u64 (lo : Int), .int .u64 (y : Int)] w (RetQ w ((hi * 2 ^ 64 + lo) / y) ((hi * 2 ^ 64 + lo) % y)) := by
  obtain ⟨s, hs⟩ : ∃ s, 64 - bitLen y = s := ⟨_, rfl⟩
  obtain ⟨hs64, hY1, hY2⟩ := div64_norm (by omega) hy hs
  obtain ⟨Y, hY⟩ : ∃ Y, Y = y * 2 ^ s := ⟨_, rfl⟩
  rw [← hY] at hY1 hY2
  obtain ⟨H, L, V, hH, hH2, hL, hL2, hor, hU, hV, hV2, hN⟩ := div64_split hs64 hlt hlo hY hY2
  have HLZ := Lib.hid (lz64_any y hy)
  rw [hs] at HLZ
  have wY : IntKind.u64.wrap ((y : Int) * 2 ^ s) = (Y : Int) := by
    rw [show ((y : Int) * 2 ^ s) = ((y * 2 ^ s : Nat) : Int) from by norm_cast, ← hY]
    exact wrap_at (by omega)
  have wH : IntKind.u64.wrap ((hi : Int) * 2 ^ s) = (H : Int) := by
    rw [show ((hi : Int) * 2 ^ s) = ((hi * 2 ^ s : Nat) : Int) from by norm_cast, hH]
    exact wrap_at (by omega)
  have wL : (lo : Int) / 2 ^ (64 - s) = (L : Int) := by
    rw [← hL, Int.natCast_ediv, Int.natCast_pow]; rfl
  have wV : IntKind.u64.wrap ((lo : Int) * 2 ^ s) = (V : Int) := by
    rw [show ((lo : Int) * 2 ^ s) = ((lo * 2 ^ s : Nat) : Int) from by norm_cast]
    exact wrap_at (by omega)
  obtain ⟨U, hUU⟩ : ∃ U, U = H + L := ⟨_, rfl⟩
  rw [← hUU] at hor hU hN
  have wU : bits .or .u64 (H : Int) (L : Int) = (U : Int) := by rw [u64_or_nat H L (by omega) (by omega), hor]
  obtain ⟨y1, hy1⟩ : ∃ y1, y1 = Y / 4294967296 := ⟨_, rfl⟩
  obtain ⟨y0, hy0⟩ : ∃ y0, y0 = Y % 4294967296 := ⟨_, rfl⟩
  obtain ⟨v1, hv1⟩ : ∃ v1, v1 = V / 4294967296 := ⟨_, rfl⟩
  obtain ⟨v0, hv0⟩ : ∃ v0, v0 = V % 4294967296 := ⟨_, rfl⟩
  have w1 : (Y : Int) / 4294967296 = (y1 : Int) := by omega
  have w2 : (V : Int) / 4294967296 = (v1 : Int) := by omega
  have w3 : bits .and .u64 (Y : Int) 4294967295 = (y0 : Int) := by rw [Mul64.maskN Y (by omega), hy0]
  have w4 : bits .and .u64 (V : Int) 4294967295 = (v0 : Int) := by rw [Mul64.maskN V (by omega), hv0]
  have b1 : 2147483648 ≤ y1 := by omega
  have b2 : y1 < 4294967296 := by omega
  have b3 : y0 < 4294967296 := by omega
  have b4 : v1 < 4294967296 := by omega
  have b5 : v0 < 4294967296 := by omega
  have eY : Y = y1 * 4294967296 + y0 := by omega
  have eV : V = v1 * 4294967296 + v0 := by omega
  have hU2 : U < y1 * 4294967296 + y0 := by omega
  have hst := HalfInv.start b1 b2 b3 b4 hU2
  obtain ⟨q, hq⟩ : ∃ q, q = U / y1 := ⟨_, rfl⟩
  obtain ⟨r, hr⟩ : ∃ r, r = U % y1 := ⟨_, rfl⟩
  rw [← hq, ← hr] at hst
  have hqr := hst.eq
  have hqm := hst.most
  obtain ⟨t, ht⟩ : ∃ t, t = q * y1 := ⟨_, rfl⟩
  rw [← ht] at hqr
  have wq' : IntKind.u64.wrap ((U : Int) / y1) = (q : Int) := by
    rw [← Int.natCast_ediv, ← hq]
    exact wrap_at (by omega)
  have wq : IntKind.u64.wrap ((U : Int).tdiv y1) = (q : Int) := by
    rw [Int.tdiv_eq_ediv_of_nonneg (by omega)]; exact wq'
  have wm : IntKind.u64.wrap ((q : Int) * y1) = (t : Int) := by
    rw [← Int.natCast_mul, ← ht]
    exact wrap_at (by omega)
  have wr : IntKind.u64.wrap ((U : Int) - t) = (r : Int) := wrap_at (by omega)
  clear hqr hqm
  have HST := Lib.hid hst
  have HY := Lib.hid hY; have HN := Lib.hid hN; have HEY := Lib.hid eY; have HEV := Lib.hid eV; have HU := Lib.hid hU2; have HY1 := Lib.hid hY1
  have n1 : ¬ y1 = 0 := by omega
  have d0 : ((y : Int) == 0) = false := beq_eq_false_iff_ne.2 (by omega)
  have d1 : ((hi : Int) == 0) = false := beq_eq_false_iff_ne.2 (by omega)
  have d2 : ¬ ((y : Int) ≤ hi) := by omega
  clear hst hY hN eY eV hU hU2 hUU hH hL hV hor hs hY1 hq hr ht hy1 hy0 hv1 hv0 hL2 hH2 hlo hhi
  go_enter Tryz.func79, Tryz.ntmps79
  go_wp2_with fail
  refine (HLZ.out _).mono ?_
  rintro e w1 ⟨rfl, rfl⟩
  go_wp2
  rename_i K hK
  have key : ∀ (x3 x4 x5 x16 x17 x18 x19 x20 x21 x22 x23 x24 x25 x26 x27 x28 x29 x30 x31 x32 x33 x34 x35 x36 x37 x38 x39 x40 x41 x42 x43 x44 x45 x46 x47 x48 x49 x50 x51 x52 x53 x54 x55 x56 x57 x58 x59 x60 x61 x62 x63 x64 x65 x66 x67 x68 x69 x70 x71 x72 x73 x74 x75 x76 x77 x78 x79 x80 x81 x82 x83 x84 x85 x86 x87 x88 x89 x90 x91 x92 x93 x94 x95 x96 x97 x98 x99 x100 x101 x102 x103 x104 x105 x106 x107 x108 x109 x110 x111 x112 x113 x114 x115 x116 x117 x118 x119 x120 x121 x122 x123 x124 x125 x126 x127 x128 x129 x130 x131 x132 x133 x134 : Value) (q1 : Nat), Hid (q1 = (U * 4294967296 + v1) / (y1 * 4294967296 + y0)) → K { tmps := #[.int .u64 (hi : Int), .int .u64 (lo : Int), .int .u64 (Y : Int), x3, x4, x5, .int .u64 0, .int .u64 0, .int .u64 (s : Int), .int .u64 (y1 : Int), .int .u64 (y0 : Int), .int .u64 (U : Int), .int .u64 (V : Int), .int .u64 (v1 : Int), .int .u64 (v0 : Int), .int .u64 (q1 : Int), x16, x17, x18, x19, x20, x21, x22, x23, x24, x25, x26, x27, x28, x29, x30, x31, x32, x33, x34, x35, x36, x37, x38, x39, x40, x41, x42, x43, x44, x45, x46, x47, x48, x49, x50, x51, x52, x53, x54, x55, x56, x57, x58, x59, x60, x61, x62, x63, x64, x65, x66, x67, x68, x69, x70, x71, x72, x73, x74, x75, x76, x77, x78, x79, x80, x81, x82, x83, x84, x85, x86, x87, x88, x89, x90, x91, x92, x93, x94, x95, x96, x97, x98, x99, x100, x101, x102, x103, x104, x105, x106, x107, x108, x109, x110, x111, x112, x113, x114, x115, x116, x117, x118, x119, x120, x121, x122, x123, x124, x125, x126, x127, x128, x129, x130, x131, x132, x133, x134], defers := [] } w := by
    intro x3 x4 x5 x16 x17 x18 x19 x20 x21 x22 x23 x24 x25 x26 x27 x28 x29 x30 x31 x32 x33 x34 x35 x36 x37 x38 x39 x40 x41 x42 x43 x44 x45 x46 x47 x48 x49 x50 x51 x52 x53 x54 x55 x56 x57 x58 x59 x60 x61 x62 x63 x64 x65 x66 x67 x68 x69 x70 x71 x72 x73 x74 x75 x76 x77 x78 x79 x80 x81 x82 x83 x84 x85 x86 x87 x88 x89 x90 x91 x92 x93 x94 x95 x96 x97 x98 x99 x100 x101 x102 x103 x104 x105 x106 x107 x108 x109 x110 x111 x112 x113 x114 x115 x116 x117 x118 x119 x120 x121 x122 x123 x124 x125 x126 x127 x128 x129 x130 x131 x132 x133 x134 q1 HQ1
    refine hK _ _ ?_
    clear hK HST wq wq' wm wr wY wH wL wV wU w1 w2 w3 w4
    have hU := HU.out
    have eY := HEY.out
    obtain ⟨Z, hZ⟩ : ∃ Z, Z = q1 * Y := ⟨_, rfl⟩
    obtain ⟨U2, hU2⟩ : ∃ U2, U2 = (U * 4294967296 + v1) % Y := ⟨_, rfl⟩
    have hq1 : U * 4294967296 + v1 = Z + U2 := by
      rw [hZ, hU2, HQ1.out, ← eY, Nat.mul_comm _ Y]; exact (Nat.div_add_mod _ _).symm
    have hU3 : U2 < Y := by rw [hU2]; exact Nat.mod_lt _ (by omega)
    have bq1 : q1 < 4294967296 := by
      rw [HQ1.out]; exact (Nat.div_lt_iff_lt_mul (by omega)).2 (by omega)
    obtain ⟨A, hA⟩ : ∃ A, A = U * 4294967296 % 18446744073709551616 := ⟨_, rfl⟩
    obtain ⟨B, hB⟩ : ∃ B, B = (A + v1) % 18446744073709551616 := ⟨_, rfl⟩
    obtain ⟨C, hC⟩ : ∃ C, C = Z % 18446744073709551616 := ⟨_, rfl⟩
    have wa : IntKind.u64.wrap ((U : Int) * 4294967296) = (A : Int) := wrap_at (by omega)
    have wb : IntKind.u64.wrap ((A : Int) + v1) = (B : Int) := wrap_at (by omega)
    have wc : IntKind.u64.wrap ((q1 : Int) * Y) = (C : Int) := by rw [← Int.natCast_mul, ← hZ]; exact wrap_at (by omega)
    have wd : IntKind.u64.wrap ((B : Int) - C) = (U2 : Int) := wrap_at (by omega)
    clear hA hB hC hU2
    have hst := HalfInv.start b1 b2 b3 b5 (show U2 < y1 * 4294967296 + y0 by omega)
    obtain ⟨q, hq⟩ : ∃ q, q = U2 / y1 := ⟨_, rfl⟩
    obtain ⟨r, hr⟩ : ∃ r, r = U2 % y1 := ⟨_, rfl⟩
    rw [← hq, ← hr] at hst
    have hqr := hst.eq
    have hqm := hst.most
    obtain ⟨t, ht⟩ : ∃ t, t = q * y1 := ⟨_, rfl⟩
    rw [← ht] at hqr
    have wq' : IntKind.u64.wrap ((U2 : Int) / y1) = (q : Int) := by
      rw [← Int.natCast_ediv, ← hq]
      exact wrap_at (by omega)
    have wq : IntKind.u64.wrap ((U2 : Int).tdiv y1) = (q : Int) := by
      rw [Int.tdiv_eq_ediv_of_nonneg (by omega)]; exact wq'
    have wm : IntKind.u64.wrap ((q : Int) * y1) = (t : Int) := by
      rw [← Int.natCast_mul, ← ht]
      exact wrap_at (by omega)
    have wr : IntKind.u64.wrap ((U2 : Int) - t) = (r : Int) := wrap_at (by omega)
    have HST := Lib.hid hst
    have HU2 := Lib.hid (show U2 < y1 * 4294967296 + y0 by omega)
    have HZ := Lib.hid hZ; have HQQ := Lib.hid hq1
    clear hqr hqm ht hst hq hr hZ hq1 hU eY hU3 HQ1 HU
    go_wp2
    clear wa wb wc wd wq wq' wm wr
    rename_i K2 hK2
    have key2 : ∀ (z3 z4 z5 z16 z19 z20 z21 z22 z23 z24 z25 z26 z27 z28 z29 z30 z31 z32 z33 z34 z35 z36 z37 z38 z39 z40 z41 z42 z43 z44 z45 z46 z47 z48 z49 z50 z51 z52 z53 z54 z55 z56 z57 z58 z59 z60 z61 z62 z63 z64 z65 z66 z67 z68 z69 z70 z71 z72 z73 z74 z75 z76 z77 z78 z79 z80 z81 z82 z83 z84 z85 z86 z87 z88 z89 z90 z91 z92 z93 z94 z95 z96 z97 z98 z99 z100 z101 z102 z103 z104 z105 z106 z107 z108 z109 z110 z111 z112 z113 z114 z115 z116 z117 z118 z119 z120 z121 z122 z123 z124 z125 z126 z127 z128 z129 z130 z131 z132 z133 z134 : Value) (q0 : Nat), Hid (q0 = (U2 * 4294967296 + v0) / (y1 * 4294967296 + y0)) → K2 { tmps := #[.int .u64 (hi : Int), .int .u64 (lo : Int), .int .u64 (Y : Int), z3, z4, z5, .int .u64 0, .int .u64 0, .int .u64 (s : Int), .int .u64 (y1 : Int), .int .u64 (y0 : Int), .int .u64 (U : Int), .int .u64 (V : Int), .int .u64 (v1 : Int), .int .u64 (v0 : Int), .int .u64 (q1 : Int), z16, .int .u64 (U2 : Int), .int .u64 (q0 : Int), z19, z20, z21, z22, z23, z24, z25, z26, z27, z28, z29, z30, z31, z32, z33, z34, z35, z36, z37, z38, z39, z40, z41, z42, z43, z44, z45, z46, z47, z48, z49, z50, z51, z52, z53, z54, z55, z56, z57, z58, z59, z60, z61, z62, z63, z64, z65, z66, z67, z68, z69, z70, z71, z72, z73, z74, z75, z76, z77, z78, z79, z80, z81, z82, z83, z84, z85, z86, z87, z88, z89, z90, z91, z92, z93, z94, z95, z96, z97, z98, z99, z100, z101, z102, z103, z104, z105, z106, z107, z108, z109, z110, z111, z112, z113, z114, z115, z116, z117, z118, z119, z120, z121, z122, z123, z124, z125, z126, z127, z128, z129, z130, z131, z132, z133, z134], defers := [] } w := by
      intro z3 z4 z5 z16 z19 z20 z21 z22 z23 z24 z25 z26 z27 z28 z29 z30 z31 z32 z33 z34 z35 z36 z37 z38 z39 z40 z41 z42 z43 z44 z45 z46 z47 z48 z49 z50 z51 z52 z53 z54 z55 z56 z57 z58 z59 z60 z61 z62 z63 z64 z65 z66 z67 z68 z69 z70 z71 z72 z73 z74 z75 z76 z77 z78 z79 z80 z81 z82 z83 z84 z85 z86 z87 z88 z89 z90 z91 z92 z93 z94 z95 z96 z97 z98 z99 z100 z101 z102 z103 z104 z105 z106 z107 z108 z109 z110 z111 z112 z113 z114 z115 z116 z117 z118 z119 z120 z121 z122 z123 z124 z125 z126 z127 z128 z129 z130 z131 z132 z133 z134 q0 HQ0
      refine hK2 _ _ ?_
      clear hK2 HST
      have eY := HEY.out
      have hU := HU2.out
      have hy1 := HY1.out
      obtain ⟨Z0, hZ0⟩ : ∃ Z0, Z0 = q0 * Y := ⟨_, rfl⟩
      obtain ⟨R, hR⟩ : ∃ R, R = (U2 * 4294967296 + v0) % Y := ⟨_, rfl⟩
      have hq0 : U2 * 4294967296 + v0 = Z0 + R := by
        rw [hZ0, hR, HQ0.out, ← eY, Nat.mul_comm _ Y]; exact (Nat.div_add_mod _ _).symm
      have hRY : R < Y := by rw [hR]; exact Nat.mod_lt _ (by omega)
      have bq0 : q0 < 4294967296 := by
        rw [HQ0.out]; exact (Nat.div_lt_iff_lt_mul (by omega)).2 (by omega)
      obtain ⟨A, hA⟩ : ∃ A, A = U2 * 4294967296 % 18446744073709551616 := ⟨_, rfl⟩
      obtain ⟨B, hB⟩ : ∃ B, B = (A + v0) % 18446744073709551616 := ⟨_, rfl⟩
      obtain ⟨C, hC⟩ : ∃ C, C = Z0 % 18446744073709551616 := ⟨_, rfl⟩
      have wa : IntKind.u64.wrap ((U2 : Int) * 4294967296) = (A : Int) := wrap_at (by omega)
      have wb : IntKind.u64.wrap ((A : Int) + v0) = (B : Int) := wrap_at (by omega)
      have wc : IntKind.u64.wrap ((q0 : Int) * Y) = (C : Int) := by rw [← Int.natCast_mul, ← hZ0]; exact wrap_at (by omega)
      have wd : IntKind.u64.wrap ((B : Int) - C) = (R : Int) := wrap_at (by omega)
      obtain ⟨G, hG⟩ : ∃ G, G = q1 * 4294967296 := ⟨_, rfl⟩
      obtain ⟨Qt, hQt⟩ : ∃ Qt, Qt = q1 * 4294967296 + q0 := ⟨_, rfl⟩
      have wg : IntKind.u64.wrap ((q1 : Int) * 4294967296) = (G : Int) := wrap_at (by omega)
      have wg2 : IntKind.u64.wrap ((G : Int) + q0) = (Qt : Int) := wrap_at (by omega)
      have wR : (R : Int) / 2 ^ s = ((R / 2 ^ s : Nat) : Int) := by rw [Int.natCast_ediv, Int.natCast_pow]; rfl
      obtain ⟨e1, e2⟩ := div64_end HY.out HN.out HEV.out (by rw [HQQ.out, HZ.out]) (by rw [hq0, hZ0]) hRY
      rw [← hQt] at e1
      rw [← e1, ← e2]
      generalize R / 2 ^ s = rr at *
      clear hA hB hC hZ0 hR hq0 hRY bq0 hG hQt e1 e2 hy1 hU eY HQ0 HU2 HY1 HZ HQQ bq1 b1 b2 b3 b4 b5 hY2 hV2 hy
      go_wp2
      exact bodyPost_ret (v := .tuple #[.int .u64 (Qt : Int), .int .u64 (rr : Int)]) (by simp [results, Tryz.results79, go_sem]) rfl ⟨rfl, Below.refl _ _⟩
    clear hK2
    have KEY2 := Lib.hid key2
    clear key2 hY2 hV2 hy n1 d0 d1 d2 hlt
    go_loopw [18, 16] (fun i c wr => ∃ q' r' : Nat, i = .int .u64 (q' : Int) ∧ c = .int .u64 (r' : Int) ∧ wr = w ∧ Hid (HalfInv U2 y1 y0 v0 q' r')) (fun i _ _ => (intOf i).toNat)
    case atStart => exact ⟨_, _, rfl, rfl, rfl, HST⟩
    case round =>
      obtain ⟨q', r', rfl, rfl, rfl, HI⟩ := hrel
      have hr2 := HI.out.rest
      have hm2 := HI.out.most
      by_cases hq2 : q' < 4294967296
      · obtain ⟨t', ht'⟩ : ∃ t', t' = q' * y0 := ⟨_, rfl⟩
        have htb : t' < 18446744073709551616 := by
          have h1 : q' * y0 ≤ 4294967296 * y0 := Nat.mul_le_mul_right _ (by omega)
          omega
        have wt : IntKind.u64.wrap ((q' : Int) * y0) = (t' : Int) := by
          rw [← Int.natCast_mul, ← ht']; exact wrap_at (by omega)
        obtain ⟨z, hz⟩ : ∃ z, z = 4294967296 * r' := ⟨_, rfl⟩
        obtain ⟨z2, hz2⟩ : ∃ z2, z2 = z + v0 := ⟨_, rfl⟩
        have wz : IntKind.u64.wrap (4294967296 * (r' : Int)) = (z : Int) := wrap_at (by omega)
        have wz2 : IntKind.u64.wrap ((z : Int) + v0) = (z2 : Int) := wrap_at (by omega)
        have HT := Lib.hid ht'; have HZ3 := Lib.hid hz; have HZ4 := Lib.hid hz2
        have n2 : ¬ 4294967296 ≤ q' := by omega
        have n3 : ¬ (4294967296 : Int) ≤ q' := by omega
        clear ht' hm2 hz hz2
        by_cases hc : t' ≤ z2
        · have hc' : ¬ ((z2 : Int) < t') := by omega
          have HE := Lib.hid (HI.out.done (by have := HT.out; have := HZ3.out; have := HZ4.out; omega))
          clear HI HT HZ3 HZ4 htb
          go_wp2
          exact KEY2.out _ _ _ _ _ _ _ _ _ _ _ _ _ _ _ _ _ _ _ _ _ _ _ _ _ _ _ _ _ _ _ _ _ _ _ _ _ _ _ _ _ _ _ _ _ _ _ _ _ _ _ _ _ _ _ _ _ _ _ _ _ _ _ _ _ _ _ _ _ _ _ _ _ _ _ _ _ _ _ _ _ _ _ _ _ _ _ _ _ _ _ _ _ _ _ _ _ _ _ _ _ _ _ _ _ _ _ _ _ _ _ _ _ _ _ _ _ _ _ _ _ HE
        · have hc' : (z2 : Int) < t' := by omega
          have HCC := Lib.hid (show 4294967296 ≤ q' ∨ r' * 4294967296 + v0 < q' * y0 by right; have := HT.out; have := HZ3.out; have := HZ4.out; omega)
          clear htb
          have hp := HI.out.pos b3 HCC.out
          by_cases hs2 : r' + y1 < 4294967296
          · have HN2 := Lib.hid (HI.out.step b3 b5 HU2.out HCC.out hs2)
            have n4 : ¬ 4294967296 ≤ r' + y1 := by omega
            have n5 : ¬ (4294967296 : Int) ≤ r' + y1 := by omega
            clear HI HCC
            go_wp2
            go_roundw
            case rel => exact ⟨q' - 1, r' + y1, by go_num, by go_num, by simp, HN2⟩
            case measure => simp [intOf]; omega
          · have HE := Lib.hid (HI.out.last b3 b5 HU2.out HCC.out (by omega))
            have n4 : 4294967296 ≤ r' + y1 := by omega
            have n5 : (4294967296 : Int) ≤ r' + y1 := by omega
            clear HI HCC
            obtain ⟨q5, hq5⟩ : ∃ q5, q5 = q' - 1 := ⟨_, rfl⟩
            rw [← hq5] at HE
            have hd2 : ((q' : Int) - 1) = (q5 : Int) := by omega
            have hd3 : IntKind.u64.wrap ((q' : Int) - 1) = (q5 : Int) := wrap_at (by omega)
            clear hq5
            go_wp2
            exact KEY2.out _ _ _ _ _ _ _ _ _ _ _ _ _ _ _ _ _ _ _ _ _ _ _ _ _ _ _ _ _ _ _ _ _ _ _ _ _ _ _ _ _ _ _ _ _ _ _ _ _ _ _ _ _ _ _ _ _ _ _ _ _ _ _ _ _ _ _ _ _ _ _ _ _ _ _ _ _ _ _ _ _ _ _ _ _ _ _ _ _ _ _ _ _ _ _ _ _ _ _ _ _ _ _ _ _ _ _ _ _ _ _ _ _ _ _ _ _ _ _ _ _ HE
      · have hq3 : 4294967296 ≤ q' := by omega
        have hq4 : (4294967296 : Int) ≤ q' := by omega
        have HCC := Lib.hid (show 4294967296 ≤ q' ∨ r' * 4294967296 + v0 < q' * y0 by left; omega)
        have hp := HI.out.pos b3 HCC.out
        by_cases hs2 : r' + y1 < 4294967296
        · have HN2 := Lib.hid (HI.out.step b3 b5 HU2.out HCC.out hs2)
          have n4 : ¬ 4294967296 ≤ r' + y1 := by omega
          have n5 : ¬ (4294967296 : Int) ≤ r' + y1 := by omega
          clear HI HCC
          go_wp2
          go_roundw
          case rel => exact ⟨q' - 1, r' + y1, by go_num, by go_num, by simp, HN2⟩
          case measure => simp [intOf]; omega
        · have HE := Lib.hid (HI.out.last b3 b5 HU2.out HCC.out (by omega))
          have n4 : 4294967296 ≤ r' + y1 := by omega
          have n5 : (4294967296 : Int) ≤ r' + y1 := by omega
          clear HI HCC
          obtain ⟨q5, hq5⟩ : ∃ q5, q5 = q' - 1 := ⟨_, rfl⟩
          rw [← hq5] at HE
          have hd2 : ((q' : Int) - 1) = (q5 : Int) := by omega
          have hd3 : IntKind.u64.wrap ((q' : Int) - 1) = (q5 : Int) := wrap_at (by omega)
          clear hq5
          go_wp2
          exact KEY2.out _ _ _ _ _ _ _ _ _ _ _ _ _ _ _ _ _ _ _ _ _ _ _ _ _ _ _ _ _ _ _ _ _ _ _ _ _ _ _ _ _ _ _ _ _ _ _ _ _ _ _ _ _ _ _ _ _ _ _ _ _ _ _ _ _ _ _ _ _ _ _ _ _ _ _ _ _ _ _ _ _ _ _ _ _ _ _ _ _ _ _ _ _ _ _ _ _ _ _ _ _ _ _ _ _ _ _ _ _ _ _ _ _ _ _ _ _ _ _ _ _ HE

  clear hK
  have HU2 := HU
  have KEY := Lib.hid key
  clear key wq wq' wm wr wY wH wL wV wU w1 w2 w3 w4 hY2 hV2 hy n1 d0 d1 d2 hlt
  go_loopw [15, 16] (fun i c wr => ∃ q' r' : Nat, i = .int .u64 (q' : Int) ∧ c = .int .u64 (r' : Int) ∧ wr = w ∧ Hid (HalfInv U y1 y0 v1 q' r')) (fun i _ _ => (intOf i).toNat)
  case atStart => exact ⟨_, _, rfl, rfl, rfl, HST⟩
  case round =>
    obtain ⟨q', r', rfl, rfl, rfl, HI⟩ := hrel
    have hr2 := HI.out.rest
    have hm2 := HI.out.most
    by_cases hq2 : q' < 4294967296
    · obtain ⟨t', ht'⟩ : ∃ t', t' = q' * y0 := ⟨_, rfl⟩
      have htb : t' < 18446744073709551616 := by
        have h1 : q' * y0 ≤ 4294967296 * y0 := Nat.mul_le_mul_right _ (by omega)
        omega
      have wt : IntKind.u64.wrap ((q' : Int) * y0) = (t' : Int) := by
        rw [← Int.natCast_mul, ← ht']; exact wrap_at (by omega)
      obtain ⟨z, hz⟩ : ∃ z, z = 4294967296 * r' := ⟨_, rfl⟩
      obtain ⟨z2, hz2⟩ : ∃ z2, z2 = z + v1 := ⟨_, rfl⟩
      have wz : IntKind.u64.wrap (4294967296 * (r' : Int)) = (z : Int) := wrap_at (by omega)
      have wz2 : IntKind.u64.wrap ((z : Int) + v1) = (z2 : Int) := wrap_at (by omega)
      have HT := Lib.hid ht'; have HZ3 := Lib.hid hz; have HZ4 := Lib.hid hz2
      have n2 : ¬ 4294967296 ≤ q' := by omega
      have n3 : ¬ (4294967296 : Int) ≤ q' := by omega
      clear ht' hm2 hz hz2
      by_cases hc : t' ≤ z2
      · have hc' : ¬ ((z2 : Int) < t') := by omega
        have HE := Lib.hid (HI.out.done (by have := HT.out; have := HZ3.out; have := HZ4.out; omega))
        clear HI HT HZ3 HZ4 htb
        go_wp2
        exact KEY.out _ _ _ _ _ _ _ _ _ _ _ _ _ _ _ _ _ _ _ _ _ _ _ _ _ _ _ _ _ _ _ _ _ _ _ _ _ _ _ _ _ _ _ _ _ _ _ _ _ _ _ _ _ _ _ _ _ _ _ _ _ _ _ _ _ _ _ _ _ _ _ _ _ _ _ _ _ _ _ _ _ _ _ _ _ _ _ _ _ _ _ _ _ _ _ _ _ _ _ _ _ _ _ _ _ _ _ _ _ _ _ _ _ _ _ _ _ _ _ _ _ _ _ HE
      · have hc' : (z2 : Int) < t' := by omega
        have HCC := Lib.hid (show 4294967296 ≤ q' ∨ r' * 4294967296 + v1 < q' * y0 by right; have := HT.out; have := HZ3.out; have := HZ4.out; omega)
        clear htb
        have hp := HI.out.pos b3 HCC.out
        by_cases hs2 : r' + y1 < 4294967296
        · have HN2 := Lib.hid (HI.out.step b3 b4 HU2.out HCC.out hs2)
          have n4 : ¬ 4294967296 ≤ r' + y1 := by omega
          have n5 : ¬ (4294967296 : Int) ≤ r' + y1 := by omega
          clear HI HCC
          go_wp2
          go_roundw
          case rel => exact ⟨q' - 1, r' + y1, by go_num, by go_num, by simp, HN2⟩
          case measure => simp [intOf]; omega
        · have HE := Lib.hid (HI.out.last b3 b4 HU2.out HCC.out (by omega))
          have n4 : 4294967296 ≤ r' + y1 := by omega
          have n5 : (4294967296 : Int) ≤ r' + y1 := by omega
          clear HI HCC
          obtain ⟨q5, hq5⟩ : ∃ q5, q5 = q' - 1 := ⟨_, rfl⟩
          rw [← hq5] at HE
          have hd2 : ((q' : Int) - 1) = (q5 : Int) := by omega
          have hd3 : IntKind.u64.wrap ((q' : Int) - 1) = (q5 : Int) := wrap_at (by omega)
          clear hq5
          go_wp2
          exact KEY.out _ _ _ _ _ _ _ _ _ _ _ _ _ _ _ _ _ _ _ _ _ _ _ _ _ _ _ _ _ _ _ _ _ _ _ _ _ _ _ _ _ _ _ _ _ _ _ _ _ _ _ _ _ _ _ _ _ _ _ _ _ _ _ _ _ _ _ _ _ _ _ _ _ _ _ _ _ _ _ _ _ _ _ _ _ _ _ _ _ _ _ _ _ _ _ _ _ _ _ _ _ _ _ _ _ _ _ _ _ _ _ _ _ _ _ _ _ _ _ _ _ _ _ HE
    · have hq3 : 4294967296 ≤ q' := by omega
      have hq4 : (4294967296 : Int) ≤ q' := by omega
      have HCC := Lib.hid (show 4294967296 ≤ q' ∨ r' * 4294967296 + v1 < q' * y0 by left; omega)
      have hp := HI.out.pos b3 HCC.out
      by_cases hs2 : r' + y1 < 4294967296
      · have HN2 := Lib.hid (HI.out.step b3 b4 HU2.out HCC.out hs2)
        have n4 : ¬ 4294967296 ≤ r' + y1 := by omega
        have n5 : ¬ (4294967296 : Int) ≤ r' + y1 := by omega
        clear HI HCC
        go_wp2
        go_roundw
        case rel => exact ⟨q' - 1, r' + y1, by go_num, by go_num, by simp, HN2⟩
        case measure => simp [intOf]; omega
      · have HE := Lib.hid (HI.out.last b3 b4 HU2.out HCC.out (by omega))
        have n4 : 4294967296 ≤ r' + y1 := by omega
        have n5 : (4294967296 : Int) ≤ r' + y1 := by omega
        clear HI HCC
        obtain ⟨q5, hq5⟩ : ∃ q5, q5 = q' - 1 := ⟨_, rfl⟩
        rw [← hq5] at HE
        have hd2 : ((q' : Int) - 1) = (q5 : Int) := by omega
        have hd3 : IntKind.u64.wrap ((q' : Int) - 1) = (q5 : Int) := wrap_at (by omega)
        clear hq5
        go_wp2
        exact KEY.out _ _ _ _ _ _ _ _ _ _ _ _ _ _ _ _ _ _ _ _ _ _ _ _ _ _ _ _ _ _ _ _ _ _ _ _ _ _ _ _ _ _ _ _ _ _ _ _ _ _ _ _ _ _ _ _ _ _ _ _ _ _ _ _ _ _ _ _ _ _ _ _ _ _ _ _ _ _ _ _ _ _ _ _ _ _ _ _ _ _ _ _ _ _ _ _ _ _ _ _ _ _ _ _ _ _ _ _ _ _ _ _ _ _ _ _ _ _ _ _ _ _ _ HE

theorem div64_any (hi lo y : Nat) (hlt : hi < y) (hy : y < 2 ^ 64) (hlo : lo < 2 ^ 64) (w : World) :
    Calls Tryz.prog 79 #[.int .u64 (hi : Int), .int .u64 (lo : Int), .int .u64 (y : Int)] w (RetQ w ((hi * 2 ^ 64 + lo) / y) ((hi * 2 ^ 64 + lo) % y)) := by
  rcases Nat.eq_zero_or_pos hi with h | h
  · subst h
    rw [Nat.zero_mul, Nat.zero_add]
    exact div64_zero lo y hlo hlt w
  · exact div64_pos hi lo y h hlt hy hlo w
end Go.Proofs.YtfjjmhbffbhhdaaGreatDoor
