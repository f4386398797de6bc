/- The first bytes of an argument; the program's number of a document's. -/
import Derived.Test.YtfjjmhbffbhhdaaDoorFill
import Derived.Test.YtfjjmhbffbhhdaaDoorSum
import Derived.OwnWalk
import Derived.Laws.AppendOwnNone
import Derived.Test.YtfjjmhbffbhhdaaDoorMove
import Derived.Test.YtfjjmhbffbhhdaaDoorArith
import Derived.Deep.RegionWith
import Derived.Deep.RegionHeld3
import Derived.Test.YtfjjmhbffbhhdaaDoorShiftS
namespace Go.Proofs.YtfjjmhbffbhhdaaDoor
open Go.RowKit

theorem bitLen_dr (n : Nat) : bitLen n ≤ 32 * (dr n).length := by
  apply bitLen_lt_pow.1
  rw [Nat.pow_mul]
  exact lt_pow_digs (by omega) n
theorem nb_be (n : Nat) : nb (be n) = n := by unfold nb be; rw [List.reverse_reverse]; exact val_digs (by omega) n
theorem be_lt (n : Nat) : ∀ x ∈ be n, x < 256 := fun x hx => digs_lt (by omega) n x (List.mem_reverse.1 hx)

set_option maxHeartbeats 1000000 in
theorem hNat_any (n : Nat) (p : Option Addr) (l c : Nat) (w : World) (h : IsR w p l c n) (hl : (dr n).length ≤ 200000) :
    Calls Tryd.prog 48 #[.slice p l c] w (RetN w n) := by
  have H := Lib.hid h
  have hbl : (be n).length ≤ 1000000 := by have := bitLen_dr n; rw [be_length]; omega
  have hll : l ≤ 1000000 := by have := h.1; omega
  clear h
  go_enter Tryd.func48, Tryd.ntmps48
  go_wp2_with fail
  refine (rbytes_any n p l c _ (H.out.mono (below_alloc (Below.refl _ _) _)) hll).mono ?_
  rintro e w1 ⟨g, og, cg, rfl, x1, x2, x3, x4, hb⟩
  obtain ⟨hc, hf⟩ := bcell hb
  have X3 := Lib.hid x3
  clear x3 x4
  go_wp2_with fail
  refine (fromBytes_any g og cg _ (be n) w1 rfl hbl X3.out (be_lt n)).mono ?_
  rintro e w2 ⟨s, q, k, d, rfl, h2, hb2⟩
  rw [nb_be] at h2
  have H2 := Lib.hid h2; clear h2
  replace hb2 := below_step hb hb2
  obtain ⟨hc2, hf2⟩ := bcell hb2
  have HB : Below w.heap.size w w2 := (by repeat' first | exact Below.refl _ _ | refine below_alloc ?_ _ | refine below_step ?_ (by assumption))
  go_wp2
  have r1 : w2.cell? ⟨w.heap.size, 1, none⟩ = some (.slice none 0 0) := by simp [hc2, go_sem]
  refine bodyPost_ret (v := .agg #[.int .u64 s, .slice q k d]) (by simp [results, Tryd.results48, go_sem, hc2]) rfl ⟨s, q, k, d, rfl, H2.out.box r1, ?_⟩
  exact (HB.setCell (by simp) _).setCell (by simp) _
end Go.Proofs.YtfjjmhbffbhhdaaDoor

/- The program's operations on numbers, in the words of an open statement; how long their results are; boxes. -/
namespace Go.Proofs.YtfjjmhbffbhhdaaDoor
open Go.RowKit

theorem ds_add (m n : Nat) : (ds (m + n)).length ≤ (ds m).length + (ds n).length := by
  have h1 := lt_ds m
  have h2 := lt_ds n
  have p1 := ds_pos m; have p2 := ds_pos n
  refine ds_le (by omega) ?_
  rw [Nat.pow_add]
  generalize (ds m).length = i at *
  generalize (ds n).length = j at *
  have e1 : 2 ≤ (2 ^ 64) ^ i := Nat.le_trans (show 2 ≤ (2 ^ 64) ^ 1 by omega) (Nat.pow_le_pow_right (by omega) p1)
  have e2 : 2 ≤ (2 ^ 64) ^ j := Nat.le_trans (show 2 ≤ (2 ^ 64) ^ 1 by omega) (Nat.pow_le_pow_right (by omega) p2)
  generalize (2 ^ 64) ^ i = P at *
  generalize (2 ^ 64) ^ j = Q at *
  have : P + Q ≤ P * Q := by
    obtain ⟨a, rfl⟩ := Nat.exists_eq_add_of_le e1
    obtain ⟨b, rfl⟩ := Nat.exists_eq_add_of_le e2
    grind
  omega
theorem ds_mul (m n : Nat) : (ds (m * n)).length ≤ (ds m).length + (ds n).length := by
  have h1 := lt_ds m
  have h2 := lt_ds n
  have p1 := ds_pos m
  refine ds_le (by omega) ?_
  rw [Nat.pow_add]
  exact Nat.mul_lt_mul'' h1 h2

theorem IsR.box {w : World} {p q : Option Addr} {l c k d n g : Nat} {x : Int} {u v : Value} (h : IsR w p l c n) (h0 : w.cell? ⟨g, 0, none⟩ = some (.int .u64 x)) (h1 : w.cell? ⟨g, 1, none⟩ = some (.slice q k d)) :
    IsR ((w.setCell ⟨g, 0, none⟩ u).setCell ⟨g, 1, none⟩ v) p l c n := by
  obtain ⟨a1, a2, a3⟩ := h
  refine ⟨a1, a2, fun hn => ?_⟩
  obtain ⟨b, off, a4, a5⟩ := a3 hn
  refine ⟨b, off, a4, fun i hi => ?_⟩
  have h2 := a5 i hi
  have e0 : (⟨g, 0, none⟩ : Addr) ≠ ⟨b, off + i, none⟩ := by intro e; rw [← e, h0] at h2; cases h2
  have e1 : (⟨g, 1, none⟩ : Addr) ≠ ⟨b, off + i, none⟩ := by intro e; rw [← e, h1] at h2; cases h2
  rw [World.cell?_setCell_other _ _ _ _ e1, World.cell?_setCell_other _ _ _ _ e0]
  exact h2
theorem nb_lt (bs : List Nat) (k : Nat) (hb : ∀ x ∈ bs, x < 256) (hk : bs.length ≤ k) : nb bs < 256 ^ k := by
  have h1 := val_lt 256 bs.reverse (fun x hx => hb x (List.mem_reverse.1 hx))
  rw [List.length_reverse] at h1
  exact Nat.lt_of_lt_of_le h1 (Nat.pow_le_pow_right (by omega) hk)
theorem dr_nb (bs : List Nat) (hb : ∀ x ∈ bs, x < 256) (hk : bs.length ≤ 240) : (dr (nb bs)).length ≤ 60 := by
  refine digs_length_le (by omega) ?_
  have h1 := nb_lt bs (4 * 60) hb (by omega)
  rw [Nat.pow_mul] at h1
  exact h1
theorem ds_nb (bs : List Nat) (hb : ∀ x ∈ bs, x < 256) : (ds (nb (bs.take 48))).length ≤ 6 := by
  refine ds_le (by omega) ?_
  have h1 := nb_lt (bs.take 48) 48 (fun x hx => hb x (List.mem_of_mem_take hx)) (by rw [List.length_take]; omega)
  rw [show (48 : Nat) = 8 * 6 from rfl, Nat.pow_mul] at h1
  exact h1

theorem bx_other {W : World} {x b o : Nat} {u v y : Value} (h : W.cell? ⟨x, o, none⟩ = some y) (hx : x ≠ b) : ((W.setCell ⟨b, 0, none⟩ u).setCell ⟨b, 1, none⟩ v).cell? ⟨x, o, none⟩ = some y := by
  rw [World.cell?_setCell_other _ _ _ _ (by intro e; injection e with e; exact hx e.symm), World.cell?_setCell_other _ _ _ _ (by intro e; injection e with e; exact hx e.symm)]; exact h
theorem bx_zero {W : World} {b : Nat} {u v y : Value} (h : W.cell? ⟨b, 0, none⟩ = some y) : ((W.setCell ⟨b, 0, none⟩ u).setCell ⟨b, 1, none⟩ v).cell? ⟨b, 0, none⟩ = some u := by
  simp [go_sem, h]
theorem bx_one {W : World} {b : Nat} {u v z : Value} (h1 : W.cell? ⟨b, 1, none⟩ = some z) : ((W.setCell ⟨b, 0, none⟩ u).setCell ⟨b, 1, none⟩ v).cell? ⟨b, 1, none⟩ = some v := by
  simp [go_sem, h1]

theorem add_want (w : World) (u v : Value) (m n : Nat) (hm : (ds m).length ≤ 60) (hn : (ds n).length ≤ 60) (h1 : Num w u m) (h2 : Num w v n) :
    Calls Tryd.prog 27 #[u, v] w fun e w' => ∃ v', e = .returned v' ∧ Num w' v' (m + n) ∧ Below w.heap.size w w' := by
  obtain ⟨s, p, l, c, rfl, h1⟩ := h1
  obtain ⟨t, q, k, d, rfl, h2⟩ := h2
  exact (add_any s t p q l c k d m n w (by omega) (by omega) h1 h2).mono fun _ _ h => h.want
theorem mul_want (w : World) (u v : Value) (m n : Nat) (hm : (ds m).length ≤ 60) (hn : (ds n).length ≤ 60) (h1 : Num w u m) (h2 : Num w v n) :
    Calls Tryd.prog 26 #[u, v] w fun e w' => ∃ v', e = .returned v' ∧ Num w' v' (m * n) ∧ Below w.heap.size w w' := by
  obtain ⟨s, p, l, c, rfl, h1⟩ := h1
  obtain ⟨t, q, k, d, rfl, h2⟩ := h2
  exact (mul_any s t p q l c k d m n w (by omega) (by omega) (Or.inl (by omega)) h1 h2).mono fun _ _ h => h.want
theorem cmp_want (w : World) (u v : Value) (m n : Nat) (hm : (ds m).length ≤ 60) (h1 : Num w u m) (h2 : Num w v n) :
    Calls Tryd.prog 15 #[u, v] w fun e w' => ∃ v', e = .returned v' ∧ v' = .int .i64 (cmp3 m n) ∧ Below w.heap.size w w' := by
  obtain ⟨s, p, l, c, rfl, h1⟩ := h1
  obtain ⟨t, q, k, d, rfl, h2⟩ := h2
  exact (cmp_any _ _ _ _ _ _ _ _ m n w h1 h2 (by omega)).mono fun _ _ ⟨h, hb⟩ => ⟨_, h, rfl, hb⟩
end Go.Proofs.YtfjjmhbffbhhdaaDoor

/- The program's integers: what a value says; the smallest calls. -/
namespace Go.Proofs.YtfjjmhbffbhhdaaDoor
open Go.RowKit

def RetI (W : World) (z : Int) : Ending → World → Prop := fun e w' =>
  ∃ g s p l c, e = .returned (.agg #[.bool g, .int .u64 s, .slice p l c]) ∧ IsI w' g s p l c z ∧ Below W.heap.size W w'
theorem RetI.want {W w' : World} {z : Int} {e : Ending} (h : RetI W z e w') : ∃ v, e = .returned v ∧ INum w' v z ∧ Below W.heap.size W w' := by
  obtain ⟨g, s, p, l, c, rfl, h1, h2⟩ := h
  exact ⟨_, rfl, ⟨g, s, p, l, c, rfl, h1⟩, h2⟩

def Box (w : World) (a : Nat) (g : Bool) (s : Int) (p : Option Addr) (l c : Nat) : Prop := w.cell? ⟨a, 0, none⟩ = some (.bool g) ∧ w.cell? ⟨a, 1, none⟩ = some (.int .u64 s) ∧ w.cell? ⟨a, 2, none⟩ = some (.slice p l c)
end Go.Proofs.YtfjjmhbffbhhdaaDoor

/- Fractions in lowest terms, by Lean's own: sizes, sums, products and the order by their parts. -/
namespace Go.Proofs.YtfjjmhbffbhhdaaDoor
open Go.RowKit

theorem bl_mono {m n : Nat} (h : m ≤ n) : bitLen m ≤ bitLen n := bitLen_lt_pow.1 (Nat.lt_of_le_of_lt h (bitLen_lt_pow.2 (Nat.le_refl _)))
theorem bl_mul {m n j k : Nat} (hm : bitLen m ≤ j) (hn : bitLen n ≤ k) : bitLen (m * n) ≤ j + k := by
  rw [← bitLen_lt_pow] at hm hn ⊢
  rw [Nat.pow_add]; exact Nat.mul_lt_mul'' hm hn
theorem bl_add {m n j k : Nat} (hm : bitLen m ≤ j) (hn : bitLen n ≤ k) : bitLen (m + n) ≤ max j k + 1 := by
  have h1 : bitLen m ≤ max j k := by omega
  have h2 : bitLen n ≤ max j k := by omega
  rw [← bitLen_lt_pow] at h1 h2 ⊢
  rw [Nat.pow_succ]; omega
theorem bl_div {m n j : Nat} (hm : bitLen m ≤ j) : bitLen (m / n) ≤ j := Nat.le_trans (bl_mono (Nat.div_le_self m n)) hm
theorem ds_bl {n k : Nat} (hk : 0 < k) (h : bitLen n ≤ 64 * k) : (ds n).length ≤ k := by
  rw [← bitLen_lt_pow, Nat.pow_mul] at h
  exact ds_le hk h
def QB (x : Rat) (k : Nat) : Prop := bitLen x.num.natAbs ≤ k ∧ bitLen x.den ≤ k
theorem QB.mono {x : Rat} {j k : Nat} (h : QB x j) (hk : j ≤ k) : QB x k := ⟨Nat.le_trans h.1 hk, Nat.le_trans h.2 hk⟩
theorem QB.pos {x : Rat} {k : Nat} (h : QB x k) : 1 ≤ k := by
  have h1 : bitLen 1 ≤ bitLen x.den := bl_mono x.den_pos
  have h2 : bitLen 1 = 1 := by decide
  have := h.2
  omega
theorem QB.neg {x : Rat} {k : Nat} (h : QB x k) : QB (-x) k := by
  refine ⟨?_, h.2⟩
  rw [Rat.neg_num, Int.natAbs_neg]; exact h.1
theorem mkRat_bits {n : Int} {d k : Nat} (h1 : bitLen n.natAbs ≤ k) (h2 : bitLen d ≤ k) (hk : 1 ≤ k) : QB (mkRat n d) k := by
  refine ⟨?_, ?_⟩
  · rw [Rat.num_mkRat]
    split
    · simp [bitLen]
    · refine Nat.le_trans (bl_mono ?_) h1
      rw [Int.natAbs_ediv_of_dvd (Int.ofNat_dvd_left.2 (Nat.gcd_dvd_right _ _)), Int.natAbs_natCast]
      exact Nat.div_le_self _ _
  · rw [Rat.den_mkRat]
    split
    · have h2 : bitLen 1 = 1 := by decide
      omega
    · exact bl_div h2
theorem QB.add {x y : Rat} {j k : Nat} (h1 : QB x j) (h2 : QB y k) : QB (x + y) (j + k + 1) := by
  rw [Rat.add_def']
  refine mkRat_bits ?_ (Nat.le_trans (bl_mul h1.2 h2.2) (by omega)) (by omega)
  refine Nat.le_trans (bl_mono (Int.natAbs_add_le _ _)) ?_
  rw [Int.natAbs_mul, Int.natAbs_mul, Int.natAbs_natCast, Int.natAbs_natCast]
  refine Nat.le_trans (bl_add (bl_mul h1.1 h2.2) (bl_mul h2.1 h1.2)) (by omega)
theorem QB.sub {x y : Rat} {j k : Nat} (h1 : QB x j) (h2 : QB y k) : QB (x - y) (j + k + 1) := by
  rw [Rat.sub_eq_add_neg]; exact h1.add h2.neg
end Go.Proofs.YtfjjmhbffbhhdaaDoor
