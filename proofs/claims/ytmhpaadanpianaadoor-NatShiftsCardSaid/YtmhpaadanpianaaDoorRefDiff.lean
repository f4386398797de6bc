/- The document's differences. -/
import Derived.Test.YtmhpaadanpianaaDoorRefSum
import Derived.Test.YtmhpaadanpianaaDoorCmp
namespace Go.Proofs.YtmhpaadanpianaaDoor
open Go.RowKit

/-- After k digits of a difference. -/
structure RDiff (b : Nat) (xs ys zs : List Nat) (k c : Nat) : Prop where
  lt : ∀ x ∈ zs, x < b
  one : c ≤ 1
  sum : val b (zs.take k) + val b (ys.take k) = val b (xs.take k) + b ^ k * c

theorem RDiff.start {b : Nat} (hb : 0 < b) (xs ys : List Nat) (n : Nat) : RDiff b xs ys (List.replicate n 0) 0 0 :=
  ⟨fun x hx => by rw [List.eq_of_mem_replicate hx]; exact hb, by omega, by simp [val]⟩

theorem RDiff.step {b : Nat} {xs ys zs : List Nat} {k c s d : Nat} (h : RDiff b xs ys zs k c) (hk : k < zs.length) (hs : s < b) (hd : d ≤ 1)
    (e : s + ys.getD k 0 + c = xs.getD k 0 + b * d) : RDiff b xs ys (zs.set k s) (k + 1) d := by
  refine ⟨set_all_lt h.lt hs, hd, ?_⟩
  rw [val_take_succ', take_set_self, getD_set_self _ _ _ hk, val_take_succ', val_take_succ']
  have h4 := h.sum
  rw [Nat.pow_succ]
  generalize b ^ k = P at *
  generalize xs.getD k 0 = x at *
  generalize ys.getD k 0 = y at *
  have e2 : P * (s + y + c) = P * (x + b * d) := by rw [e]
  grind

theorem RDiff.done {b : Nat} {xs ys zs : List Nat} {k c : Nat} (h : RDiff b xs ys zs k c) (hz : zs.length = k) (hx : xs.length = k) (hy : ys.length ≤ k) (hle : val b ys ≤ val b xs) :
    val b zs = val b xs - val b ys := by
  have h1 := h.sum
  rw [List.take_of_length_le (by omega), List.take_of_length_le (by omega), List.take_of_length_le (by omega)] at h1
  have h2 := val_lt b zs h.lt
  rw [hz] at h2
  have h5 : c = 0 := by
    rcases Nat.eq_zero_or_pos c with h | h
    · exact h
    · have : b ^ k * 1 ≤ b ^ k * c := Nat.mul_le_mul_left _ h
      omega
  subst h5
  omega

theorem Only.drewN {w w' : World} {b off n : Nat} (h : Only w w' b off n) : ∀ k, Only w (w'.drewN k) b off n
  | 0 => h
  | k + 1 => (Only.drewN h k).drew
theorem At.drewN {w : World} {k : IntKind} {b off : Nat} {xs : List Nat} (h : At w k b off xs) (n : Nat) : At (w.drewN n) k b off xs := h.mono (below_drewN (Below.refl _ _) n)

set_option maxHeartbeats 1000000 in
/-- The document's difference of two numbers. -/
theorem rSub_any (p q : Option Addr) (l c k d m n : Nat) (w : World) (hl : l ≤ 100000) (hle : n ≤ m) (h1 : IsR w p l c m) (h2 : IsR w q k d n) :
    Calls Tryd.prog 32 #[.slice p l c, .slice q k d] w (RetR w (m - n)) := by
  have H1 := Lib.hid h1; have H2 := Lib.hid h2
  have e1 := Lib.hid h1.1; have e2 := Lib.hid h2.1
  have HLE := Lib.hid hle
  have hmk := make_rn l (by omega)
  clear h1 h2 hle
  go_enter Tryd.func32, Tryd.ntmps32
  go_wp2_with fail
  have A3 := At.made w .u32 l 100
  have F3 := Fr.made w .u32 l l 100
  have B3 : Below w.heap.size w (w.alloc (.cells (madeCells #[.int .u32 0] l) 100)) := below_alloc (Below.refl _ _) _
  have hz3 : (w.alloc (.cells (madeCells #[.int .u32 0] l) 100)).heap.size = w.heap.size + 1 := by simp
  obtain ⟨w3, hw3⟩ : ∃ w3, w3 = w.alloc (.cells (madeCells #[.int .u32 0] l) 100) := ⟨_, rfl⟩
  obtain ⟨g, hg⟩ : ∃ g, g = w.heap.size := ⟨_, rfl⟩
  rw [← hw3] at A3 F3 B3 hz3 ⊢
  rw [← hg] at A3 F3 hz3 ⊢
  have HG := Lib.hid hg; have HZ3 := Lib.hid hz3
  have HA3 := Lib.hid A3; have HF3 := Lib.hid F3
  have HB3 := Lib.hid B3
  have X1 := Lib.hid (H1.out.mono B3); have X2 := Lib.hid (H2.out.mono B3)
  clear A3 F3 B3 hw3 hg hmk hz3
  go_loopw [6, 7] (fun c' i wr => ∃ j cc : Nat, j ≤ l ∧ i = .int .i64 j ∧ c' = .int .u64 (cc : Int) ∧ ∃ L : List Nat, L.length = l ∧ At wr .u32 g 0 L ∧ Hid (RDiff (2 ^ 32) (dr m) (dr n) L j cc) ∧ Hid (IsR wr p l c m) ∧ Hid (IsR wr q k d n) ∧ Only w3 wr g 0 l) (fun _ i _ => l - (intOf i).toNat)
  case atStart => exact ⟨0, 0, Nat.zero_le _, rfl, rfl, List.replicate l 0, by simp, HA3.out, Lib.hid (RDiff.start (by omega) _ _ _), X1, X2, Only.refl _ _ _ _⟩
  case round =>
    obtain ⟨j, cc, hj, rfl, rfl, L, hL, hA, HI, Y1, Y2, hO⟩ := hrel
    by_cases hlt : j < l
    · have hm0 : m ≠ 0 := fun e => by have := e1.out; subst e; rw [dr_zero] at this; simp at this; omega
      obtain ⟨b, off, rfl, y1⟩ := Y1.out.2.2 hm0
      have c0 := y1 j (by rw [← e1.out]; exact hlt)
      have c1 := hA.zero j (by omega)
      have c2 := (HF3.out.only hO).zero j (by omega)
      have hc1 := HI.out.one
      have hx := getD_lt (dr_lt m) (by omega) j
      have hy := getD_lt (dr_lt n) (by omega) j
      have T2 := Lib.hid (fun a => rAt_any n j q k d (wr.drewN a) (Y2.out.mono (below_drewN (Below.refl _ _) a)) (by omega))
      have hst := Lib.hid (fun s d h1 h2 h3 => HI.out.step (s := s) (d := d) (by omega : j < L.length) h1 h2 h3)
      generalize (dr m).getD j 0 = x at *
      generalize (dr n).getD j 0 = y at *
      generalize L.getD j 0 = z at *
      clear y1
      go_wp2_with fail
      go_quiet ((go_at_call 69; exact quiet_of_eq (T2.out _)))
      go_wp2
      have hval : IntKind.u64.wrap (IntKind.u64.wrap ((x : Int) - y) - cc) % 4294967296 = (((x + 4294967296 - y - cc) % 4294967296 : Nat) : Int) := by
        rw [IntKind.wrap_u64, IntKind.wrap_u64]; omega
      have hbor : IntKind.u64.wrap (IntKind.u64.wrap ((x : Int) - y) - cc) / 9223372036854775808 = ((if x < y + cc then 1 else 0 : Nat) : Int) := by
        rw [IntKind.wrap_u64, IntKind.wrap_u64]; split <;> omega
      rw [hval, hbor]
      have hON := (hO.trans (Only.drewN (Only.refl wr g 0 l) nq)).setCell j (by omega) (by omega) (.int .u32 (((x + 4294967296 - y - cc) % 4294967296 : Nat) : Int))
      go_roundw
      case rel =>
        refine ⟨j + 1, if x < y + cc then 1 else 0, by omega, by go_num, rfl, L.set j ((x + 4294967296 - y - cc) % 4294967296), by rw [List.length_set]; exact hL, ?_, Lib.hid (hst.out _ _ (Nat.mod_lt _ (by omega)) (by split <;> omega) (by split <;> omega)), Lib.hid (H1.out.keeps HB3.out hON (by have := HG.out; omega)), Lib.hid (H2.out.keeps HB3.out hON (by have := HG.out; omega)), hON⟩
        have := (hA.drewN nq).set j ((x + 4294967296 - y - cc) % 4294967296) (by omega)
        rw [Nat.zero_add] at this
        exact this
      case measure => simp [intOf]; omega
    · obtain rfl : j = l := by omega
      have hdone := HI.out.done hL e1.out.symm (by have h1 := digs_length_mono (b := 2 ^ 32) (by omega) HLE.out; have h2 := e1.out; unfold dr at h2 ⊢; rw [h2]; exact h1) (by rw [val_dr, val_dr]; exact HLE.out)
      rw [val_dr, val_dr] at hdone
      have HT := Lib.hid (rtrim_n g 0 j j L hL wr hA HI.out.lt (by omega) (Nat.le_refl _))
      rw [hdone] at HT
      have HBR := Lib.hid (HB3.out.trans (hO.below (show w.heap.size ≤ g by have := HG.out; omega) (by have := HZ3.out; have := HG.out; omega)))
      clear hdone hA HI hO
      go_wp2_with fail
      refine HT.out.mono ?_
      rintro e w6 ⟨p6, l6, c6, rfl, h6, hb6⟩
      have H6 := Lib.hid h6; clear h6
      have HB6 := Lib.hid (below_step HBR.out hb6)
      clear hb6
      go_wp2
      go_ret
      exact ⟨_, _, _, rfl, H6.out, HB6.out⟩
end Go.Proofs.YtmhpaadanpianaaDoor
