/- NatShifts: moves, powers and roots are the document's. -/
import Derived.Test.YtmhpaadanpianaaDoorPow
import Derived.Test.YtmhpaadanpianaaDoorRefPow
import Derived.Test.YtmhpaadanpianaaDoorSums
import Derived.Test.YtmhpaadanpianaaDoorSkip
namespace Go.Proofs.YtmhpaadanpianaaDoor
open Go.RowKit

set_option maxRecDepth 100000 in
set_option maxHeartbeats 2000000 in
theorem shifts_neg (p : Option Addr) (l c : Nat) (n k v u : Int) (Z : Nat → Nat) (xs : List Nat) (w : World) (hn1 : -9223372036854775808 ≤ n) (hn2 : n ≤ 9223372036854775807) (hk1 : -9223372036854775808 ≤ k) (hk2 : k ≤ 9223372036854775807)
    (hv : v = n % ((600 : Nat) : Int) - 300) (hu : u = k % ((9 : Nat) : Int) - 1) (hz : ∀ m, (ds m).length ≤ 6 → (ds (Z m)).length ≤ 20)
    (hS : ∀ m, (ds m).length ≤ 6 → ∀ W s p l c, IsN W s p l c m → Calls Tryd.prog 24 #[.agg #[.int .u64 s, .slice p l c], .int .i64 v] W (RetN W (Z m)))
    (hR : ∀ m, (ds m).length ≤ 6 → ∀ W p l c, IsR W p l c m → Calls Tryd.prog 39 #[.slice p l c, .int .i64 v] W (RetR W (Z m)))
    (h1 : IsB w p l c xs) (hm1 : u = -1) :
    Calls Tryd.prog 7 #[.slice p l c, .int .i64 n, .int .i64 k] w fun e w' => e = .returned (.bool true) ∧ Below w.heap.size w w' := by
  have sm := ds_nb xs h1.2.1
  have T1 := Lib.hid (fun w h1 h2 => two_any p none l c 0 0 xs [] w h1 h2)
  have H1 := Lib.hid h1
  clear h1
  generalize nb (xs.take 48) = m at *
  generalize nb (List.take 48 []) = o at *
  have sz := hz m sm
  have TS := Lib.hid (fun W s p l c h => hS m sm W s p l c h)
  have TR := Lib.hid (fun W p l c h => hR m sm W p l c h)
  generalize Z m = z at *
  obtain ⟨r, hr, hr2⟩ := root_exists m
  have HR := Lib.hid (And.intro hr hr2)
  have sr : (ds r).length ≤ 6 := Nat.le_trans (ds_mono (show r ≤ m by
    rcases Nat.eq_zero_or_pos r with h | h
    · omega
    · exact Nat.le_trans (by have : r * 1 ≤ r * r := Nat.mul_le_mul_left r h
                             omega) hr)) sm
  have P1 := Lib.hid (fun W => pick_any n 600 W hn1 hn2 (by omega) (by omega))
  have P2 := Lib.hid (fun W => pick_any k 9 W hk1 hk2 (by omega) (by omega))
  have a1 := Int.emod_nonneg n (show ((600 : Nat) : Int) ≠ 0 by omega)
  have a2 := Int.emod_lt_of_pos n (show (0 : Int) < ((600 : Nat) : Int) by omega)
  generalize n % ((600 : Nat) : Int) = a at *
  have b1 := Int.emod_nonneg k (show ((9 : Nat) : Int) ≠ 0 by omega)
  have b2 := Int.emod_lt_of_pos k (show (0 : Int) < ((9 : Nat) : Int) by omega)
  generalize k % ((9 : Nat) : Int) = b at *
  have wa : IntKind.i64.wrap (a - 300) = v := by rw [hv, IntKind.wrap_i64]; omega
  have wa' : a - 300 = v := hv.symm
  have wb : IntKind.i64.wrap (b - 1) = u := by rw [hu, IntKind.wrap_i64]; omega
  have wb' : b - 1 = u := hu.symm
  have hu0 : u < 0 := by omega
  clear hm1
  clear hr hr2 hS hR hz hn1 hn2 hk1 hk2 hv hu
  go_enter Tryd.func7, Tryd.ntmps7
  go_wp2_with fail
  refine (T1.out _ H1.out ⟨rfl, fun x hx => by simp at hx, Or.inl ⟨rfl, rfl, rfl⟩⟩).mono ?_
  rintro e' w1 ⟨s1, p1, l1, c1, s2, p2, l2, c2, p3, l3, c3, p4, l4, c4, rfl, n1, n2, r1, r2, hX⟩
  have N1 := Lib.hid n1; have R1 := Lib.hid r1
  have HB := Lib.hid hX
  have b3 : l3 ≤ 12 := r1.short sm
  have b3' : (dr m).length ≤ 12 := by have := r1.1; omega
  clear n1 n2 r1 r2 hX T1 H1
  go_wp2_with fail
  have BX : Below w1.heap.size w1 ((w1.alloc (.cells #[.int .u64 s1, .slice p1 l1 c1] 25)).alloc (.cells #[.int .u64 s2, .slice p2 l2 c2] 25)) := (by repeat' first | exact Below.refl _ _ | refine below_alloc ?_ _ | refine Below.drew ?_ | refine below_step ?_ (by assumption))
  have A0 : ((w1.alloc (.cells #[.int .u64 s1, .slice p1 l1 c1] 25)).alloc (.cells #[.int .u64 s2, .slice p2 l2 c2] 25)).cell? ⟨w1.heap.size, 0, none⟩ = some (.int .u64 s1) := by simp [go_sem]
  have A1 : ((w1.alloc (.cells #[.int .u64 s1, .slice p1 l1 c1] 25)).alloc (.cells #[.int .u64 s2, .slice p2 l2 c2] 25)).cell? ⟨w1.heap.size, 1, none⟩ = some (.slice p1 l1 c1) := by simp [go_sem]
  have B0 : ((w1.alloc (.cells #[.int .u64 s1, .slice p1 l1 c1] 25)).alloc (.cells #[.int .u64 s2, .slice p2 l2 c2] 25)).cell? ⟨w1.heap.size + 1, 0, none⟩ = some (.int .u64 s2) := by simp [go_sem]
  have B1 : ((w1.alloc (.cells #[.int .u64 s1, .slice p1 l1 c1] 25)).alloc (.cells #[.int .u64 s2, .slice p2 l2 c2] 25)).cell? ⟨w1.heap.size + 1, 1, none⟩ = some (.slice p2 l2 c2) := by simp [go_sem]
  obtain ⟨w2, hW⟩ : ∃ W, W = (w1.alloc (.cells #[.int .u64 s1, .slice p1 l1 c1] 25)).alloc (.cells #[.int .u64 s2, .slice p2 l2 c2] 25) := ⟨_, rfl⟩
  rw [← hW] at BX A0 A1 B0 B1 ⊢
  have N1 := Lib.hid (N1.out.mono BX)
  have R1 := Lib.hid (R1.out.mono BX)
  have HB := Lib.hid (below_step HB.out BX)
  obtain ⟨a0, hG⟩ : ∃ g, g = w1.heap.size := ⟨_, rfl⟩
  rw [← hG] at A0 A1 B0 B1 ⊢
  clear hW BX hG
  refine (P1.out _).mono ?_
  rintro e' _ ⟨rfl, rfl⟩
  go_wp2_with fail
  refine (P2.out _).mono ?_
  rintro e' _ ⟨rfl, rfl⟩
  clear P1 P2
  go_wp2_with fail
  refine (pow_neg u s1 p1 l1 c1 _ hu0).mono ?_
  rintro e' w3 ⟨rfl, hX⟩
  have A0 := wcell hX A0
  have A1 := wcell hX A1
  have B0 := wcell hX B0
  have B1 := wcell hX B1
  have N1 := Lib.hid (N1.out.mono hX)
  have R1 := Lib.hid (R1.out.mono hX)
  have HB := Lib.hid (below_step HB.out hX)
  clear hX
  clear wa wa' wb wb' a1 a2 b1 b2
  go_wp2_with fail
  have BX : Below w3.heap.size w3 (w3.alloc (.cells #[.int .u64 0, .slice none 0 0] 25)) := (by repeat' first | exact Below.refl _ _ | refine below_alloc ?_ _ | refine Below.drew ?_ | refine below_step ?_ (by assumption))
  have D0 : (w3.alloc (.cells #[.int .u64 0, .slice none 0 0] 25)).cell? ⟨w3.heap.size, 0, none⟩ = some (.int .u64 0) := by simp [go_sem]
  have D1 : (w3.alloc (.cells #[.int .u64 0, .slice none 0 0] 25)).cell? ⟨w3.heap.size, 1, none⟩ = some (.slice none 0 0) := by simp [go_sem]
  obtain ⟨w4, hW⟩ : ∃ W, W = w3.alloc (.cells #[.int .u64 0, .slice none 0 0] 25) := ⟨_, rfl⟩
  rw [← hW] at BX D0 D1 ⊢
  have A0 := wcell BX A0
  have A1 := wcell BX A1
  have B0 := wcell BX B0
  have B1 := wcell BX B1
  have N1 := Lib.hid (N1.out.mono BX)
  have R1 := Lib.hid (R1.out.mono BX)
  have HB := Lib.hid (below_step HB.out BX)
  obtain ⟨g, hG⟩ : ∃ g, g = w3.heap.size := ⟨_, rfl⟩
  rw [← hG] at D0 D1 ⊢
  clear hW BX hG
  refine (known_any _).mono ?_
  rintro e' w5 ⟨rfl, hX⟩
  have A0 := wcell hX A0
  have A1 := wcell hX A1
  have B0 := wcell hX B0
  have B1 := wcell hX B1
  have D0 := wcell hX D0
  have D1 := wcell hX D1
  have N1 := Lib.hid (N1.out.mono hX)
  have R1 := Lib.hid (R1.out.mono hX)
  have HB := Lib.hid (below_step HB.out hX)
  clear hX
  go_wp2_with fail
  refine (TS.out _ s1 p1 l1 c1 N1.out).mono ?_
  rintro e w6 ⟨s8, p8, l8, c8, rfl, n8, hX⟩
  have A0 := wcell hX A0
  have A1 := wcell hX A1
  have B0 := wcell hX B0
  have B1 := wcell hX B1
  have D0 := wcell hX D0
  have D1 := wcell hX D1
  have N1 := Lib.hid (N1.out.mono hX)
  have R1 := Lib.hid (R1.out.mono hX)
  have HB := Lib.hid (below_step HB.out hX)
  have N8 := Lib.hid n8
  clear hX n8 
  go_wp2_with fail
  refine (TR.out _ p3 l3 c3 R1.out).mono ?_
  rintro e w7 ⟨p9, l9, c9, rfl, r9, hX⟩
  have A0 := wcell hX A0
  have A1 := wcell hX A1
  have B0 := wcell hX B0
  have B1 := wcell hX B1
  have D0 := wcell hX D0
  have D1 := wcell hX D1
  have N1 := Lib.hid (N1.out.mono hX)
  have R1 := Lib.hid (R1.out.mono hX)
  have N8 := Lib.hid (N8.out.mono hX)
  have HB := Lib.hid (below_step HB.out hX)
  have R9 := Lib.hid r9
  clear hX r9 
  have b9 := R9.out.short sz
  go_wp2_with fail
  refine (is_yes z s8 p8 p9 l8 c8 l9 c9 _ N8.out R9.out (by omega) (by omega)).mono ?_
  rintro e w8 ⟨rfl, hX⟩
  have A0 := wcell hX A0
  have A1 := wcell hX A1
  have B0 := wcell hX B0
  have B1 := wcell hX B1
  have D0 := wcell hX D0
  have D1 := wcell hX D1
  have N1 := Lib.hid (N1.out.mono hX)
  have R1 := Lib.hid (R1.out.mono hX)
  have N8 := Lib.hid (N8.out.mono hX)
  have R9 := Lib.hid (R9.out.mono hX)
  have HB := Lib.hid (below_step HB.out hX)
  clear hX  N8 R9 b9
  go_wp2_with fail
  refine (root_any m r s1 p1 l1 c1 _ HR.out.1 HR.out.2 (by omega) N1.out).mono ?_
  rintro e w9 ⟨s8, p8, l8, c8, rfl, n8, hX⟩
  have A0 := wcell hX A0
  have A1 := wcell hX A1
  have B0 := wcell hX B0
  have B1 := wcell hX B1
  have D0 := wcell hX D0
  have D1 := wcell hX D1
  have N1 := Lib.hid (N1.out.mono hX)
  have R1 := Lib.hid (R1.out.mono hX)
  have HB := Lib.hid (below_step HB.out hX)
  have N8 := Lib.hid n8
  clear hX n8 
  go_wp2_with fail
  refine (rRoot_any p3 l3 c3 m r _ HR.out.1 HR.out.2 (by omega) R1.out).mono ?_
  rintro e w10 ⟨p9, l9, c9, rfl, r9, hX⟩
  have A0 := wcell hX A0
  have A1 := wcell hX A1
  have B0 := wcell hX B0
  have B1 := wcell hX B1
  have D0 := wcell hX D0
  have D1 := wcell hX D1
  have N1 := Lib.hid (N1.out.mono hX)
  have R1 := Lib.hid (R1.out.mono hX)
  have N8 := Lib.hid (N8.out.mono hX)
  have HB := Lib.hid (below_step HB.out hX)
  have R9 := Lib.hid r9
  clear hX r9 
  have b9 := R9.out.short sr
  go_wp2_with fail
  refine (is_yes r s8 p8 p9 l8 c8 l9 c9 _ N8.out R9.out (by omega) (by omega)).mono ?_
  rintro e w11 ⟨rfl, hX⟩
  have A0 := wcell hX A0
  have A1 := wcell hX A1
  have B0 := wcell hX B0
  have B1 := wcell hX B1
  have D0 := wcell hX D0
  have D1 := wcell hX D1
  have N1 := Lib.hid (N1.out.mono hX)
  have R1 := Lib.hid (R1.out.mono hX)
  have N8 := Lib.hid (N8.out.mono hX)
  have R9 := Lib.hid (R9.out.mono hX)
  have HB := Lib.hid (below_step HB.out hX)
  clear hX  N8 R9 b9
  go_wp2_with fail
  refine region_phase2 (T := [0, 1, 2, 3, 4, 5, 6, 7, 8, 9, 10, 11, 12, 13, 14, 15, 16, 17]) (slots := [58, 59, 60, 61, 62, 63, 64, 65, 66, 67, 68, 69, 70, 71, 72, 73, 74, 75]) (fuel := 1) (n := 18) (deps := [0, 1, 2, 4, 12, 20, 36, 80, 128, 384, 640, 1024, 1024, 1024, 13312, 19456, 33920, 65664, 262143]) (Tm := 262143) (Lm := 262143)
      (L := #[true, true, true, true, true, true, true, true, true, true, true, true, true, true, true, true, true, true, false])
      (V := Tab [.is (.int .i64 u), .is (.bool true), .is (.bool true), .is (.agg #[.int .u64 0, .slice none 0 0]), .is (.int .i64 0), .is (.bool true), .is (.bool true), .is (.bool true), .is undef, .is undef, .is undef, .is undef, .is undef, .is undef, .is undef, .is undef, .is undef, .is (.bool true)] 0)
      (by kernel_rfl) rfl Tab.stable (by kernel_rfl) (by kernel_rfl) (by kernel_rfl) (by kernel_rfl) (by kernel_rfl) (by kernel_rfl) (by kernel_rfl) ?_ ?_
  · skip
    refine AllWay.cons rfl (fun E W hb hc hf hE hV => ⟨rfl, ?_⟩) ?_
    · have e1 : E (.tmp 2) = .int .i64 u := hE 2 (by kernel_rfl)
      clear hE hV
      exact Does.value (w' := W) (by go_simp) ⟨rfl, Below.refl _ _⟩
    refine AllWay.cons rfl (fun E W hb hc hf hE hV => ⟨rfl, ?_⟩) ?_
    · have e1 : E (.tmp 58) = _ := hV 0 58 (by kernel_rfl) (by kernel_rfl) (by kernel_rfl)
      clear hE hV
      exact Does.value (w' := W) (by go_simp) ⟨rfl, Below.refl _ _⟩
    refine AllWay.cons rfl (fun E W hb hc hf hE hV => ⟨rfl, ?_⟩) ?_
    · have e1 : E (.tmp 59) = _ := hV 1 59 (by kernel_rfl) (by kernel_rfl) (by kernel_rfl)
      clear hE hV
      exact Does.value (w' := W) (by go_simp) ⟨rfl, Below.refl _ _⟩
    refine AllWay.cons rfl (fun E W hb hc hf hE hV => ⟨wanted_of (d := 60) (b := true) rfl (by kernel_rfl) (hV 2 60 (by kernel_rfl) (by kernel_rfl) (by kernel_rfl)), ?_⟩) ?_
    · have e1 : E (.tmp 11) = .pointer (some ⟨g, 0, none⟩) := hE 11 (by kernel_rfl)
      have q := wcell hb D0
      have q' := wcell hb D1
      clear hE hV
      exact Does.value (w' := W) (by go_simp) ⟨rfl, Below.refl _ _⟩
    refine AllWay.cons rfl (fun E W hb hc hf hE hV => ⟨wanted_of (d := 60) (b := true) rfl (by kernel_rfl) (hV 2 60 (by kernel_rfl) (by kernel_rfl) (by kernel_rfl)), ?_⟩) ?_
    · have e1 : E (.tmp 61) = _ := hV 3 61 (by kernel_rfl) (by kernel_rfl) (by kernel_rfl)
      clear hE hV
      exact Does.call (w' := W) (by go_simp) ((nbits_any 0 0 none 0 0 W (Or.inl ⟨by omega, rfl, rfl, rfl, rfl⟩) (by rw [ds_one (by omega)]; omega)).mono fun e w' ⟨h1, h2⟩ => ⟨_, h1, by rw [show bitLen 0 = 0 from by unfold bitLen; rfl]; rfl, h2⟩)
    refine AllWay.cons rfl (fun E W hb hc hf hE hV => ⟨wanted_of (d := 60) (b := true) rfl (by kernel_rfl) (hV 2 60 (by kernel_rfl) (by kernel_rfl) (by kernel_rfl)), ?_⟩) ?_
    · have e1 : E (.tmp 62) = _ := hV 4 62 (by kernel_rfl) (by kernel_rfl) (by kernel_rfl)
      clear hE hV
      exact Does.value (w' := W) (by go_simp) ⟨rfl, Below.refl _ _⟩
    refine AllWay.cons rfl (fun E W hb hc hf hE hV => ⟨rfl, ?_⟩) ?_
    · have e1 : E (.tmp 60) = _ := hV 2 60 (by kernel_rfl) (by kernel_rfl) (by kernel_rfl)
      have e2 : E (.tmp 63) = _ := hV 5 63 (by kernel_rfl) (by kernel_rfl) (by kernel_rfl)
      clear hE hV
      exact Does.value (w' := W) (by go_simp) ⟨rfl, Below.refl _ _⟩
    refine AllWay.cons rfl (fun E W hb hc hf hE hV => ⟨rfl, ?_⟩) ?_
    · have e1 : E (.tmp 64) = _ := hV 6 64 (by kernel_rfl) (by kernel_rfl) (by kernel_rfl)
      clear hE hV
      exact Does.value (w' := W) (by go_simp) ⟨rfl, Below.refl _ _⟩
    refine AllWay.pass rfl (fun E W hb hc hf hE hV => ⟨unwanted_of (d := 65) (b := false) rfl (by kernel_rfl) (hV 7 65 (by kernel_rfl) (by kernel_rfl) (by kernel_rfl)) rfl, rfl⟩) ?_
    refine AllWay.pass rfl (fun E W hb hc hf hE hV => ⟨unwanted_of (d := 65) (b := false) rfl (by kernel_rfl) (hV 7 65 (by kernel_rfl) (by kernel_rfl) (by kernel_rfl)) rfl, rfl⟩) ?_
    refine AllWay.pass rfl (fun E W hb hc hf hE hV => ⟨unwanted_of (d := 65) (b := false) rfl (by kernel_rfl) (hV 7 65 (by kernel_rfl) (by kernel_rfl) (by kernel_rfl)) rfl, rfl⟩) ?_
    refine AllWay.pass rfl (fun E W hb hc hf hE hV => ⟨unwanted_of (d := 68) (b := true) rfl (by kernel_rfl) (hV 10 68 (by kernel_rfl) (by kernel_rfl) (by kernel_rfl)) rfl, rfl⟩) ?_
    refine AllWay.pass rfl (fun E W hb hc hf hE hV => ⟨unwanted_of (d := 68) (b := true) rfl (by kernel_rfl) (hV 10 68 (by kernel_rfl) (by kernel_rfl) (by kernel_rfl)) rfl, rfl⟩) ?_
    refine AllWay.pass rfl (fun E W hb hc hf hE hV => ⟨unwanted_of (d := 68) (b := true) rfl (by kernel_rfl) (hV 10 68 (by kernel_rfl) (by kernel_rfl) (by kernel_rfl)) rfl, rfl⟩) ?_
    refine AllWay.pass rfl (fun E W hb hc hf hE hV => ⟨unwanted_of (d := 68) (b := true) rfl (by kernel_rfl) (hV 10 68 (by kernel_rfl) (by kernel_rfl) (by kernel_rfl)) rfl, rfl⟩) ?_
    refine AllWay.pass rfl (fun E W hb hc hf hE hV => ⟨unwanted_of (d := 68) (b := true) rfl (by kernel_rfl) (hV 10 68 (by kernel_rfl) (by kernel_rfl) (by kernel_rfl)) rfl, rfl⟩) ?_
    refine AllWay.pass rfl (fun E W hb hc hf hE hV => ⟨unwanted_of (d := 65) (b := false) rfl (by kernel_rfl) (hV 7 65 (by kernel_rfl) (by kernel_rfl) (by kernel_rfl)) rfl, rfl⟩) ?_
    refine AllWay.cons rfl (fun E W hb hc hf hE hV => ⟨rfl, ?_⟩) ?_
    · have e1 : E (.tmp 65) = _ := hV 7 65 (by kernel_rfl) (by kernel_rfl) (by kernel_rfl)
      have e2 : E (.tmp 74) = _ := hV 16 74 (by kernel_rfl) (by kernel_rfl) (by kernel_rfl)
      clear hE hV
      exact Does.value (w' := W) (by go_simp) ⟨rfl, Below.refl _ _⟩
    exact AllWay.nil
  · intro f W hf hb
    have e75 : f 75 = .bool true := hf (17, 75) (by simp)
    have HW := Lib.hid (below_step HB.out hb)
    clear hf hb
    simp only [fillSlots]
    refine wpAny_ready (rs := [18]) (by kernel_rfl) (by simp) ?_
    refine AllReady.cons rfl (fun K hK => ?_) AllReady.nil
    go_simp
    refine hK _ _ ?_; clear hK K
    refine wpAny_done (by kernel_rfl) ?_ _
    go_wp2
    go_ret
    exact ⟨by simp, HW.out⟩

set_option maxRecDepth 100000 in
set_option maxHeartbeats 2000000 in
theorem shifts_pos (p : Option Addr) (l c : Nat) (n k v u : Int) (Z : Nat → Nat) (xs : List Nat) (w : World) (hn1 : -9223372036854775808 ≤ n) (hn2 : n ≤ 9223372036854775807) (hk1 : -9223372036854775808 ≤ k) (hk2 : k ≤ 9223372036854775807)
    (hv : v = n % ((600 : Nat) : Int) - 300) (hu : u = k % ((9 : Nat) : Int) - 1) (hz : ∀ m, (ds m).length ≤ 6 → (ds (Z m)).length ≤ 20)
    (hS : ∀ m, (ds m).length ≤ 6 → ∀ W s p l c, IsN W s p l c m → Calls Tryd.prog 24 #[.agg #[.int .u64 s, .slice p l c], .int .i64 v] W (RetN W (Z m)))
    (hR : ∀ m, (ds m).length ≤ 6 → ∀ W p l c, IsR W p l c m → Calls Tryd.prog 39 #[.slice p l c, .int .i64 v] W (RetR W (Z m)))
    (h1 : IsB w p l c xs) (e : Nat) (he : u = (e : Int)) (he7 : e ≤ 7) :
    Calls Tryd.prog 7 #[.slice p l c, .int .i64 n, .int .i64 k] w fun e w' => e = .returned (.bool true) ∧ Below w.heap.size w w' := by
  have sm := ds_nb xs h1.2.1
  have T1 := Lib.hid (fun w h1 h2 => two_any p none l c 0 0 xs [] w h1 h2)
  have H1 := Lib.hid h1
  clear h1
  generalize nb (xs.take 48) = m at *
  generalize nb (List.take 48 []) = o at *
  have sz := hz m sm
  have TS := Lib.hid (fun W s p l c h => hS m sm W s p l c h)
  have TR := Lib.hid (fun W p l c h => hR m sm W p l c h)
  generalize Z m = z at *
  obtain ⟨r, hr, hr2⟩ := root_exists m
  have HR := Lib.hid (And.intro hr hr2)
  have sr : (ds r).length ≤ 6 := Nat.le_trans (ds_mono (show r ≤ m by
    rcases Nat.eq_zero_or_pos r with h | h
    · omega
    · exact Nat.le_trans (by have : r * 1 ≤ r * r := Nat.mul_le_mul_left r h
                             omega) hr)) sm
  have P1 := Lib.hid (fun W => pick_any n 600 W hn1 hn2 (by omega) (by omega))
  have P2 := Lib.hid (fun W => pick_any k 9 W hk1 hk2 (by omega) (by omega))
  have a1 := Int.emod_nonneg n (show ((600 : Nat) : Int) ≠ 0 by omega)
  have a2 := Int.emod_lt_of_pos n (show (0 : Int) < ((600 : Nat) : Int) by omega)
  generalize n % ((600 : Nat) : Int) = a at *
  have b1 := Int.emod_nonneg k (show ((9 : Nat) : Int) ≠ 0 by omega)
  have b2 := Int.emod_lt_of_pos k (show (0 : Int) < ((9 : Nat) : Int) by omega)
  generalize k % ((9 : Nat) : Int) = b at *
  have wa : IntKind.i64.wrap (a - 300) = v := by rw [hv, IntKind.wrap_i64]; omega
  have wa' : a - 300 = v := hv.symm
  have wb : IntKind.i64.wrap (b - 1) = u := by rw [hu, IntKind.wrap_i64]; omega
  have wb' : b - 1 = u := hu.symm
  have sp := ds_pow_le m e sm
  rw [he] at wb wb'
  clear he
  clear hr hr2 hS hR hz hn1 hn2 hk1 hk2 hv hu
  go_enter Tryd.func7, Tryd.ntmps7
  go_wp2_with fail
  refine (T1.out _ H1.out ⟨rfl, fun x hx => by simp at hx, Or.inl ⟨rfl, rfl, rfl⟩⟩).mono ?_
  rintro e' w1 ⟨s1, p1, l1, c1, s2, p2, l2, c2, p3, l3, c3, p4, l4, c4, rfl, n1, n2, r1, r2, hX⟩
  have N1 := Lib.hid n1; have R1 := Lib.hid r1
  have HB := Lib.hid hX
  have b3 : l3 ≤ 12 := r1.short sm
  have b3' : (dr m).length ≤ 12 := by have := r1.1; omega
  clear n1 n2 r1 r2 hX T1 H1
  go_wp2_with fail
  have BX : Below w1.heap.size w1 ((w1.alloc (.cells #[.int .u64 s1, .slice p1 l1 c1] 25)).alloc (.cells #[.int .u64 s2, .slice p2 l2 c2] 25)) := (by repeat' first | exact Below.refl _ _ | refine below_alloc ?_ _ | refine Below.drew ?_ | refine below_step ?_ (by assumption))
  have A0 : ((w1.alloc (.cells #[.int .u64 s1, .slice p1 l1 c1] 25)).alloc (.cells #[.int .u64 s2, .slice p2 l2 c2] 25)).cell? ⟨w1.heap.size, 0, none⟩ = some (.int .u64 s1) := by simp [go_sem]
  have A1 : ((w1.alloc (.cells #[.int .u64 s1, .slice p1 l1 c1] 25)).alloc (.cells #[.int .u64 s2, .slice p2 l2 c2] 25)).cell? ⟨w1.heap.size, 1, none⟩ = some (.slice p1 l1 c1) := by simp [go_sem]
  have B0 : ((w1.alloc (.cells #[.int .u64 s1, .slice p1 l1 c1] 25)).alloc (.cells #[.int .u64 s2, .slice p2 l2 c2] 25)).cell? ⟨w1.heap.size + 1, 0, none⟩ = some (.int .u64 s2) := by simp [go_sem]
  have B1 : ((w1.alloc (.cells #[.int .u64 s1, .slice p1 l1 c1] 25)).alloc (.cells #[.int .u64 s2, .slice p2 l2 c2] 25)).cell? ⟨w1.heap.size + 1, 1, none⟩ = some (.slice p2 l2 c2) := by simp [go_sem]
  obtain ⟨w2, hW⟩ : ∃ W, W = (w1.alloc (.cells #[.int .u64 s1, .slice p1 l1 c1] 25)).alloc (.cells #[.int .u64 s2, .slice p2 l2 c2] 25) := ⟨_, rfl⟩
  rw [← hW] at BX A0 A1 B0 B1 ⊢
  have N1 := Lib.hid (N1.out.mono BX)
  have R1 := Lib.hid (R1.out.mono BX)
  have HB := Lib.hid (below_step HB.out BX)
  obtain ⟨a0, hG⟩ : ∃ g, g = w1.heap.size := ⟨_, rfl⟩
  rw [← hG] at A0 A1 B0 B1 ⊢
  clear hW BX hG
  refine (P1.out _).mono ?_
  rintro e' _ ⟨rfl, rfl⟩
  go_wp2_with fail
  refine (P2.out _).mono ?_
  rintro e' _ ⟨rfl, rfl⟩
  clear P1 P2
  go_wp2_with fail
  refine (pow_any m e s1 p1 l1 c1 _ sm he7 N1.out).mono ?_
  rintro e' w3 ⟨s6, p6, l6, c6, rfl, n6, hX⟩
  have A0 := wcell hX A0
  have A1 := wcell hX A1
  have B0 := wcell hX B0
  have B1 := wcell hX B1
  have N1 := Lib.hid (N1.out.mono hX)
  have R1 := Lib.hid (R1.out.mono hX)
  have HB := Lib.hid (below_step HB.out hX)
  have N6 := Lib.hid n6
  clear hX n6
  clear wa wa' wb wb' a1 a2 b1 b2
  go_wp2_with fail
  have BX : Below w3.heap.size w3 (w3.alloc (.cells #[.int .u64 s6, .slice p6 l6 c6] 25)) := (by repeat' first | exact Below.refl _ _ | refine below_alloc ?_ _ | refine Below.drew ?_ | refine below_step ?_ (by assumption))
  have D0 : (w3.alloc (.cells #[.int .u64 s6, .slice p6 l6 c6] 25)).cell? ⟨w3.heap.size, 0, none⟩ = some (.int .u64 s6) := by simp [go_sem]
  have D1 : (w3.alloc (.cells #[.int .u64 s6, .slice p6 l6 c6] 25)).cell? ⟨w3.heap.size, 1, none⟩ = some (.slice p6 l6 c6) := by simp [go_sem]
  obtain ⟨w4, hW⟩ : ∃ W, W = w3.alloc (.cells #[.int .u64 s6, .slice p6 l6 c6] 25) := ⟨_, rfl⟩
  rw [← hW] at BX D0 D1 ⊢
  have A0 := wcell BX A0
  have A1 := wcell BX A1
  have B0 := wcell BX B0
  have B1 := wcell BX B1
  have N1 := Lib.hid (N1.out.mono BX)
  have R1 := Lib.hid (R1.out.mono BX)
  have N6 := Lib.hid (N6.out.mono BX)
  have HB := Lib.hid (below_step HB.out BX)
  obtain ⟨g, hG⟩ : ∃ g, g = w3.heap.size := ⟨_, rfl⟩
  rw [← hG] at D0 D1 ⊢
  clear hW BX hG
  refine (known_any _).mono ?_
  rintro e' w5 ⟨rfl, hX⟩
  have A0 := wcell hX A0
  have A1 := wcell hX A1
  have B0 := wcell hX B0
  have B1 := wcell hX B1
  have D0 := wcell hX D0
  have D1 := wcell hX D1
  have N1 := Lib.hid (N1.out.mono hX)
  have R1 := Lib.hid (R1.out.mono hX)
  have N6 := Lib.hid (N6.out.mono hX)
  have HB := Lib.hid (below_step HB.out hX)
  clear hX
  go_wp2_with fail
  refine (TS.out _ s1 p1 l1 c1 N1.out).mono ?_
  rintro e w6 ⟨s8, p8, l8, c8, rfl, n8, hX⟩
  have A0 := wcell hX A0
  have A1 := wcell hX A1
  have B0 := wcell hX B0
  have B1 := wcell hX B1
  have D0 := wcell hX D0
  have D1 := wcell hX D1
  have N1 := Lib.hid (N1.out.mono hX)
  have R1 := Lib.hid (R1.out.mono hX)
  have N6 := Lib.hid (N6.out.mono hX)
  have HB := Lib.hid (below_step HB.out hX)
  have N8 := Lib.hid n8
  clear hX n8 
  go_wp2_with fail
  refine (TR.out _ p3 l3 c3 R1.out).mono ?_
  rintro e w7 ⟨p9, l9, c9, rfl, r9, hX⟩
  have A0 := wcell hX A0
  have A1 := wcell hX A1
  have B0 := wcell hX B0
  have B1 := wcell hX B1
  have D0 := wcell hX D0
  have D1 := wcell hX D1
  have N1 := Lib.hid (N1.out.mono hX)
  have R1 := Lib.hid (R1.out.mono hX)
  have N6 := Lib.hid (N6.out.mono hX)
  have N8 := Lib.hid (N8.out.mono hX)
  have HB := Lib.hid (below_step HB.out hX)
  have R9 := Lib.hid r9
  clear hX r9 
  have b9 := R9.out.short sz
  go_wp2_with fail
  refine (is_yes z s8 p8 p9 l8 c8 l9 c9 _ N8.out R9.out (by omega) (by omega)).mono ?_
  rintro e w8 ⟨rfl, hX⟩
  have A0 := wcell hX A0
  have A1 := wcell hX A1
  have B0 := wcell hX B0
  have B1 := wcell hX B1
  have D0 := wcell hX D0
  have D1 := wcell hX D1
  have N1 := Lib.hid (N1.out.mono hX)
  have R1 := Lib.hid (R1.out.mono hX)
  have N6 := Lib.hid (N6.out.mono hX)
  have N8 := Lib.hid (N8.out.mono hX)
  have R9 := Lib.hid (R9.out.mono hX)
  have HB := Lib.hid (below_step HB.out hX)
  clear hX  N8 R9 b9
  go_wp2_with fail
  refine (root_any m r s1 p1 l1 c1 _ HR.out.1 HR.out.2 (by omega) N1.out).mono ?_
  rintro e w9 ⟨s8, p8, l8, c8, rfl, n8, hX⟩
  have A0 := wcell hX A0
  have A1 := wcell hX A1
  have B0 := wcell hX B0
  have B1 := wcell hX B1
  have D0 := wcell hX D0
  have D1 := wcell hX D1
  have N1 := Lib.hid (N1.out.mono hX)
  have R1 := Lib.hid (R1.out.mono hX)
  have N6 := Lib.hid (N6.out.mono hX)
  have HB := Lib.hid (below_step HB.out hX)
  have N8 := Lib.hid n8
  clear hX n8 
  go_wp2_with fail
  refine (rRoot_any p3 l3 c3 m r _ HR.out.1 HR.out.2 (by omega) R1.out).mono ?_
  rintro e w10 ⟨p9, l9, c9, rfl, r9, hX⟩
  have A0 := wcell hX A0
  have A1 := wcell hX A1
  have B0 := wcell hX B0
  have B1 := wcell hX B1
  have D0 := wcell hX D0
  have D1 := wcell hX D1
  have N1 := Lib.hid (N1.out.mono hX)
  have R1 := Lib.hid (R1.out.mono hX)
  have N6 := Lib.hid (N6.out.mono hX)
  have N8 := Lib.hid (N8.out.mono hX)
  have HB := Lib.hid (below_step HB.out hX)
  have R9 := Lib.hid r9
  clear hX r9 
  have b9 := R9.out.short sr
  go_wp2_with fail
  refine (is_yes r s8 p8 p9 l8 c8 l9 c9 _ N8.out R9.out (by omega) (by omega)).mono ?_
  rintro e w11 ⟨rfl, hX⟩
  have A0 := wcell hX A0
  have A1 := wcell hX A1
  have B0 := wcell hX B0
  have B1 := wcell hX B1
  have D0 := wcell hX D0
  have D1 := wcell hX D1
  have N1 := Lib.hid (N1.out.mono hX)
  have R1 := Lib.hid (R1.out.mono hX)
  have N6 := Lib.hid (N6.out.mono hX)
  have N8 := Lib.hid (N8.out.mono hX)
  have R9 := Lib.hid (R9.out.mono hX)
  have HB := Lib.hid (below_step HB.out hX)
  clear hX  N8 R9 b9
  go_wp2_with fail
  refine region_phase2 (T := [0, 1, 2, 3, 4, 5, 6, 7, 8, 9, 10, 11, 12, 13, 14, 15, 16, 17]) (slots := [58, 59, 60, 61, 62, 63, 64, 65, 66, 67, 68, 69, 70, 71, 72, 73, 74, 75]) (fuel := 1) (n := 18) (deps := [0, 1, 2, 4, 12, 20, 36, 80, 128, 384, 640, 1024, 1024, 1024, 13312, 19456, 33920, 65664, 262143]) (Tm := 262143) (Lm := 262143)
      (L := #[true, true, true, true, true, true, true, true, true, true, true, true, true, true, true, true, true, true, false])
      (V := Tab [.is (.int .i64 (e : Int)), .is (.bool false), .is (.bool false), .is undef, .is undef, .is undef, .is (.bool false), .is (.bool false), .is (.int .i64 (e : Int)), .is (.bool true), .is (.bool true), .num (m ^ e), .is (.slice p3 l3 c3), .is (.int .i64 (e : Int)), .rnum (m ^ e), .is (.bool true), .is (.bool true), .is (.bool true)] 0)
      (by kernel_rfl) rfl Tab.stable (by kernel_rfl) (by kernel_rfl) (by kernel_rfl) (by kernel_rfl) (by kernel_rfl) (by kernel_rfl) (by kernel_rfl) ?_ ?_
  · skip
    refine AllWay.cons rfl (fun E W hb hc hf hE hV => ⟨rfl, ?_⟩) ?_
    · have e1 : E (.tmp 2) = .int .i64 (e : Int) := hE 2 (by kernel_rfl)
      clear hE hV
      exact Does.value (w' := W) (by go_simp) ⟨rfl, Below.refl _ _⟩
    refine AllWay.cons rfl (fun E W hb hc hf hE hV => ⟨rfl, ?_⟩) ?_
    · have e1 : E (.tmp 58) = _ := hV 0 58 (by kernel_rfl) (by kernel_rfl) (by kernel_rfl)
      clear hE hV
      exact Does.value (w' := W) (by go_simp) ⟨rfl, Below.refl _ _⟩
    refine AllWay.cons rfl (fun E W hb hc hf hE hV => ⟨rfl, ?_⟩) ?_
    · have e1 : E (.tmp 59) = _ := hV 1 59 (by kernel_rfl) (by kernel_rfl) (by kernel_rfl)
      clear hE hV
      exact Does.value (w' := W) (by go_simp) ⟨rfl, Below.refl _ _⟩
    refine AllWay.pass rfl (fun E W hb hc hf hE hV => ⟨unwanted_of (d := 60) (b := true) rfl (by kernel_rfl) (hV 2 60 (by kernel_rfl) (by kernel_rfl) (by kernel_rfl)) rfl, rfl⟩) ?_
    refine AllWay.pass rfl (fun E W hb hc hf hE hV => ⟨unwanted_of (d := 60) (b := true) rfl (by kernel_rfl) (hV 2 60 (by kernel_rfl) (by kernel_rfl) (by kernel_rfl)) rfl, rfl⟩) ?_
    refine AllWay.pass rfl (fun E W hb hc hf hE hV => ⟨unwanted_of (d := 60) (b := true) rfl (by kernel_rfl) (hV 2 60 (by kernel_rfl) (by kernel_rfl) (by kernel_rfl)) rfl, rfl⟩) ?_
    refine AllWay.cons rfl (fun E W hb hc hf hE hV => ⟨rfl, ?_⟩) ?_
    · have e1 : E (.tmp 60) = _ := hV 2 60 (by kernel_rfl) (by kernel_rfl) (by kernel_rfl)
      have e2 : E (.tmp 63) = _ := hV 5 63 (by kernel_rfl) (by kernel_rfl) (by kernel_rfl)
      clear hE hV
      exact Does.value (w' := W) (by go_simp) ⟨rfl, Below.refl _ _⟩
    refine AllWay.cons rfl (fun E W hb hc hf hE hV => ⟨rfl, ?_⟩) ?_
    · have e1 : E (.tmp 64) = _ := hV 6 64 (by kernel_rfl) (by kernel_rfl) (by kernel_rfl)
      clear hE hV
      exact Does.value (w' := W) (by go_simp) ⟨rfl, Below.refl _ _⟩
    refine AllWay.cons rfl (fun E W hb hc hf hE hV => ⟨wanted_of (d := 65) (b := false) rfl (by kernel_rfl) (hV 7 65 (by kernel_rfl) (by kernel_rfl) (by kernel_rfl)), ?_⟩) ?_
    · have e1 : E (.tmp 2) = .int .i64 (e : Int) := hE 2 (by kernel_rfl)
      clear hE hV
      exact Does.value (w' := W) (by go_simp) ⟨rfl, Below.refl _ _⟩
    refine AllWay.cons rfl (fun E W hb hc hf hE hV => ⟨wanted_of (d := 65) (b := false) rfl (by kernel_rfl) (hV 7 65 (by kernel_rfl) (by kernel_rfl) (by kernel_rfl)), ?_⟩) ?_
    · have e1 : E (.tmp 66) = _ := hV 8 66 (by kernel_rfl) (by kernel_rfl) (by kernel_rfl)
      clear hE hV
      exact Does.value (w' := W) (by go_simp) ⟨rfl, Below.refl _ _⟩
    refine AllWay.cons rfl (fun E W hb hc hf hE hV => ⟨wanted_of (d := 65) (b := false) rfl (by kernel_rfl) (hV 7 65 (by kernel_rfl) (by kernel_rfl) (by kernel_rfl)), ?_⟩) ?_
    · have e1 : E (.tmp 67) = _ := hV 9 67 (by kernel_rfl) (by kernel_rfl) (by kernel_rfl)
      clear hE hV
      exact Does.value (w' := W) (by go_simp) ⟨rfl, Below.refl _ _⟩
    refine AllWay.cons rfl (fun E W hb hc hf hE hV => ⟨wanted_of (d := 68) (b := true) rfl (by kernel_rfl) (hV 10 68 (by kernel_rfl) (by kernel_rfl) (by kernel_rfl)), ?_⟩) ?_
    · have e1 : E (.tmp 11) = .pointer (some ⟨g, 0, none⟩) := hE 11 (by kernel_rfl)
      have q := wcell hb D0
      have q' := wcell hb D1
      clear hE hV
      exact Does.value (v := .agg #[.int .u64 s6, .slice p6 l6 c6]) (w' := W) (by go_simp) ⟨⟨_, _, _, _, rfl, N6.out.mono hb⟩, Below.refl _ _⟩
    refine AllWay.cons rfl (fun E W hb hc hf hE hV => ⟨wanted_of (d := 68) (b := true) rfl (by kernel_rfl) (hV 10 68 (by kernel_rfl) (by kernel_rfl) (by kernel_rfl)), ?_⟩) ?_
    · have e1 : E (.tmp 9) = .slice p3 l3 c3 := hE 9 (by kernel_rfl)
      clear hE hV
      exact Does.value (w' := W) (by go_simp) ⟨rfl, Below.refl _ _⟩
    refine AllWay.cons rfl (fun E W hb hc hf hE hV => ⟨wanted_of (d := 68) (b := true) rfl (by kernel_rfl) (hV 10 68 (by kernel_rfl) (by kernel_rfl) (by kernel_rfl)), ?_⟩) ?_
    · have e1 : E (.tmp 2) = .int .i64 (e : Int) := hE 2 (by kernel_rfl)
      clear hE hV
      exact Does.value (w' := W) (by go_simp) ⟨rfl, Below.refl _ _⟩
    refine AllWay.cons rfl (fun E W hb hc hf hE hV => ⟨wanted_of (d := 68) (b := true) rfl (by kernel_rfl) (hV 10 68 (by kernel_rfl) (by kernel_rfl) (by kernel_rfl)), ?_⟩) ?_
    · have e1 : E (.tmp 70) = _ := hV 12 70 (by kernel_rfl) (by kernel_rfl) (by kernel_rfl)
      have e2 : E (.tmp 71) = _ := hV 13 71 (by kernel_rfl) (by kernel_rfl) (by kernel_rfl)
      clear hE hV
      exact Does.call (w' := W) (by go_simp) ((rPow_any p3 l3 c3 m e W b3' he7 (R1.out.mono hb)).mono fun e w' ⟨p, l, c, h1, h2, h3⟩ => ⟨_, h1, ⟨p, l, c, rfl, h2⟩, h3⟩)
    refine AllWay.cons rfl (fun E W hb hc hf hE hV => ⟨wanted_of (d := 68) (b := true) rfl (by kernel_rfl) (hV 10 68 (by kernel_rfl) (by kernel_rfl) (by kernel_rfl)), ?_⟩) ?_
    · have e1 : Means W (.num (m ^ e)) (E (.tmp 69)) := hV 11 69 (by kernel_rfl) (by kernel_rfl) (by kernel_rfl)
      have e2 : Means W (.rnum (m ^ e)) (E (.tmp 72)) := hV 14 72 (by kernel_rfl) (by kernel_rfl) (by kernel_rfl)
      clear hE hV
      exact Does.call (w' := W) (by go_simp) ((is_want W _ _ (m ^ e) (by omega) e1 e2).mono fun e w' ⟨v, h1, h2, h3⟩ => ⟨v, h1, h2, h3⟩)
    refine AllWay.cons rfl (fun E W hb hc hf hE hV => ⟨wanted_of (d := 65) (b := false) rfl (by kernel_rfl) (hV 7 65 (by kernel_rfl) (by kernel_rfl) (by kernel_rfl)), ?_⟩) ?_
    · have e1 : E (.tmp 68) = _ := hV 10 68 (by kernel_rfl) (by kernel_rfl) (by kernel_rfl)
      have e2 : E (.tmp 73) = _ := hV 15 73 (by kernel_rfl) (by kernel_rfl) (by kernel_rfl)
      clear hE hV
      exact Does.value (w' := W) (by go_simp) ⟨rfl, Below.refl _ _⟩
    refine AllWay.cons rfl (fun E W hb hc hf hE hV => ⟨rfl, ?_⟩) ?_
    · have e1 : E (.tmp 65) = _ := hV 7 65 (by kernel_rfl) (by kernel_rfl) (by kernel_rfl)
      have e2 : E (.tmp 74) = _ := hV 16 74 (by kernel_rfl) (by kernel_rfl) (by kernel_rfl)
      clear hE hV
      exact Does.value (w' := W) (by go_simp) ⟨rfl, Below.refl _ _⟩
    exact AllWay.nil
  · intro f W hf hb
    have e75 : f 75 = .bool true := hf (17, 75) (by simp)
    have HW := Lib.hid (below_step HB.out hb)
    clear hf hb
    simp only [fillSlots]
    refine wpAny_ready (rs := [18]) (by kernel_rfl) (by simp) ?_
    refine AllReady.cons rfl (fun K hK => ?_) AllReady.nil
    go_simp
    refine hK _ _ ?_; clear hK K
    refine wpAny_done (by kernel_rfl) ?_ _
    go_wp2
    go_ret
    exact ⟨by simp, HW.out⟩

theorem shifts_any (p : Option Addr) (l c : Nat) (n k : Int) (xs : List Nat) (w : World) (hn1 : -9223372036854775808 ≤ n) (hn2 : n ≤ 9223372036854775807) (hk1 : -9223372036854775808 ≤ k) (hk2 : k ≤ 9223372036854775807) (h1 : IsB w p l c xs) :
    Calls Tryd.prog 7 #[.slice p l c, .int .i64 n, .int .i64 k] w fun e w' => e = .returned (.bool true) ∧ Below w.heap.size w w' := by
  obtain ⟨v, hv⟩ : ∃ v : Int, v = n % ((600 : Nat) : Int) - 300 := ⟨_, rfl⟩
  obtain ⟨u, hu⟩ : ∃ u : Int, u = k % ((9 : Nat) : Int) - 1 := ⟨_, rfl⟩
  have a1 := Int.emod_nonneg n (show ((600 : Nat) : Int) ≠ 0 by omega)
  have a2 := Int.emod_lt_of_pos n (show (0 : Int) < ((600 : Nat) : Int) by omega)
  have b1 := Int.emod_nonneg k (show ((9 : Nat) : Int) ≠ 0 by omega)
  have b2 := Int.emod_lt_of_pos k (show (0 : Int) < ((9 : Nat) : Int) by omega)
  have go : ∀ Z : Nat → Nat, (∀ m, (ds m).length ≤ 6 → (ds (Z m)).length ≤ 20) →
      (∀ m, (ds m).length ≤ 6 → ∀ W s p l c, IsN W s p l c m → Calls Tryd.prog 24 #[.agg #[.int .u64 s, .slice p l c], .int .i64 v] W (RetN W (Z m))) →
      (∀ m, (ds m).length ≤ 6 → ∀ W p l c, IsR W p l c m → Calls Tryd.prog 39 #[.slice p l c, .int .i64 v] W (RetR W (Z m))) →
      Calls Tryd.prog 7 #[.slice p l c, .int .i64 n, .int .i64 k] w fun e w' => e = .returned (.bool true) ∧ Below w.heap.size w w' := by
    intro Z hz hS hR
    rcases Int.lt_or_le u 0 with h | h
    · exact shifts_neg p l c n k v u Z xs w hn1 hn2 hk1 hk2 hv hu hz hS hR h1 (by omega)
    · obtain ⟨e, he⟩ := Int.eq_ofNat_of_zero_le h
      exact shifts_pos p l c n k v u Z xs w hn1 hn2 hk1 hk2 hv hu hz hS hR h1 e he (by omega)
  rcases Int.lt_or_le v 0 with h | h
  · obtain ⟨d, hd⟩ := Int.eq_ofNat_of_zero_le (show (0 : Int) ≤ -v by omega)
    have hvd : v = -(d : Int) := by omega
    refine go (fun m => m / 2 ^ d) (fun m hm => Nat.le_trans (ds_mono (Nat.div_le_self _ _)) (by omega)) (fun m hm W s p l c a => ?_) (fun m hm W p l c a => ?_)
    · rw [hvd]
      exact shift_down m d s p l c W (by omega) (by omega) (by omega) a
    · rw [hvd]
      exact rShiftDown_any p l c m d W (by have := a.short hm; omega) (by omega) (by omega) a
  · obtain ⟨d, hd⟩ := Int.eq_ofNat_of_zero_le h
    refine go (fun m => m * 2 ^ d) (fun m hm => ?_) (fun m hm W s p l c a => ?_) (fun m hm W p l c a => ?_)
    · have h1 := ds_mul m (2 ^ d)
      have h2 := ds_pow d
      show (ds (m * 2 ^ d)).length ≤ 20
      omega
    · rw [hd]
      exact shift_up m d s p l c W (by omega) (by omega) a
    · rw [hd]
      exact rShiftUp_any p l c m d W (by have := a.short hm; omega) (by omega) a
end Go.Proofs.YtmhpaadanpianaaDoor
