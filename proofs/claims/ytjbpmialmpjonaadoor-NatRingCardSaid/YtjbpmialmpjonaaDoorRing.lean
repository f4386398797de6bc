/- NatRing: sums and products in any order; a sum less one of its parts. -/
import Derived.Test.YtjbpmialmpjonaaDoorLawKit
import Derived.Test.YtjbpmialmpjonaaDoorEnds
namespace Go.Proofs.YtjbpmialmpjonaaDoor
open Go.RowKit

theorem box_other {W : World} {x b o : Nat} {u v y : Value} (h : W.cell? ⟨x, o, none⟩ = some y) (hx : x ≠ b) : ((W.setCell ⟨b, 0, none⟩ u).setCell ⟨b, 1, none⟩ v).cell? ⟨x, o, none⟩ = some y := by
  rw [World.cell?_setCell_other _ _ _ _ (by intro e; injection e with e; exact hx e.symm), World.cell?_setCell_other _ _ _ _ (by intro e; injection e with e; exact hx e.symm)]; exact h
theorem box_zero {W : World} {b : Nat} {u v y : Value} (h : W.cell? ⟨b, 0, none⟩ = some y) : ((W.setCell ⟨b, 0, none⟩ u).setCell ⟨b, 1, none⟩ v).cell? ⟨b, 0, none⟩ = some u := by
  simp [go_sem, h]
theorem box_one {W : World} {b : Nat} {u v z : Value} (h1 : W.cell? ⟨b, 1, none⟩ = some z) : ((W.setCell ⟨b, 0, none⟩ u).setCell ⟨b, 1, none⟩ v).cell? ⟨b, 1, none⟩ = some v := by
  simp [go_sem, h1]

set_option maxRecDepth 100000 in
set_option maxHeartbeats 8000000 in
theorem ring_any (p q r : Option Addr) (l c k d i j : Nat) (xs ys zs : List Nat) (w : World) (h1 : IsB w p l c xs) (h2 : IsB w q k d ys) (h3 : IsB w r i j zs) :
    Calls Tryd.prog 9 #[.slice p l c, .slice q k d, .slice r i j] w fun e w' => e = .returned (.bool true) ∧ Below w.heap.size w w' := by
  have sm := ds_nb xs h1.2.1
  have sn := ds_nb ys h2.2.1
  have sz := ds_nb zs h3.2.1
  have T1 := Lib.hid (fun w h1 h2 => two_any p q l c k d xs ys w h1 h2)
  have T2 := Lib.hid (fun w h1 h2 => two_any r none i j 0 0 zs [] w h1 h2)
  have H1 := Lib.hid h1; have H2 := Lib.hid h2; have H3 := Lib.hid h3
  clear h1 h2 h3
  generalize nb (xs.take 48) = m at *
  generalize nb (ys.take 48) = n at *
  generalize nb (zs.take 48) = z at *
  generalize nb (List.take 48 []) = o at *
  go_enter Tryd.func9, Tryd.ntmps9
  go_wp2_with fail
  refine (T1.out _ H1.out H2.out).mono ?_
  rintro e w1 ⟨s1, p1, l1, c1, s2, p2, l2, c2, p3, l3, c3, p4, l4, c4, rfl, n1, n2, r1, r2, hb1⟩
  have N1 := Lib.hid n1; have N2 := Lib.hid n2
  clear n1 n2 r1 r2
  go_wp2_with fail
  refine (T2.out _ (H3.out.mono (by repeat' first | exact Below.refl _ _ | refine below_alloc ?_ _ | refine below_step ?_ (by assumption))) ⟨rfl, fun x hx => by simp at hx, Or.inl ⟨rfl, rfl, rfl⟩⟩).mono ?_
  rintro e w2 ⟨s5, p5, l5, c5, s6, p6, l6, c6, p7, l7, c7, p8, l8, c8, rfl, n5, n6, r1, r2, hb2⟩
  have N5 := Lib.hid n5
  clear n5 n6 r1 r2
  obtain ⟨hc2, hf2⟩ := bcell hb2
  go_wp2_with fail
  rename_i K hKK
  have HB : Below w.heap.size w ((w2.alloc (.cells #[.int .u64 s5, .slice p5 l5 c5] 25)).alloc (.cells #[.int .u64 s6, .slice p6 l6 c6] 25)) := (by repeat' first | exact Below.refl _ _ | refine below_alloc ?_ _ | refine below_step ?_ (by assumption))
  have B2 : Below w2.heap.size w2 ((w2.alloc (.cells #[.int .u64 s5, .slice p5 l5 c5] 25)).alloc (.cells #[.int .u64 s6, .slice p6 l6 c6] 25)) := below_alloc (below_alloc (Below.refl _ _) _) _
  have B1 : Below w1.heap.size w1 ((w2.alloc (.cells #[.int .u64 s5, .slice p5 l5 c5] 25)).alloc (.cells #[.int .u64 s6, .slice p6 l6 c6] 25)) := (by repeat' first | exact Below.refl _ _ | refine below_alloc ?_ _ | refine below_step ?_ (by assumption))
  have hz := hb2.size
  simp only [World.size_alloc] at hz
  have A0 : w2.cell? ⟨w1.heap.size, 0, none⟩ = some (.int .u64 s1) := by simp [hc2, go_sem]
  have A1 : w2.cell? ⟨w1.heap.size, 1, none⟩ = some (.slice p1 l1 c1) := by simp [hc2, go_sem]
  have B0 : w2.cell? ⟨w1.heap.size + 1, 0, none⟩ = some (.int .u64 s2) := by simp [hc2, go_sem]
  have B1' : w2.cell? ⟨w1.heap.size + 1, 1, none⟩ = some (.slice p2 l2 c2) := by simp [hc2, go_sem]
  have C0 : ((w2.alloc (.cells #[.int .u64 s5, .slice p5 l5 c5] 25)).alloc (.cells #[.int .u64 s6, .slice p6 l6 c6] 25)).cell? ⟨w2.heap.size, 0, none⟩ = some (.int .u64 s5) := by simp [go_sem]
  have C1 : ((w2.alloc (.cells #[.int .u64 s5, .slice p5 l5 c5] 25)).alloc (.cells #[.int .u64 s6, .slice p6 l6 c6] 25)).cell? ⟨w2.heap.size, 1, none⟩ = some (.slice p5 l5 c5) := by simp [go_sem]
  obtain ⟨w3, hw3⟩ : ∃ w3, w3 = (w2.alloc (.cells #[.int .u64 s5, .slice p5 l5 c5] 25)).alloc (.cells #[.int .u64 s6, .slice p6 l6 c6] 25) := ⟨_, rfl⟩
  rw [← hw3] at HB B2 B1 C0 C1 ⊢
  have NA := Lib.hid (N1.out.mono B1); have NB := Lib.hid (N2.out.mono B1); have NC := Lib.hid (N5.out.mono B2)
  have A0 := wcell B2 A0; have A1 := wcell B2 A1; have B0 := wcell B2 B0; have B1 := wcell B2 B1'
  generalize w1.heap.size = a at *
  generalize w2.heap.size = g at *
  clear hw3 hc2 hf2 hb2 hb1 B2 B1' hz N1 N2 N5 T1 T2 H1 H2 H3
  have S_0 := ds_add m n
  have S_1 := ds_add n m
  have S_2 := ds_mul m n
  have S_3 := ds_mul n m
  have S_4 := ds_add (m + n) z
  have S_5 := ds_add n z
  have S_6 := ds_add m (n + z)
  have S_7 := ds_mul (m * n) z
  have S_8 := ds_mul n z
  have S_9 := ds_mul m (n * z)
  have S_10 := ds_mul m (n + z)
  have S_11 := ds_mul m z
  have S_12 := ds_add (m * n) (m * z)
  have key : ∀ (x0 x1 x2 x3 x4 x5 x6 x9 x10 x12 x13 x14 x17 x18 x19 x20 x21 x22 x23 x24 x25 x26 x27 x28 x29 x30 x31 x32 x33 x34 x35 x36 x37 x38 x39 x40 x41 x42 x43 x44 x45 x46 x47 x48 x49 x50 x51 x52 x53 x54 x55 x56 x57 x58 x59 x60 x61 x62 x63 x64 x65 x66 x67 x68 x69 x70 x71 x72 x73 x74 x75 x76 x77 x78 x79 x80 x81 x82 x83 x84 x85 x86 x87 x88 x89 x90 x91 x92 x93 x94 x95 x96 x97 x98 x99 x100 x101 x102 x103 x104 x105 x106 x107 x108 x109 x110 x111 x112 x113 : Value) (b : Nat) (s9 : Int) (p9 : Option Addr) (l9 c9 : Nat) (W : World), Hid (Below w.heap.size w W) → Hid (IsN W s1 p1 l1 c1 m) → Hid (IsN W s2 p2 l2 c2 n) → Hid (IsN W s5 p5 l5 c5 z) → Hid (IsN W s9 p9 l9 c9 m) →
      W.cell? ⟨a, 0, none⟩ = some (.int .u64 s1) → W.cell? ⟨a, 1, none⟩ = some (.slice p1 l1 c1) → W.cell? ⟨a + 1, 0, none⟩ = some (.int .u64 s2) → W.cell? ⟨a + 1, 1, none⟩ = some (.slice p2 l2 c2) →
      W.cell? ⟨g, 0, none⟩ = some (.int .u64 s5) → W.cell? ⟨g, 1, none⟩ = some (.slice p5 l5 c5) → W.cell? ⟨b, 0, none⟩ = some (.int .u64 s9) → W.cell? ⟨b, 1, none⟩ = some (.slice p9 l9 c9) →
      K { tmps := #[x0, x1, x2, x3, x4, x5, x6, .pointer (some ⟨a, 0, none⟩), .pointer (some ⟨a + 1, 0, none⟩), x9, x10, .pointer (some ⟨g, 0, none⟩), x12, x13, x14, .pointer (some ⟨b, 0, none⟩), .bool true, x17, x18, x19, x20, x21, x22, x23, x24, x25, x26, x27, x28, x29, x30, x31, x32, x33, x34, x35, x36, x37, x38, x39, x40, x41, x42, x43, x44, x45, x46, x47, x48, x49, x50, x51, x52, x53, x54, x55, x56, x57, x58, x59, x60, x61, x62, x63, x64, x65, x66, x67, x68, x69, x70, x71, x72, x73, x74, x75, x76, x77, x78, x79, x80, x81, x82, x83, x84, x85, x86, x87, x88, x89, x90, x91, x92, x93, x94, x95, x96, x97, x98, x99, x100, x101, x102, x103, x104, x105, x106, x107, x108, x109, x110, x111, x112, x113], defers := [] } W := by
    intro x0 x1 x2 x3 x4 x5 x6 x9 x10 x12 x13 x14 x17 x18 x19 x20 x21 x22 x23 x24 x25 x26 x27 x28 x29 x30 x31 x32 x33 x34 x35 x36 x37 x38 x39 x40 x41 x42 x43 x44 x45 x46 x47 x48 x49 x50 x51 x52 x53 x54 x55 x56 x57 x58 x59 x60 x61 x62 x63 x64 x65 x66 x67 x68 x69 x70 x71 x72 x73 x74 x75 x76 x77 x78 x79 x80 x81 x82 x83 x84 x85 x86 x87 x88 x89 x90 x91 x92 x93 x94 x95 x96 x97 x98 x99 x100 x101 x102 x103 x104 x105 x106 x107 x108 x109 x110 x111 x112 x113 b s9 p9 l9 c9 W0 HB NA NB NC ND A0 A1 B0 B1 C0 C1 D0 D1
    refine hKK _ _ ?_
    clear hKK
    go_wp2_with fail
    refine region_phase (T := [0, 1, 2, 3, 4, 5, 6, 7, 8, 9, 10, 11, 12, 13, 14, 15, 16, 17, 18, 19, 20, 21, 22, 23, 24, 25, 26, 27, 28, 29, 30, 31, 32, 33, 34, 35, 36, 37, 38, 39, 40, 41, 42, 43, 44, 45, 46, 47, 48, 49, 50, 51, 52, 53, 54, 55, 56, 57, 58, 59, 60, 61, 62, 63, 64, 65, 66, 67, 68, 69, 70, 71, 72, 73]) (slots := [40, 41, 42, 43, 44, 45, 46, 47, 48, 49, 50, 51, 52, 53, 54, 55, 56, 57, 58, 59, 60, 61, 62, 63, 64, 65, 66, 67, 68, 69, 70, 71, 72, 73, 74, 75, 76, 77, 78, 79, 80, 81, 82, 83, 84, 85, 86, 87, 88, 89, 90, 91, 92, 93, 94, 95, 96, 97, 98, 99, 100, 101, 102, 103, 104, 105, 106, 107, 108, 109, 110, 111, 112, 113]) (fuel := 1) (n := 74) (deps := [0, 1, 2, 2, 14, 2, 2, 114, 146, 258, 514, 1280, 2048, 2048, 14336, 2048, 2048, 116736, 149504, 264192, 526336, 1310720, 2097152, 2097152, 14680064, 2097152, 52428800, 2097152, 2097152, 2097152, 874512384, 1210056704, 2216689664, 4297064448, 8592031744, 21474836480, 34359738368, 34359738368, 240518168576, 34359738368, 858993459200, 34359738368, 34359738368, 34359738368, 14328010899456, 19825569038336, 36318243454976, 70403103916032, 140771848093696, 351843720888320, 562949953421312, 562949953421312, 562949953421312, 7318349394477056, 10696049115004928, 562949953421312, 562949953421312, 126663739519795200, 562949953421312, 562949953421312, 1009369266484412416, 1297599642636124160, 2324420357676597248, 4612248968380809216, 9223934986808197120, 23058430092136939520, 36893488147419103232, 110680464442257309696, 184467440737095516160, 295147905179352825856, 295147905179352825856, 2066035336255469780992, 2656331146614175432704, 5017514388048998039552, 18889465931478580854783]) (Tm := 18889465931478580854783) (Lm := 18889465931478580854783)
        (L := #[true, true, true, true, true, true, true, true, true, true, true, true, true, true, true, true, true, true, true, true, true, true, true, true, true, true, true, true, true, true, true, true, true, true, true, true, true, true, true, true, true, true, true, true, true, true, true, true, true, true, true, true, true, true, true, true, true, true, true, true, true, true, true, true, true, true, true, true, true, true, true, true, true, true, false])
        (V := Tab [.is (.bool true), .is (.bool true), .num m, .num n, .num (m + n), .num n, .num m, .num (n + m), .is (.int .i64 0), .is (.bool true), .is (.bool true), .is (.bool true), .num m, .num n, .num (m * n), .num n, .num m, .num (n * m), .is (.int .i64 0), .is (.bool true), .is (.bool true), .is (.bool true), .num m, .num n, .num (m + n), .num z, .num ((m + n) + z), .num m, .num n, .num z, .num (n + z), .num (m + (n + z)), .is (.int .i64 0), .is (.bool true), .is (.bool true), .is (.bool true), .num m, .num n, .num (m * n), .num z, .num ((m * n) * z), .num m, .num n, .num z, .num (n * z), .num (m * (n * z)), .is (.int .i64 0), .is (.bool true), .is (.bool true), .is (.bool true), .num m, .num n, .num z, .num (n + z), .num (m * (n + z)), .num m, .num n, .num (m * n), .num m, .num z, .num (m * z), .num ((m * n) + (m * z)), .is (.int .i64 0), .is (.bool true), .is (.bool true), .is (.bool true), .is (.bool true), .is (.bool true), .is (.bool true), .num m, .num m, .is (.int .i64 0), .is (.bool true), .is (.bool true)] 0)
        (by kernel_rfl) rfl Tab.stable (by kernel_rfl) (by kernel_rfl) (by kernel_rfl) (by kernel_rfl) (by kernel_rfl) (by kernel_rfl) (by kernel_rfl) ?_ ?_
    · skip
      refine AllGo.cons rfl (fun E W hb hc hf hE hV => ⟨rfl, ?_⟩) ?_
      · clear hE hV
        exact Does.call (w' := W) (by go_simp) ((known_any W).mono fun e w' ⟨h1, h2⟩ => ⟨_, h1, rfl, h2⟩)
      refine AllGo.cons rfl (fun E W hb hc hf hE hV => ⟨rfl, ?_⟩) ?_
      · have e1 : E (.tmp 40) = _ := hV 0 40 (by kernel_rfl) (by kernel_rfl) (by kernel_rfl)
        clear hE hV
        exact Does.value (w' := W) (by go_simp) ⟨rfl, Below.refl _ _⟩
      refine AllGo.cons rfl (fun E W hb hc hf hE hV => ⟨wanted_of (d := 41) (b := true) rfl (by kernel_rfl) (hV 1 41 (by kernel_rfl) (by kernel_rfl) (by kernel_rfl)), ?_⟩) ?_
      · have e1 : E (.tmp 7) = .pointer (some ⟨a, 0, none⟩) := hE 7 (by kernel_rfl)
        have q := wcell hb A0
        have q' := wcell hb A1
        clear hE hV
        exact Does.value (v := .agg #[.int .u64 s1, .slice p1 l1 c1]) (w' := W) (by go_simp) ⟨⟨_, _, _, _, rfl, NA.out.mono hb⟩, Below.refl _ _⟩
      refine AllGo.cons rfl (fun E W hb hc hf hE hV => ⟨wanted_of (d := 41) (b := true) rfl (by kernel_rfl) (hV 1 41 (by kernel_rfl) (by kernel_rfl) (by kernel_rfl)), ?_⟩) ?_
      · have e1 : E (.tmp 8) = .pointer (some ⟨a + 1, 0, none⟩) := hE 8 (by kernel_rfl)
        have q := wcell hb B0
        have q' := wcell hb B1
        clear hE hV
        exact Does.value (v := .agg #[.int .u64 s2, .slice p2 l2 c2]) (w' := W) (by go_simp) ⟨⟨_, _, _, _, rfl, NB.out.mono hb⟩, Below.refl _ _⟩
      refine AllGo.cons rfl (fun E W hb hc hf hE hV => ⟨wanted_of (d := 41) (b := true) rfl (by kernel_rfl) (hV 1 41 (by kernel_rfl) (by kernel_rfl) (by kernel_rfl)), ?_⟩) ?_
      · have e1 : Means W (.num m) (E (.tmp 42)) := hV 2 42 (by kernel_rfl) (by kernel_rfl) (by kernel_rfl)
        have e2 : Means W (.num n) (E (.tmp 43)) := hV 3 43 (by kernel_rfl) (by kernel_rfl) (by kernel_rfl)
        clear hE hV
        exact Does.call (w' := W) (by go_simp) ((add_want W _ _ m n (by omega) (by omega) e1 e2).mono fun e w' ⟨v, h1, h2, h3⟩ => ⟨v, h1, h2, h3⟩)
      refine AllGo.cons rfl (fun E W hb hc hf hE hV => ⟨wanted_of (d := 41) (b := true) rfl (by kernel_rfl) (hV 1 41 (by kernel_rfl) (by kernel_rfl) (by kernel_rfl)), ?_⟩) ?_
      · have e1 : E (.tmp 8) = .pointer (some ⟨a + 1, 0, none⟩) := hE 8 (by kernel_rfl)
        have q := wcell hb B0
        have q' := wcell hb B1
        clear hE hV
        exact Does.value (v := .agg #[.int .u64 s2, .slice p2 l2 c2]) (w' := W) (by go_simp) ⟨⟨_, _, _, _, rfl, NB.out.mono hb⟩, Below.refl _ _⟩
      refine AllGo.cons rfl (fun E W hb hc hf hE hV => ⟨wanted_of (d := 41) (b := true) rfl (by kernel_rfl) (hV 1 41 (by kernel_rfl) (by kernel_rfl) (by kernel_rfl)), ?_⟩) ?_
      · have e1 : E (.tmp 7) = .pointer (some ⟨a, 0, none⟩) := hE 7 (by kernel_rfl)
        have q := wcell hb A0
        have q' := wcell hb A1
        clear hE hV
        exact Does.value (v := .agg #[.int .u64 s1, .slice p1 l1 c1]) (w' := W) (by go_simp) ⟨⟨_, _, _, _, rfl, NA.out.mono hb⟩, Below.refl _ _⟩
      refine AllGo.cons rfl (fun E W hb hc hf hE hV => ⟨wanted_of (d := 41) (b := true) rfl (by kernel_rfl) (hV 1 41 (by kernel_rfl) (by kernel_rfl) (by kernel_rfl)), ?_⟩) ?_
      · have e1 : Means W (.num n) (E (.tmp 45)) := hV 5 45 (by kernel_rfl) (by kernel_rfl) (by kernel_rfl)
        have e2 : Means W (.num m) (E (.tmp 46)) := hV 6 46 (by kernel_rfl) (by kernel_rfl) (by kernel_rfl)
        clear hE hV
        exact Does.call (w' := W) (by go_simp) ((add_want W _ _ n m (by omega) (by omega) e1 e2).mono fun e w' ⟨v, h1, h2, h3⟩ => ⟨v, h1, h2, h3⟩)
      refine AllGo.cons rfl (fun E W hb hc hf hE hV => ⟨wanted_of (d := 41) (b := true) rfl (by kernel_rfl) (hV 1 41 (by kernel_rfl) (by kernel_rfl) (by kernel_rfl)), ?_⟩) ?_
      · have e1 : Means W (.num (m + n)) (E (.tmp 44)) := hV 4 44 (by kernel_rfl) (by kernel_rfl) (by kernel_rfl)
        have e2 : Means W (.num (n + m)) (E (.tmp 47)) := hV 7 47 (by kernel_rfl) (by kernel_rfl) (by kernel_rfl)
        clear hE hV
        exact Does.call (w' := W) (by go_simp) ((cmp_want W _ _ (m + n) (n + m) (by omega) e1 e2).mono fun e w' ⟨v, h1, h2, h3⟩ => ⟨v, h1, h2.trans (by rw [show (m + n : Nat) = n + m from Nat.add_comm _ _, cmp3_eq]), h3⟩)
      refine AllGo.cons rfl (fun E W hb hc hf hE hV => ⟨wanted_of (d := 41) (b := true) rfl (by kernel_rfl) (hV 1 41 (by kernel_rfl) (by kernel_rfl) (by kernel_rfl)), ?_⟩) ?_
      · have e1 : E (.tmp 48) = _ := hV 8 48 (by kernel_rfl) (by kernel_rfl) (by kernel_rfl)
        clear hE hV
        exact Does.value (w' := W) (by go_simp) ⟨rfl, Below.refl _ _⟩
      refine AllGo.cons rfl (fun E W hb hc hf hE hV => ⟨rfl, ?_⟩) ?_
      · have e1 : E (.tmp 41) = _ := hV 1 41 (by kernel_rfl) (by kernel_rfl) (by kernel_rfl)
        have e2 : E (.tmp 49) = _ := hV 9 49 (by kernel_rfl) (by kernel_rfl) (by kernel_rfl)
        clear hE hV
        exact Does.value (w' := W) (by go_simp) ⟨rfl, Below.refl _ _⟩
      refine AllGo.cons rfl (fun E W hb hc hf hE hV => ⟨rfl, ?_⟩) ?_
      · have e1 : E (.tmp 50) = _ := hV 10 50 (by kernel_rfl) (by kernel_rfl) (by kernel_rfl)
        clear hE hV
        exact Does.value (w' := W) (by go_simp) ⟨rfl, Below.refl _ _⟩
      refine AllGo.cons rfl (fun E W hb hc hf hE hV => ⟨wanted_of (d := 51) (b := true) rfl (by kernel_rfl) (hV 11 51 (by kernel_rfl) (by kernel_rfl) (by kernel_rfl)), ?_⟩) ?_
      · have e1 : E (.tmp 7) = .pointer (some ⟨a, 0, none⟩) := hE 7 (by kernel_rfl)
        have q := wcell hb A0
        have q' := wcell hb A1
        clear hE hV
        exact Does.value (v := .agg #[.int .u64 s1, .slice p1 l1 c1]) (w' := W) (by go_simp) ⟨⟨_, _, _, _, rfl, NA.out.mono hb⟩, Below.refl _ _⟩
      refine AllGo.cons rfl (fun E W hb hc hf hE hV => ⟨wanted_of (d := 51) (b := true) rfl (by kernel_rfl) (hV 11 51 (by kernel_rfl) (by kernel_rfl) (by kernel_rfl)), ?_⟩) ?_
      · have e1 : E (.tmp 8) = .pointer (some ⟨a + 1, 0, none⟩) := hE 8 (by kernel_rfl)
        have q := wcell hb B0
        have q' := wcell hb B1
        clear hE hV
        exact Does.value (v := .agg #[.int .u64 s2, .slice p2 l2 c2]) (w' := W) (by go_simp) ⟨⟨_, _, _, _, rfl, NB.out.mono hb⟩, Below.refl _ _⟩
      refine AllGo.cons rfl (fun E W hb hc hf hE hV => ⟨wanted_of (d := 51) (b := true) rfl (by kernel_rfl) (hV 11 51 (by kernel_rfl) (by kernel_rfl) (by kernel_rfl)), ?_⟩) ?_
      · have e1 : Means W (.num m) (E (.tmp 52)) := hV 12 52 (by kernel_rfl) (by kernel_rfl) (by kernel_rfl)
        have e2 : Means W (.num n) (E (.tmp 53)) := hV 13 53 (by kernel_rfl) (by kernel_rfl) (by kernel_rfl)
        clear hE hV
        exact Does.call (w' := W) (by go_simp) ((mul_want W _ _ m n (by omega) (by omega) e1 e2).mono fun e w' ⟨v, h1, h2, h3⟩ => ⟨v, h1, h2, h3⟩)
      refine AllGo.cons rfl (fun E W hb hc hf hE hV => ⟨wanted_of (d := 51) (b := true) rfl (by kernel_rfl) (hV 11 51 (by kernel_rfl) (by kernel_rfl) (by kernel_rfl)), ?_⟩) ?_
      · have e1 : E (.tmp 8) = .pointer (some ⟨a + 1, 0, none⟩) := hE 8 (by kernel_rfl)
        have q := wcell hb B0
        have q' := wcell hb B1
        clear hE hV
        exact Does.value (v := .agg #[.int .u64 s2, .slice p2 l2 c2]) (w' := W) (by go_simp) ⟨⟨_, _, _, _, rfl, NB.out.mono hb⟩, Below.refl _ _⟩
      refine AllGo.cons rfl (fun E W hb hc hf hE hV => ⟨wanted_of (d := 51) (b := true) rfl (by kernel_rfl) (hV 11 51 (by kernel_rfl) (by kernel_rfl) (by kernel_rfl)), ?_⟩) ?_
      · have e1 : E (.tmp 7) = .pointer (some ⟨a, 0, none⟩) := hE 7 (by kernel_rfl)
        have q := wcell hb A0
        have q' := wcell hb A1
        clear hE hV
        exact Does.value (v := .agg #[.int .u64 s1, .slice p1 l1 c1]) (w' := W) (by go_simp) ⟨⟨_, _, _, _, rfl, NA.out.mono hb⟩, Below.refl _ _⟩
      refine AllGo.cons rfl (fun E W hb hc hf hE hV => ⟨wanted_of (d := 51) (b := true) rfl (by kernel_rfl) (hV 11 51 (by kernel_rfl) (by kernel_rfl) (by kernel_rfl)), ?_⟩) ?_
      · have e1 : Means W (.num n) (E (.tmp 55)) := hV 15 55 (by kernel_rfl) (by kernel_rfl) (by kernel_rfl)
        have e2 : Means W (.num m) (E (.tmp 56)) := hV 16 56 (by kernel_rfl) (by kernel_rfl) (by kernel_rfl)
        clear hE hV
        exact Does.call (w' := W) (by go_simp) ((mul_want W _ _ n m (by omega) (by omega) e1 e2).mono fun e w' ⟨v, h1, h2, h3⟩ => ⟨v, h1, h2, h3⟩)
      refine AllGo.cons rfl (fun E W hb hc hf hE hV => ⟨wanted_of (d := 51) (b := true) rfl (by kernel_rfl) (hV 11 51 (by kernel_rfl) (by kernel_rfl) (by kernel_rfl)), ?_⟩) ?_
      · have e1 : Means W (.num (m * n)) (E (.tmp 54)) := hV 14 54 (by kernel_rfl) (by kernel_rfl) (by kernel_rfl)
        have e2 : Means W (.num (n * m)) (E (.tmp 57)) := hV 17 57 (by kernel_rfl) (by kernel_rfl) (by kernel_rfl)
        clear hE hV
        exact Does.call (w' := W) (by go_simp) ((cmp_want W _ _ (m * n) (n * m) (by omega) e1 e2).mono fun e w' ⟨v, h1, h2, h3⟩ => ⟨v, h1, h2.trans (by rw [show (m * n : Nat) = n * m from Nat.mul_comm _ _, cmp3_eq]), h3⟩)
      refine AllGo.cons rfl (fun E W hb hc hf hE hV => ⟨wanted_of (d := 51) (b := true) rfl (by kernel_rfl) (hV 11 51 (by kernel_rfl) (by kernel_rfl) (by kernel_rfl)), ?_⟩) ?_
      · have e1 : E (.tmp 58) = _ := hV 18 58 (by kernel_rfl) (by kernel_rfl) (by kernel_rfl)
        clear hE hV
        exact Does.value (w' := W) (by go_simp) ⟨rfl, Below.refl _ _⟩
      refine AllGo.cons rfl (fun E W hb hc hf hE hV => ⟨rfl, ?_⟩) ?_
      · have e1 : E (.tmp 51) = _ := hV 11 51 (by kernel_rfl) (by kernel_rfl) (by kernel_rfl)
        have e2 : E (.tmp 59) = _ := hV 19 59 (by kernel_rfl) (by kernel_rfl) (by kernel_rfl)
        clear hE hV
        exact Does.value (w' := W) (by go_simp) ⟨rfl, Below.refl _ _⟩
      refine AllGo.cons rfl (fun E W hb hc hf hE hV => ⟨rfl, ?_⟩) ?_
      · have e1 : E (.tmp 60) = _ := hV 20 60 (by kernel_rfl) (by kernel_rfl) (by kernel_rfl)
        clear hE hV
        exact Does.value (w' := W) (by go_simp) ⟨rfl, Below.refl _ _⟩
      refine AllGo.cons rfl (fun E W hb hc hf hE hV => ⟨wanted_of (d := 61) (b := true) rfl (by kernel_rfl) (hV 21 61 (by kernel_rfl) (by kernel_rfl) (by kernel_rfl)), ?_⟩) ?_
      · have e1 : E (.tmp 7) = .pointer (some ⟨a, 0, none⟩) := hE 7 (by kernel_rfl)
        have q := wcell hb A0
        have q' := wcell hb A1
        clear hE hV
        exact Does.value (v := .agg #[.int .u64 s1, .slice p1 l1 c1]) (w' := W) (by go_simp) ⟨⟨_, _, _, _, rfl, NA.out.mono hb⟩, Below.refl _ _⟩
      refine AllGo.cons rfl (fun E W hb hc hf hE hV => ⟨wanted_of (d := 61) (b := true) rfl (by kernel_rfl) (hV 21 61 (by kernel_rfl) (by kernel_rfl) (by kernel_rfl)), ?_⟩) ?_
      · have e1 : E (.tmp 8) = .pointer (some ⟨a + 1, 0, none⟩) := hE 8 (by kernel_rfl)
        have q := wcell hb B0
        have q' := wcell hb B1
        clear hE hV
        exact Does.value (v := .agg #[.int .u64 s2, .slice p2 l2 c2]) (w' := W) (by go_simp) ⟨⟨_, _, _, _, rfl, NB.out.mono hb⟩, Below.refl _ _⟩
      refine AllGo.cons rfl (fun E W hb hc hf hE hV => ⟨wanted_of (d := 61) (b := true) rfl (by kernel_rfl) (hV 21 61 (by kernel_rfl) (by kernel_rfl) (by kernel_rfl)), ?_⟩) ?_
      · have e1 : Means W (.num m) (E (.tmp 62)) := hV 22 62 (by kernel_rfl) (by kernel_rfl) (by kernel_rfl)
        have e2 : Means W (.num n) (E (.tmp 63)) := hV 23 63 (by kernel_rfl) (by kernel_rfl) (by kernel_rfl)
        clear hE hV
        exact Does.call (w' := W) (by go_simp) ((add_want W _ _ m n (by omega) (by omega) e1 e2).mono fun e w' ⟨v, h1, h2, h3⟩ => ⟨v, h1, h2, h3⟩)
      refine AllGo.cons rfl (fun E W hb hc hf hE hV => ⟨wanted_of (d := 61) (b := true) rfl (by kernel_rfl) (hV 21 61 (by kernel_rfl) (by kernel_rfl) (by kernel_rfl)), ?_⟩) ?_
      · have e1 : E (.tmp 11) = .pointer (some ⟨g, 0, none⟩) := hE 11 (by kernel_rfl)
        have q := wcell hb C0
        have q' := wcell hb C1
        clear hE hV
        exact Does.value (v := .agg #[.int .u64 s5, .slice p5 l5 c5]) (w' := W) (by go_simp) ⟨⟨_, _, _, _, rfl, NC.out.mono hb⟩, Below.refl _ _⟩
      refine AllGo.cons rfl (fun E W hb hc hf hE hV => ⟨wanted_of (d := 61) (b := true) rfl (by kernel_rfl) (hV 21 61 (by kernel_rfl) (by kernel_rfl) (by kernel_rfl)), ?_⟩) ?_
      · have e1 : Means W (.num (m + n)) (E (.tmp 64)) := hV 24 64 (by kernel_rfl) (by kernel_rfl) (by kernel_rfl)
        have e2 : Means W (.num z) (E (.tmp 65)) := hV 25 65 (by kernel_rfl) (by kernel_rfl) (by kernel_rfl)
        clear hE hV
        exact Does.call (w' := W) (by go_simp) ((add_want W _ _ (m + n) z (by omega) (by omega) e1 e2).mono fun e w' ⟨v, h1, h2, h3⟩ => ⟨v, h1, h2, h3⟩)
      refine AllGo.cons rfl (fun E W hb hc hf hE hV => ⟨wanted_of (d := 61) (b := true) rfl (by kernel_rfl) (hV 21 61 (by kernel_rfl) (by kernel_rfl) (by kernel_rfl)), ?_⟩) ?_
      · have e1 : E (.tmp 7) = .pointer (some ⟨a, 0, none⟩) := hE 7 (by kernel_rfl)
        have q := wcell hb A0
        have q' := wcell hb A1
        clear hE hV
        exact Does.value (v := .agg #[.int .u64 s1, .slice p1 l1 c1]) (w' := W) (by go_simp) ⟨⟨_, _, _, _, rfl, NA.out.mono hb⟩, Below.refl _ _⟩
      refine AllGo.cons rfl (fun E W hb hc hf hE hV => ⟨wanted_of (d := 61) (b := true) rfl (by kernel_rfl) (hV 21 61 (by kernel_rfl) (by kernel_rfl) (by kernel_rfl)), ?_⟩) ?_
      · have e1 : E (.tmp 8) = .pointer (some ⟨a + 1, 0, none⟩) := hE 8 (by kernel_rfl)
        have q := wcell hb B0
        have q' := wcell hb B1
        clear hE hV
        exact Does.value (v := .agg #[.int .u64 s2, .slice p2 l2 c2]) (w' := W) (by go_simp) ⟨⟨_, _, _, _, rfl, NB.out.mono hb⟩, Below.refl _ _⟩
      refine AllGo.cons rfl (fun E W hb hc hf hE hV => ⟨wanted_of (d := 61) (b := true) rfl (by kernel_rfl) (hV 21 61 (by kernel_rfl) (by kernel_rfl) (by kernel_rfl)), ?_⟩) ?_
      · have e1 : E (.tmp 11) = .pointer (some ⟨g, 0, none⟩) := hE 11 (by kernel_rfl)
        have q := wcell hb C0
        have q' := wcell hb C1
        clear hE hV
        exact Does.value (v := .agg #[.int .u64 s5, .slice p5 l5 c5]) (w' := W) (by go_simp) ⟨⟨_, _, _, _, rfl, NC.out.mono hb⟩, Below.refl _ _⟩
      refine AllGo.cons rfl (fun E W hb hc hf hE hV => ⟨wanted_of (d := 61) (b := true) rfl (by kernel_rfl) (hV 21 61 (by kernel_rfl) (by kernel_rfl) (by kernel_rfl)), ?_⟩) ?_
      · have e1 : Means W (.num n) (E (.tmp 68)) := hV 28 68 (by kernel_rfl) (by kernel_rfl) (by kernel_rfl)
        have e2 : Means W (.num z) (E (.tmp 69)) := hV 29 69 (by kernel_rfl) (by kernel_rfl) (by kernel_rfl)
        clear hE hV
        exact Does.call (w' := W) (by go_simp) ((add_want W _ _ n z (by omega) (by omega) e1 e2).mono fun e w' ⟨v, h1, h2, h3⟩ => ⟨v, h1, h2, h3⟩)
      refine AllGo.cons rfl (fun E W hb hc hf hE hV => ⟨wanted_of (d := 61) (b := true) rfl (by kernel_rfl) (hV 21 61 (by kernel_rfl) (by kernel_rfl) (by kernel_rfl)), ?_⟩) ?_
      · have e1 : Means W (.num m) (E (.tmp 67)) := hV 27 67 (by kernel_rfl) (by kernel_rfl) (by kernel_rfl)
        have e2 : Means W (.num (n + z)) (E (.tmp 70)) := hV 30 70 (by kernel_rfl) (by kernel_rfl) (by kernel_rfl)
        clear hE hV
        exact Does.call (w' := W) (by go_simp) ((add_want W _ _ m (n + z) (by omega) (by omega) e1 e2).mono fun e w' ⟨v, h1, h2, h3⟩ => ⟨v, h1, h2, h3⟩)
      refine AllGo.cons rfl (fun E W hb hc hf hE hV => ⟨wanted_of (d := 61) (b := true) rfl (by kernel_rfl) (hV 21 61 (by kernel_rfl) (by kernel_rfl) (by kernel_rfl)), ?_⟩) ?_
      · have e1 : Means W (.num ((m + n) + z)) (E (.tmp 66)) := hV 26 66 (by kernel_rfl) (by kernel_rfl) (by kernel_rfl)
        have e2 : Means W (.num (m + (n + z))) (E (.tmp 71)) := hV 31 71 (by kernel_rfl) (by kernel_rfl) (by kernel_rfl)
        clear hE hV
        exact Does.call (w' := W) (by go_simp) ((cmp_want W _ _ ((m + n) + z) (m + (n + z)) (by omega) e1 e2).mono fun e w' ⟨v, h1, h2, h3⟩ => ⟨v, h1, h2.trans (by rw [show ((m + n) + z : Nat) = m + (n + z) from Nat.add_assoc _ _ _, cmp3_eq]), h3⟩)
      refine AllGo.cons rfl (fun E W hb hc hf hE hV => ⟨wanted_of (d := 61) (b := true) rfl (by kernel_rfl) (hV 21 61 (by kernel_rfl) (by kernel_rfl) (by kernel_rfl)), ?_⟩) ?_
      · have e1 : E (.tmp 72) = _ := hV 32 72 (by kernel_rfl) (by kernel_rfl) (by kernel_rfl)
        clear hE hV
        exact Does.value (w' := W) (by go_simp) ⟨rfl, Below.refl _ _⟩
      refine AllGo.cons rfl (fun E W hb hc hf hE hV => ⟨rfl, ?_⟩) ?_
      · have e1 : E (.tmp 61) = _ := hV 21 61 (by kernel_rfl) (by kernel_rfl) (by kernel_rfl)
        have e2 : E (.tmp 73) = _ := hV 33 73 (by kernel_rfl) (by kernel_rfl) (by kernel_rfl)
        clear hE hV
        exact Does.value (w' := W) (by go_simp) ⟨rfl, Below.refl _ _⟩
      refine AllGo.cons rfl (fun E W hb hc hf hE hV => ⟨rfl, ?_⟩) ?_
      · have e1 : E (.tmp 74) = _ := hV 34 74 (by kernel_rfl) (by kernel_rfl) (by kernel_rfl)
        clear hE hV
        exact Does.value (w' := W) (by go_simp) ⟨rfl, Below.refl _ _⟩
      refine AllGo.cons rfl (fun E W hb hc hf hE hV => ⟨wanted_of (d := 75) (b := true) rfl (by kernel_rfl) (hV 35 75 (by kernel_rfl) (by kernel_rfl) (by kernel_rfl)), ?_⟩) ?_
      · have e1 : E (.tmp 7) = .pointer (some ⟨a, 0, none⟩) := hE 7 (by kernel_rfl)
        have q := wcell hb A0
        have q' := wcell hb A1
        clear hE hV
        exact Does.value (v := .agg #[.int .u64 s1, .slice p1 l1 c1]) (w' := W) (by go_simp) ⟨⟨_, _, _, _, rfl, NA.out.mono hb⟩, Below.refl _ _⟩
      refine AllGo.cons rfl (fun E W hb hc hf hE hV => ⟨wanted_of (d := 75) (b := true) rfl (by kernel_rfl) (hV 35 75 (by kernel_rfl) (by kernel_rfl) (by kernel_rfl)), ?_⟩) ?_
      · have e1 : E (.tmp 8) = .pointer (some ⟨a + 1, 0, none⟩) := hE 8 (by kernel_rfl)
        have q := wcell hb B0
        have q' := wcell hb B1
        clear hE hV
        exact Does.value (v := .agg #[.int .u64 s2, .slice p2 l2 c2]) (w' := W) (by go_simp) ⟨⟨_, _, _, _, rfl, NB.out.mono hb⟩, Below.refl _ _⟩
      refine AllGo.cons rfl (fun E W hb hc hf hE hV => ⟨wanted_of (d := 75) (b := true) rfl (by kernel_rfl) (hV 35 75 (by kernel_rfl) (by kernel_rfl) (by kernel_rfl)), ?_⟩) ?_
      · have e1 : Means W (.num m) (E (.tmp 76)) := hV 36 76 (by kernel_rfl) (by kernel_rfl) (by kernel_rfl)
        have e2 : Means W (.num n) (E (.tmp 77)) := hV 37 77 (by kernel_rfl) (by kernel_rfl) (by kernel_rfl)
        clear hE hV
        exact Does.call (w' := W) (by go_simp) ((mul_want W _ _ m n (by omega) (by omega) e1 e2).mono fun e w' ⟨v, h1, h2, h3⟩ => ⟨v, h1, h2, h3⟩)
      refine AllGo.cons rfl (fun E W hb hc hf hE hV => ⟨wanted_of (d := 75) (b := true) rfl (by kernel_rfl) (hV 35 75 (by kernel_rfl) (by kernel_rfl) (by kernel_rfl)), ?_⟩) ?_
      · have e1 : E (.tmp 11) = .pointer (some ⟨g, 0, none⟩) := hE 11 (by kernel_rfl)
        have q := wcell hb C0
        have q' := wcell hb C1
        clear hE hV
        exact Does.value (v := .agg #[.int .u64 s5, .slice p5 l5 c5]) (w' := W) (by go_simp) ⟨⟨_, _, _, _, rfl, NC.out.mono hb⟩, Below.refl _ _⟩
      refine AllGo.cons rfl (fun E W hb hc hf hE hV => ⟨wanted_of (d := 75) (b := true) rfl (by kernel_rfl) (hV 35 75 (by kernel_rfl) (by kernel_rfl) (by kernel_rfl)), ?_⟩) ?_
      · have e1 : Means W (.num (m * n)) (E (.tmp 78)) := hV 38 78 (by kernel_rfl) (by kernel_rfl) (by kernel_rfl)
        have e2 : Means W (.num z) (E (.tmp 79)) := hV 39 79 (by kernel_rfl) (by kernel_rfl) (by kernel_rfl)
        clear hE hV
        exact Does.call (w' := W) (by go_simp) ((mul_want W _ _ (m * n) z (by omega) (by omega) e1 e2).mono fun e w' ⟨v, h1, h2, h3⟩ => ⟨v, h1, h2, h3⟩)
      refine AllGo.cons rfl (fun E W hb hc hf hE hV => ⟨wanted_of (d := 75) (b := true) rfl (by kernel_rfl) (hV 35 75 (by kernel_rfl) (by kernel_rfl) (by kernel_rfl)), ?_⟩) ?_
      · have e1 : E (.tmp 7) = .pointer (some ⟨a, 0, none⟩) := hE 7 (by kernel_rfl)
        have q := wcell hb A0
        have q' := wcell hb A1
        clear hE hV
        exact Does.value (v := .agg #[.int .u64 s1, .slice p1 l1 c1]) (w' := W) (by go_simp) ⟨⟨_, _, _, _, rfl, NA.out.mono hb⟩, Below.refl _ _⟩
      refine AllGo.cons rfl (fun E W hb hc hf hE hV => ⟨wanted_of (d := 75) (b := true) rfl (by kernel_rfl) (hV 35 75 (by kernel_rfl) (by kernel_rfl) (by kernel_rfl)), ?_⟩) ?_
      · have e1 : E (.tmp 8) = .pointer (some ⟨a + 1, 0, none⟩) := hE 8 (by kernel_rfl)
        have q := wcell hb B0
        have q' := wcell hb B1
        clear hE hV
        exact Does.value (v := .agg #[.int .u64 s2, .slice p2 l2 c2]) (w' := W) (by go_simp) ⟨⟨_, _, _, _, rfl, NB.out.mono hb⟩, Below.refl _ _⟩
      refine AllGo.cons rfl (fun E W hb hc hf hE hV => ⟨wanted_of (d := 75) (b := true) rfl (by kernel_rfl) (hV 35 75 (by kernel_rfl) (by kernel_rfl) (by kernel_rfl)), ?_⟩) ?_
      · have e1 : E (.tmp 11) = .pointer (some ⟨g, 0, none⟩) := hE 11 (by kernel_rfl)
        have q := wcell hb C0
        have q' := wcell hb C1
        clear hE hV
        exact Does.value (v := .agg #[.int .u64 s5, .slice p5 l5 c5]) (w' := W) (by go_simp) ⟨⟨_, _, _, _, rfl, NC.out.mono hb⟩, Below.refl _ _⟩
      refine AllGo.cons rfl (fun E W hb hc hf hE hV => ⟨wanted_of (d := 75) (b := true) rfl (by kernel_rfl) (hV 35 75 (by kernel_rfl) (by kernel_rfl) (by kernel_rfl)), ?_⟩) ?_
      · have e1 : Means W (.num n) (E (.tmp 82)) := hV 42 82 (by kernel_rfl) (by kernel_rfl) (by kernel_rfl)
        have e2 : Means W (.num z) (E (.tmp 83)) := hV 43 83 (by kernel_rfl) (by kernel_rfl) (by kernel_rfl)
        clear hE hV
        exact Does.call (w' := W) (by go_simp) ((mul_want W _ _ n z (by omega) (by omega) e1 e2).mono fun e w' ⟨v, h1, h2, h3⟩ => ⟨v, h1, h2, h3⟩)
      refine AllGo.cons rfl (fun E W hb hc hf hE hV => ⟨wanted_of (d := 75) (b := true) rfl (by kernel_rfl) (hV 35 75 (by kernel_rfl) (by kernel_rfl) (by kernel_rfl)), ?_⟩) ?_
      · have e1 : Means W (.num m) (E (.tmp 81)) := hV 41 81 (by kernel_rfl) (by kernel_rfl) (by kernel_rfl)
        have e2 : Means W (.num (n * z)) (E (.tmp 84)) := hV 44 84 (by kernel_rfl) (by kernel_rfl) (by kernel_rfl)
        clear hE hV
        exact Does.call (w' := W) (by go_simp) ((mul_want W _ _ m (n * z) (by omega) (by omega) e1 e2).mono fun e w' ⟨v, h1, h2, h3⟩ => ⟨v, h1, h2, h3⟩)
      refine AllGo.cons rfl (fun E W hb hc hf hE hV => ⟨wanted_of (d := 75) (b := true) rfl (by kernel_rfl) (hV 35 75 (by kernel_rfl) (by kernel_rfl) (by kernel_rfl)), ?_⟩) ?_
      · have e1 : Means W (.num ((m * n) * z)) (E (.tmp 80)) := hV 40 80 (by kernel_rfl) (by kernel_rfl) (by kernel_rfl)
        have e2 : Means W (.num (m * (n * z))) (E (.tmp 85)) := hV 45 85 (by kernel_rfl) (by kernel_rfl) (by kernel_rfl)
        clear hE hV
        exact Does.call (w' := W) (by go_simp) ((cmp_want W _ _ ((m * n) * z) (m * (n * z)) (by omega) e1 e2).mono fun e w' ⟨v, h1, h2, h3⟩ => ⟨v, h1, h2.trans (by rw [show ((m * n) * z : Nat) = m * (n * z) from Nat.mul_assoc _ _ _, cmp3_eq]), h3⟩)
      refine AllGo.cons rfl (fun E W hb hc hf hE hV => ⟨wanted_of (d := 75) (b := true) rfl (by kernel_rfl) (hV 35 75 (by kernel_rfl) (by kernel_rfl) (by kernel_rfl)), ?_⟩) ?_
      · have e1 : E (.tmp 86) = _ := hV 46 86 (by kernel_rfl) (by kernel_rfl) (by kernel_rfl)
        clear hE hV
        exact Does.value (w' := W) (by go_simp) ⟨rfl, Below.refl _ _⟩
      refine AllGo.cons rfl (fun E W hb hc hf hE hV => ⟨rfl, ?_⟩) ?_
      · have e1 : E (.tmp 75) = _ := hV 35 75 (by kernel_rfl) (by kernel_rfl) (by kernel_rfl)
        have e2 : E (.tmp 87) = _ := hV 47 87 (by kernel_rfl) (by kernel_rfl) (by kernel_rfl)
        clear hE hV
        exact Does.value (w' := W) (by go_simp) ⟨rfl, Below.refl _ _⟩
      refine AllGo.cons rfl (fun E W hb hc hf hE hV => ⟨rfl, ?_⟩) ?_
      · have e1 : E (.tmp 88) = _ := hV 48 88 (by kernel_rfl) (by kernel_rfl) (by kernel_rfl)
        clear hE hV
        exact Does.value (w' := W) (by go_simp) ⟨rfl, Below.refl _ _⟩
      refine AllGo.cons rfl (fun E W hb hc hf hE hV => ⟨wanted_of (d := 89) (b := true) rfl (by kernel_rfl) (hV 49 89 (by kernel_rfl) (by kernel_rfl) (by kernel_rfl)), ?_⟩) ?_
      · have e1 : E (.tmp 7) = .pointer (some ⟨a, 0, none⟩) := hE 7 (by kernel_rfl)
        have q := wcell hb A0
        have q' := wcell hb A1
        clear hE hV
        exact Does.value (v := .agg #[.int .u64 s1, .slice p1 l1 c1]) (w' := W) (by go_simp) ⟨⟨_, _, _, _, rfl, NA.out.mono hb⟩, Below.refl _ _⟩
      refine AllGo.cons rfl (fun E W hb hc hf hE hV => ⟨wanted_of (d := 89) (b := true) rfl (by kernel_rfl) (hV 49 89 (by kernel_rfl) (by kernel_rfl) (by kernel_rfl)), ?_⟩) ?_
      · have e1 : E (.tmp 8) = .pointer (some ⟨a + 1, 0, none⟩) := hE 8 (by kernel_rfl)
        have q := wcell hb B0
        have q' := wcell hb B1
        clear hE hV
        exact Does.value (v := .agg #[.int .u64 s2, .slice p2 l2 c2]) (w' := W) (by go_simp) ⟨⟨_, _, _, _, rfl, NB.out.mono hb⟩, Below.refl _ _⟩
      refine AllGo.cons rfl (fun E W hb hc hf hE hV => ⟨wanted_of (d := 89) (b := true) rfl (by kernel_rfl) (hV 49 89 (by kernel_rfl) (by kernel_rfl) (by kernel_rfl)), ?_⟩) ?_
      · have e1 : E (.tmp 11) = .pointer (some ⟨g, 0, none⟩) := hE 11 (by kernel_rfl)
        have q := wcell hb C0
        have q' := wcell hb C1
        clear hE hV
        exact Does.value (v := .agg #[.int .u64 s5, .slice p5 l5 c5]) (w' := W) (by go_simp) ⟨⟨_, _, _, _, rfl, NC.out.mono hb⟩, Below.refl _ _⟩
      refine AllGo.cons rfl (fun E W hb hc hf hE hV => ⟨wanted_of (d := 89) (b := true) rfl (by kernel_rfl) (hV 49 89 (by kernel_rfl) (by kernel_rfl) (by kernel_rfl)), ?_⟩) ?_
      · have e1 : Means W (.num n) (E (.tmp 91)) := hV 51 91 (by kernel_rfl) (by kernel_rfl) (by kernel_rfl)
        have e2 : Means W (.num z) (E (.tmp 92)) := hV 52 92 (by kernel_rfl) (by kernel_rfl) (by kernel_rfl)
        clear hE hV
        exact Does.call (w' := W) (by go_simp) ((add_want W _ _ n z (by omega) (by omega) e1 e2).mono fun e w' ⟨v, h1, h2, h3⟩ => ⟨v, h1, h2, h3⟩)
      refine AllGo.cons rfl (fun E W hb hc hf hE hV => ⟨wanted_of (d := 89) (b := true) rfl (by kernel_rfl) (hV 49 89 (by kernel_rfl) (by kernel_rfl) (by kernel_rfl)), ?_⟩) ?_
      · have e1 : Means W (.num m) (E (.tmp 90)) := hV 50 90 (by kernel_rfl) (by kernel_rfl) (by kernel_rfl)
        have e2 : Means W (.num (n + z)) (E (.tmp 93)) := hV 53 93 (by kernel_rfl) (by kernel_rfl) (by kernel_rfl)
        clear hE hV
        exact Does.call (w' := W) (by go_simp) ((mul_want W _ _ m (n + z) (by omega) (by omega) e1 e2).mono fun e w' ⟨v, h1, h2, h3⟩ => ⟨v, h1, h2, h3⟩)
      refine AllGo.cons rfl (fun E W hb hc hf hE hV => ⟨wanted_of (d := 89) (b := true) rfl (by kernel_rfl) (hV 49 89 (by kernel_rfl) (by kernel_rfl) (by kernel_rfl)), ?_⟩) ?_
      · have e1 : E (.tmp 7) = .pointer (some ⟨a, 0, none⟩) := hE 7 (by kernel_rfl)
        have q := wcell hb A0
        have q' := wcell hb A1
        clear hE hV
        exact Does.value (v := .agg #[.int .u64 s1, .slice p1 l1 c1]) (w' := W) (by go_simp) ⟨⟨_, _, _, _, rfl, NA.out.mono hb⟩, Below.refl _ _⟩
      refine AllGo.cons rfl (fun E W hb hc hf hE hV => ⟨wanted_of (d := 89) (b := true) rfl (by kernel_rfl) (hV 49 89 (by kernel_rfl) (by kernel_rfl) (by kernel_rfl)), ?_⟩) ?_
      · have e1 : E (.tmp 8) = .pointer (some ⟨a + 1, 0, none⟩) := hE 8 (by kernel_rfl)
        have q := wcell hb B0
        have q' := wcell hb B1
        clear hE hV
        exact Does.value (v := .agg #[.int .u64 s2, .slice p2 l2 c2]) (w' := W) (by go_simp) ⟨⟨_, _, _, _, rfl, NB.out.mono hb⟩, Below.refl _ _⟩
      refine AllGo.cons rfl (fun E W hb hc hf hE hV => ⟨wanted_of (d := 89) (b := true) rfl (by kernel_rfl) (hV 49 89 (by kernel_rfl) (by kernel_rfl) (by kernel_rfl)), ?_⟩) ?_
      · have e1 : Means W (.num m) (E (.tmp 95)) := hV 55 95 (by kernel_rfl) (by kernel_rfl) (by kernel_rfl)
        have e2 : Means W (.num n) (E (.tmp 96)) := hV 56 96 (by kernel_rfl) (by kernel_rfl) (by kernel_rfl)
        clear hE hV
        exact Does.call (w' := W) (by go_simp) ((mul_want W _ _ m n (by omega) (by omega) e1 e2).mono fun e w' ⟨v, h1, h2, h3⟩ => ⟨v, h1, h2, h3⟩)
      refine AllGo.cons rfl (fun E W hb hc hf hE hV => ⟨wanted_of (d := 89) (b := true) rfl (by kernel_rfl) (hV 49 89 (by kernel_rfl) (by kernel_rfl) (by kernel_rfl)), ?_⟩) ?_
      · have e1 : E (.tmp 7) = .pointer (some ⟨a, 0, none⟩) := hE 7 (by kernel_rfl)
        have q := wcell hb A0
        have q' := wcell hb A1
        clear hE hV
        exact Does.value (v := .agg #[.int .u64 s1, .slice p1 l1 c1]) (w' := W) (by go_simp) ⟨⟨_, _, _, _, rfl, NA.out.mono hb⟩, Below.refl _ _⟩
      refine AllGo.cons rfl (fun E W hb hc hf hE hV => ⟨wanted_of (d := 89) (b := true) rfl (by kernel_rfl) (hV 49 89 (by kernel_rfl) (by kernel_rfl) (by kernel_rfl)), ?_⟩) ?_
      · have e1 : E (.tmp 11) = .pointer (some ⟨g, 0, none⟩) := hE 11 (by kernel_rfl)
        have q := wcell hb C0
        have q' := wcell hb C1
        clear hE hV
        exact Does.value (v := .agg #[.int .u64 s5, .slice p5 l5 c5]) (w' := W) (by go_simp) ⟨⟨_, _, _, _, rfl, NC.out.mono hb⟩, Below.refl _ _⟩
      refine AllGo.cons rfl (fun E W hb hc hf hE hV => ⟨wanted_of (d := 89) (b := true) rfl (by kernel_rfl) (hV 49 89 (by kernel_rfl) (by kernel_rfl) (by kernel_rfl)), ?_⟩) ?_
      · have e1 : Means W (.num m) (E (.tmp 98)) := hV 58 98 (by kernel_rfl) (by kernel_rfl) (by kernel_rfl)
        have e2 : Means W (.num z) (E (.tmp 99)) := hV 59 99 (by kernel_rfl) (by kernel_rfl) (by kernel_rfl)
        clear hE hV
        exact Does.call (w' := W) (by go_simp) ((mul_want W _ _ m z (by omega) (by omega) e1 e2).mono fun e w' ⟨v, h1, h2, h3⟩ => ⟨v, h1, h2, h3⟩)
      refine AllGo.cons rfl (fun E W hb hc hf hE hV => ⟨wanted_of (d := 89) (b := true) rfl (by kernel_rfl) (hV 49 89 (by kernel_rfl) (by kernel_rfl) (by kernel_rfl)), ?_⟩) ?_
      · have e1 : Means W (.num (m * n)) (E (.tmp 97)) := hV 57 97 (by kernel_rfl) (by kernel_rfl) (by kernel_rfl)
        have e2 : Means W (.num (m * z)) (E (.tmp 100)) := hV 60 100 (by kernel_rfl) (by kernel_rfl) (by kernel_rfl)
        clear hE hV
        exact Does.call (w' := W) (by go_simp) ((add_want W _ _ (m * n) (m * z) (by omega) (by omega) e1 e2).mono fun e w' ⟨v, h1, h2, h3⟩ => ⟨v, h1, h2, h3⟩)
      refine AllGo.cons rfl (fun E W hb hc hf hE hV => ⟨wanted_of (d := 89) (b := true) rfl (by kernel_rfl) (hV 49 89 (by kernel_rfl) (by kernel_rfl) (by kernel_rfl)), ?_⟩) ?_
      · have e1 : Means W (.num (m * (n + z))) (E (.tmp 94)) := hV 54 94 (by kernel_rfl) (by kernel_rfl) (by kernel_rfl)
        have e2 : Means W (.num ((m * n) + (m * z))) (E (.tmp 101)) := hV 61 101 (by kernel_rfl) (by kernel_rfl) (by kernel_rfl)
        clear hE hV
        exact Does.call (w' := W) (by go_simp) ((cmp_want W _ _ (m * (n + z)) ((m * n) + (m * z)) (by omega) e1 e2).mono fun e w' ⟨v, h1, h2, h3⟩ => ⟨v, h1, h2.trans (by rw [show (m * (n + z) : Nat) = (m * n) + (m * z) from Nat.mul_add _ _ _, cmp3_eq]), h3⟩)
      refine AllGo.cons rfl (fun E W hb hc hf hE hV => ⟨wanted_of (d := 89) (b := true) rfl (by kernel_rfl) (hV 49 89 (by kernel_rfl) (by kernel_rfl) (by kernel_rfl)), ?_⟩) ?_
      · have e1 : E (.tmp 102) = _ := hV 62 102 (by kernel_rfl) (by kernel_rfl) (by kernel_rfl)
        clear hE hV
        exact Does.value (w' := W) (by go_simp) ⟨rfl, Below.refl _ _⟩
      refine AllGo.cons rfl (fun E W hb hc hf hE hV => ⟨rfl, ?_⟩) ?_
      · have e1 : E (.tmp 89) = _ := hV 49 89 (by kernel_rfl) (by kernel_rfl) (by kernel_rfl)
        have e2 : E (.tmp 103) = _ := hV 63 103 (by kernel_rfl) (by kernel_rfl) (by kernel_rfl)
        clear hE hV
        exact Does.value (w' := W) (by go_simp) ⟨rfl, Below.refl _ _⟩
      refine AllGo.cons rfl (fun E W hb hc hf hE hV => ⟨rfl, ?_⟩) ?_
      · have e1 : E (.tmp 104) = _ := hV 64 104 (by kernel_rfl) (by kernel_rfl) (by kernel_rfl)
        clear hE hV
        exact Does.value (w' := W) (by go_simp) ⟨rfl, Below.refl _ _⟩
      refine AllGo.cons rfl (fun E W hb hc hf hE hV => ⟨wanted_of (d := 105) (b := true) rfl (by kernel_rfl) (hV 65 105 (by kernel_rfl) (by kernel_rfl) (by kernel_rfl)), ?_⟩) ?_
      · have e1 : E (.tmp 16) = .bool true := hE 16 (by kernel_rfl)
        clear hE hV
        exact Does.value (w' := W) (by go_simp) ⟨rfl, Below.refl _ _⟩
      refine AllGo.cons rfl (fun E W hb hc hf hE hV => ⟨rfl, ?_⟩) ?_
      · have e1 : E (.tmp 105) = _ := hV 65 105 (by kernel_rfl) (by kernel_rfl) (by kernel_rfl)
        have e2 : E (.tmp 106) = _ := hV 66 106 (by kernel_rfl) (by kernel_rfl) (by kernel_rfl)
        clear hE hV
        exact Does.value (w' := W) (by go_simp) ⟨rfl, Below.refl _ _⟩
      refine AllGo.cons rfl (fun E W hb hc hf hE hV => ⟨rfl, ?_⟩) ?_
      · have e1 : E (.tmp 107) = _ := hV 67 107 (by kernel_rfl) (by kernel_rfl) (by kernel_rfl)
        clear hE hV
        exact Does.value (w' := W) (by go_simp) ⟨rfl, Below.refl _ _⟩
      refine AllGo.cons rfl (fun E W hb hc hf hE hV => ⟨wanted_of (d := 108) (b := true) rfl (by kernel_rfl) (hV 68 108 (by kernel_rfl) (by kernel_rfl) (by kernel_rfl)), ?_⟩) ?_
      · have e1 : E (.tmp 15) = .pointer (some ⟨b, 0, none⟩) := hE 15 (by kernel_rfl)
        have q := wcell hb D0
        have q' := wcell hb D1
        clear hE hV
        exact Does.value (v := .agg #[.int .u64 s9, .slice p9 l9 c9]) (w' := W) (by go_simp) ⟨⟨_, _, _, _, rfl, ND.out.mono hb⟩, Below.refl _ _⟩
      refine AllGo.cons rfl (fun E W hb hc hf hE hV => ⟨wanted_of (d := 108) (b := true) rfl (by kernel_rfl) (hV 68 108 (by kernel_rfl) (by kernel_rfl) (by kernel_rfl)), ?_⟩) ?_
      · have e1 : E (.tmp 7) = .pointer (some ⟨a, 0, none⟩) := hE 7 (by kernel_rfl)
        have q := wcell hb A0
        have q' := wcell hb A1
        clear hE hV
        exact Does.value (v := .agg #[.int .u64 s1, .slice p1 l1 c1]) (w' := W) (by go_simp) ⟨⟨_, _, _, _, rfl, NA.out.mono hb⟩, Below.refl _ _⟩
      refine AllGo.cons rfl (fun E W hb hc hf hE hV => ⟨wanted_of (d := 108) (b := true) rfl (by kernel_rfl) (hV 68 108 (by kernel_rfl) (by kernel_rfl) (by kernel_rfl)), ?_⟩) ?_
      · have e1 : Means W (.num m) (E (.tmp 109)) := hV 69 109 (by kernel_rfl) (by kernel_rfl) (by kernel_rfl)
        have e2 : Means W (.num m) (E (.tmp 110)) := hV 70 110 (by kernel_rfl) (by kernel_rfl) (by kernel_rfl)
        clear hE hV
        exact Does.call (w' := W) (by go_simp) ((cmp_want W _ _ m m (by omega) e1 e2).mono fun e w' ⟨v, h1, h2, h3⟩ => ⟨v, h1, h2.trans (by rw [cmp3_eq]), h3⟩)
      refine AllGo.cons rfl (fun E W hb hc hf hE hV => ⟨wanted_of (d := 108) (b := true) rfl (by kernel_rfl) (hV 68 108 (by kernel_rfl) (by kernel_rfl) (by kernel_rfl)), ?_⟩) ?_
      · have e1 : E (.tmp 111) = _ := hV 71 111 (by kernel_rfl) (by kernel_rfl) (by kernel_rfl)
        clear hE hV
        exact Does.value (w' := W) (by go_simp) ⟨rfl, Below.refl _ _⟩
      refine AllGo.cons rfl (fun E W hb hc hf hE hV => ⟨rfl, ?_⟩) ?_
      · have e1 : E (.tmp 108) = _ := hV 68 108 (by kernel_rfl) (by kernel_rfl) (by kernel_rfl)
        have e2 : E (.tmp 112) = _ := hV 72 112 (by kernel_rfl) (by kernel_rfl) (by kernel_rfl)
        clear hE hV
        exact Does.value (w' := W) (by go_simp) ⟨rfl, Below.refl _ _⟩
      exact AllGo.nil
    · intro f W hf hb
      have e113 : f 113 = .bool true := hf (73, 113) (by simp)
      have HW := Lib.hid (below_step HB.out hb)
      clear hf hb
      simp only [fillSlots]
      refine wpAny_ready (rs := [74]) (by kernel_rfl) (by simp) ?_
      refine AllReady.cons rfl (fun K hK => ?_) AllReady.nil
      go_simp
      refine hK _ _ ?_; clear hK K
      refine wpAny_done (by kernel_rfl) ?_ _
      go_wp2
      go_ret
      exact ⟨by simp, HW.out⟩
  refine region_ends (T := [0, 1, 2, 3, 4, 5, 6, 7, 8]) (slots := [33, 34, 35, 36, 37, 32, 38, 39, 15]) (fuel := 3) (n := 8) (deps := [0, 0, 3, 0, 12, 16, 32, 32, 0, 383, 1023]) (ends := [255, 447, 383]) (Tm := 511)
    (V := Tab [.num m, .num n, .num (m + n), .num n, .two (.num m) (.is (.bool true)), .two (.num m) (.is (.bool true)), .num m, .is (.bool true), .newbox w3.heap.size] 0)
    (by kernel_rfl) rfl Tab.stable (by kernel_rfl) (by kernel_rfl) (by kernel_rfl) (by kernel_rfl) (by kernel_rfl) (by kernel_rfl) ?_ ?_
  · skip
    refine AllGo.cons rfl (fun E W hb hc hf hE hV => ⟨rfl, ?_⟩) ?_
    · have e1 : E (.tmp 7) = .pointer (some ⟨a, 0, none⟩) := hE 7 (by kernel_rfl)
      have q := wcell hb A0
      have q' := wcell hb A1
      clear hE hV
      exact Does.value (v := .agg #[.int .u64 s1, .slice p1 l1 c1]) (w' := W) (by go_simp) ⟨⟨_, _, _, _, rfl, NA.out.mono hb⟩, Below.refl _ _⟩
    refine AllGo.cons rfl (fun E W hb hc hf hE hV => ⟨rfl, ?_⟩) ?_
    · have e1 : E (.tmp 8) = .pointer (some ⟨a + 1, 0, none⟩) := hE 8 (by kernel_rfl)
      have q := wcell hb B0
      have q' := wcell hb B1
      clear hE hV
      exact Does.value (v := .agg #[.int .u64 s2, .slice p2 l2 c2]) (w' := W) (by go_simp) ⟨⟨_, _, _, _, rfl, NB.out.mono hb⟩, Below.refl _ _⟩
    refine AllGo.cons rfl (fun E W hb hc hf hE hV => ⟨rfl, ?_⟩) ?_
    · have e1 : Means W (.num m) (E (.tmp 33)) := hV 0 33 (by kernel_rfl) (by kernel_rfl) (by kernel_rfl)
      have e2 : Means W (.num n) (E (.tmp 34)) := hV 1 34 (by kernel_rfl) (by kernel_rfl) (by kernel_rfl)
      clear hE hV
      exact Does.call (w' := W) (by go_simp) ((add_want W _ _ m n (by omega) (by omega) e1 e2).mono fun e w' ⟨v, h1, h2, h3⟩ => ⟨v, h1, h2, h3⟩)
    refine AllGo.cons rfl (fun E W hb hc hf hE hV => ⟨rfl, ?_⟩) ?_
    · have e1 : E (.tmp 8) = .pointer (some ⟨a + 1, 0, none⟩) := hE 8 (by kernel_rfl)
      have q := wcell hb B0
      have q' := wcell hb B1
      clear hE hV
      exact Does.value (v := .agg #[.int .u64 s2, .slice p2 l2 c2]) (w' := W) (by go_simp) ⟨⟨_, _, _, _, rfl, NB.out.mono hb⟩, Below.refl _ _⟩
    refine AllGo.cons rfl (fun E W hb hc hf hE hV => ⟨rfl, ?_⟩) ?_
    · have e1 : Means W (.num (m + n)) (E (.tmp 35)) := hV 2 35 (by kernel_rfl) (by kernel_rfl) (by kernel_rfl)
      have e2 : Means W (.num n) (E (.tmp 36)) := hV 3 36 (by kernel_rfl) (by kernel_rfl) (by kernel_rfl)
      clear hE hV
      exact Does.call (w' := W) (by go_simp) ((sub_want W _ _ (m + n) n (by omega) (by omega) e1 e2).mono fun e w' ⟨v, h1, ⟨x, y, h2, h3, h4⟩, h5⟩ => ⟨v, h1, ⟨x, y, h2, by rw [Nat.add_sub_cancel] at h3; exact h3, h4⟩, h5⟩)
    refine AllGo.cons rfl (fun E W hb hc hf hE hV => ⟨rfl, ?_⟩) ?_
    · have e1 : Means W (.two (.num m) (.is (.bool true))) (E (.tmp 37)) := hV 4 37 (by kernel_rfl) (by kernel_rfl) (by kernel_rfl)
      clear hE hV
      obtain ⟨x, y, e1, h1, h2⟩ := e1
      exact Does.value (v := .tuple #[x, y]) (w' := W) (by go_simp) ⟨⟨x, y, rfl, h1, h2⟩, Below.refl _ _⟩
    refine AllGo.cons rfl (fun E W hb hc hf hE hV => ⟨rfl, ?_⟩) ?_
    · have e1 : Means W (.two (.num m) (.is (.bool true))) (E (.tmp 32)) := hV 5 32 (by kernel_rfl) (by kernel_rfl) (by kernel_rfl)
      clear hE hV
      obtain ⟨x, y, e1, h1, h2⟩ := e1
      exact Does.value (v := x) (w' := W) (by go_simp) ⟨h1, Below.refl _ _⟩
    refine AllGo.cons rfl (fun E W hb hc hf hE hV => ⟨rfl, ?_⟩) ?_
    · have e1 : Means W (.two (.num m) (.is (.bool true))) (E (.tmp 32)) := hV 5 32 (by kernel_rfl) (by kernel_rfl) (by kernel_rfl)
      clear hE hV
      obtain ⟨x, y, e1, h1, h2⟩ := e1
      exact Does.value (v := y) (w' := W) (by go_simp) ⟨h2, Below.refl _ _⟩
    refine AllGo.cons rfl (fun E W hb hc hf hE hV => ⟨rfl, ?_⟩) ?_
    · clear hE hV
      refine Does.value (v := .pointer (some ⟨W.heap.size, 0, none⟩)) (w' := W.alloc (.cells #[.int .u64 0, .slice none 0 0] 25)) (by go_simp) ⟨⟨W.heap.size, rfl, by have := hb.size; omega, by simp [go_sem], by simp [go_sem], by simp [go_sem], by simp [go_sem]⟩, below_alloc (Below.refl _ _) _⟩
    exact AllGo.nil
  refine ⟨?_, ?_, ?_, trivial⟩
  · intro f W hf hb
    have e38 : Means W (.num m) (f 38) := hf (6, 38) (by simp) (by kernel_rfl)
    obtain ⟨s9, p9, l9, c9, e38, hx⟩ := e38
    have e39 : f 39 = .bool true := hf (7, 39) (by simp) (by kernel_rfl)
    have HX := Lib.hid hx
    have la := World.block_lt_of_cell? _ _ A0; have lb := World.block_lt_of_cell? _ _ B0; have lc := World.block_lt_of_cell? _ _ C0
    have A0 := wcell hb A0; have A1 := wcell hb A1; have B0 := wcell hb B0; have B1 := wcell hb B1; have C0 := wcell hb C0; have C1 := wcell hb C1
    have NA := Lib.hid (NA.out.mono hb); have NB := Lib.hid (NB.out.mono hb); have NC := Lib.hid (NC.out.mono hb)
    have hzw : w.heap.size ≤ w3.heap.size := HB.size
    have HW := Lib.hid (below_step HB hb)
    clear hf hb hx
    simp only [fillSlots]
    refine wpAny_ready (rs := [8]) (by kernel_rfl) (by simp) ?_
    refine AllReady.cons rfl (fun K' hK => ?_) AllReady.nil
    go_simp
    refine hK _ _ ?_; clear hK K'
    refine wpAny_ready (rs := [9]) (by kernel_rfl) (by simp) ?_
    refine AllReady.cons rfl (fun K' hK => ?_) AllReady.nil
    go_simp
    refine hK _ _ ?_; clear hK K'
    refine wpAny_ready (rs := [10]) (by kernel_rfl) (by simp) ?_
    refine AllReady.cons rfl (fun K' hK => ?_) AllReady.nil
    go_simp
    refine hK _ _ ?_; clear hK K'
    refine wpAny_done (by kernel_rfl) ?_ _
    have hbW : Below W.heap.size W (W.alloc (.cells #[.int .u64 s9, .slice p9 l9 c9] 25)) := below_alloc (Below.refl _ _) _
    exact key _ _ _ _ _ _ _ _ _ _ _ _ _ _ _ _ _ _ _ _ _ _ _ _ _ _ _ _ _ _ _ _ _ _ _ _ _ _ _ _ _ _ _ _ _ _ _ _ _ _ _ _ _ _ _ _ _ _ _ _ _ _ _ _ _ _ _ _ _ _ _ _ _ _ _ _ _ _ _ _ _ _ _ _ _ _ _ _ _ _ _ _ _ _ _ _ _ _ _ _ _ _ _ _ _ _ _ _ _ W.heap.size s9 p9 l9 c9 _ (Lib.hid (below_step HW.out hbW)) (Lib.hid (NA.out.mono hbW)) (Lib.hid (NB.out.mono hbW)) (Lib.hid (NC.out.mono hbW)) (Lib.hid (HX.out.mono hbW)) (wcell hbW A0) (wcell hbW A1) (wcell hbW B0) (wcell hbW B1) (wcell hbW C0) (wcell hbW C1) (by simp [go_sem]) (by simp [go_sem])
  · intro f W hf hb
    have e32 : Means W (.two (.num m) (.is (.bool true))) (f 32) := hf (5, 32) (by simp) (by kernel_rfl)
    obtain ⟨x, y, e32, ⟨s9, p9, l9, c9, e38, hx⟩, e39⟩ := e32
    subst e38
    have e39' : f 39 = .bool true := hf (7, 39) (by simp) (by kernel_rfl)
    have e15 : Means W (.newbox w3.heap.size) (f 15) := hf (8, 15) (by simp) (by kernel_rfl)
    obtain ⟨b, e15, hgb, b0, b1, bf0, bf1⟩ := e15
    have HX := Lib.hid hx
    have la := World.block_lt_of_cell? _ _ A0; have lb := World.block_lt_of_cell? _ _ B0; have lc := World.block_lt_of_cell? _ _ C0
    have A0 := wcell hb A0; have A1 := wcell hb A1; have B0 := wcell hb B0; have B1 := wcell hb B1; have C0 := wcell hb C0; have C1 := wcell hb C1
    have NA := Lib.hid (NA.out.mono hb); have NB := Lib.hid (NB.out.mono hb); have NC := Lib.hid (NC.out.mono hb)
    have hzw : w.heap.size ≤ w3.heap.size := HB.size
    have HW := Lib.hid (below_step HB hb)
    clear hf hb hx
    simp only [fillSlots]
    refine wpAny_ready (rs := [6]) (by kernel_rfl) (by simp) ?_
    refine AllReady.cons rfl (fun K' hK => ?_) AllReady.nil
    go_simp
    refine hK _ _ ?_; clear hK K'
    refine wpAny_ready (rs := [9]) (by kernel_rfl) (by simp) ?_
    refine AllReady.cons rfl (fun K' hK => ?_) AllReady.nil
    go_simp
    refine hK _ _ ?_; clear hK K'
    refine wpAny_ready (rs := [10]) (by kernel_rfl) (by simp) ?_
    refine AllReady.cons rfl (fun K' hK => ?_) AllReady.nil
    go_simp
    refine hK _ _ ?_; clear hK K'
    refine wpAny_done (by kernel_rfl) ?_ _
    have na : a ≠ b := by simp only at la; omega
    have nb : a + 1 ≠ b := by simp only at lb; omega
    have nc : g ≠ b := by simp only at lc; omega
    exact key _ _ _ _ _ _ _ _ _ _ _ _ _ _ _ _ _ _ _ _ _ _ _ _ _ _ _ _ _ _ _ _ _ _ _ _ _ _ _ _ _ _ _ _ _ _ _ _ _ _ _ _ _ _ _ _ _ _ _ _ _ _ _ _ _ _ _ _ _ _ _ _ _ _ _ _ _ _ _ _ _ _ _ _ _ _ _ _ _ _ _ _ _ _ _ _ _ _ _ _ _ _ _ _ _ _ _ _ _ b s9 p9 l9 c9 _ (Lib.hid ((HW.out.setCell (by show w.heap.size ≤ b; omega) _).setCell (by show w.heap.size ≤ b; omega) _)) (Lib.hid (NA.out.box b1)) (Lib.hid (NB.out.box b1)) (Lib.hid (NC.out.box b1)) (Lib.hid (HX.out.box b1)) (box_other A0 na) (box_other A1 na) (box_other B0 nb) (box_other B1 nb) (box_other C0 nc) (box_other C1 nc) (box_zero b0) (box_one b1)
  · intro f W hf hb
    have e38 : Means W (.num m) (f 38) := hf (6, 38) (by simp) (by kernel_rfl)
    obtain ⟨s9, p9, l9, c9, e38, hx⟩ := e38
    have e32 : Means W (.two (.num m) (.is (.bool true))) (f 32) := hf (5, 32) (by simp) (by kernel_rfl)
    obtain ⟨x, y, e32, _, e39⟩ := e32
    have e39 : y = .bool true := e39
    have e15 : Means W (.newbox w3.heap.size) (f 15) := hf (8, 15) (by simp) (by kernel_rfl)
    obtain ⟨b, e15, hgb, b0, b1, bf0, bf1⟩ := e15
    have HX := Lib.hid hx
    have la := World.block_lt_of_cell? _ _ A0; have lb := World.block_lt_of_cell? _ _ B0; have lc := World.block_lt_of_cell? _ _ C0
    have A0 := wcell hb A0; have A1 := wcell hb A1; have B0 := wcell hb B0; have B1 := wcell hb B1; have C0 := wcell hb C0; have C1 := wcell hb C1
    have NA := Lib.hid (NA.out.mono hb); have NB := Lib.hid (NB.out.mono hb); have NC := Lib.hid (NC.out.mono hb)
    have hzw : w.heap.size ≤ w3.heap.size := HB.size
    have HW := Lib.hid (below_step HB hb)
    clear hf hb hx
    simp only [fillSlots]
    refine wpAny_ready (rs := [7, 9]) (by kernel_rfl) (by simp) ?_
    refine AllReady.cons rfl (fun K' hK => ?_) (AllReady.cons rfl (fun K' hK => ?_) AllReady.nil)
    · go_simp
      refine hK _ _ ?_; clear hK K'
      refine wpAny_ready (rs := [9]) (by kernel_rfl) (by simp) ?_
      refine AllReady.cons rfl (fun K' hK => ?_) AllReady.nil
      go_simp
      refine hK _ _ ?_; clear hK K'
      refine wpAny_ready (rs := [10]) (by kernel_rfl) (by simp) ?_
      refine AllReady.cons rfl (fun K' hK => ?_) AllReady.nil
      go_simp
      refine hK _ _ ?_; clear hK K'
      refine wpAny_done (by kernel_rfl) ?_ _
      have na : a ≠ b := by simp only at la; omega
      have nb : a + 1 ≠ b := by simp only at lb; omega
      have nc : g ≠ b := by simp only at lc; omega
      exact key _ _ _ _ _ _ _ _ _ _ _ _ _ _ _ _ _ _ _ _ _ _ _ _ _ _ _ _ _ _ _ _ _ _ _ _ _ _ _ _ _ _ _ _ _ _ _ _ _ _ _ _ _ _ _ _ _ _ _ _ _ _ _ _ _ _ _ _ _ _ _ _ _ _ _ _ _ _ _ _ _ _ _ _ _ _ _ _ _ _ _ _ _ _ _ _ _ _ _ _ _ _ _ _ _ _ _ _ _ b s9 p9 l9 c9 _ (Lib.hid ((HW.out.setCell (by show w.heap.size ≤ b; omega) _).setCell (by show w.heap.size ≤ b; omega) _)) (Lib.hid (NA.out.box b1)) (Lib.hid (NB.out.box b1)) (Lib.hid (NC.out.box b1)) (Lib.hid (HX.out.box b1)) (box_other A0 na) (box_other A1 na) (box_other B0 nb) (box_other B1 nb) (box_other C0 nc) (box_other C1 nc) (box_zero b0) (box_one b1)
    · go_simp
      refine hK _ _ ?_; clear hK K'
      refine wpAny_ready (rs := [7]) (by kernel_rfl) (by simp) ?_
      refine AllReady.cons rfl (fun K' hK => ?_) AllReady.nil
      go_simp
      refine hK _ _ ?_; clear hK K'
      refine wpAny_ready (rs := [10]) (by kernel_rfl) (by simp) ?_
      refine AllReady.cons rfl (fun K' hK => ?_) AllReady.nil
      go_simp
      refine hK _ _ ?_; clear hK K'
      refine wpAny_done (by kernel_rfl) ?_ _
      have na : a ≠ b := by simp only at la; omega
      have nb : a + 1 ≠ b := by simp only at lb; omega
      have nc : g ≠ b := by simp only at lc; omega
      exact key _ _ _ _ _ _ _ _ _ _ _ _ _ _ _ _ _ _ _ _ _ _ _ _ _ _ _ _ _ _ _ _ _ _ _ _ _ _ _ _ _ _ _ _ _ _ _ _ _ _ _ _ _ _ _ _ _ _ _ _ _ _ _ _ _ _ _ _ _ _ _ _ _ _ _ _ _ _ _ _ _ _ _ _ _ _ _ _ _ _ _ _ _ _ _ _ _ _ _ _ _ _ _ _ _ _ _ _ _ b s9 p9 l9 c9 _ (Lib.hid ((HW.out.setCell (by show w.heap.size ≤ b; omega) _).setCell (by show w.heap.size ≤ b; omega) _)) (Lib.hid (NA.out.box b1)) (Lib.hid (NB.out.box b1)) (Lib.hid (NC.out.box b1)) (Lib.hid (HX.out.box b1)) (box_other A0 na) (box_other A1 na) (box_other B0 nb) (box_other B1 nb) (box_other C0 nc) (box_other C1 nc) (box_zero b0) (box_one b1)
end Go.Proofs.YtjbpmialmpjonaaDoor
