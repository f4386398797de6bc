/- The document's quotient of integers, rounded down. -/
import Derived.Test.YthjeidgmkkkmbaaGreatDoorSem
import Derived.Test.YthjeidgmkkkmbaaGreatDoorISums3
import Derived.Test.YthjeidgmkkkmbaaGreatDoorQuot
namespace Go.Proofs.YthjeidgmkkkmbaaGreatDoor
open Go.RowKit

theorem rDiv_want (w : World) (u v : Value) (m n : Nat) (hm : (ds m).length ≤ 1000) (hn : 0 < n) (h1 : RNum w u m) (h2 : RNum w v n) :
    Calls Tryz.prog 45 #[u, v] w (Gives w (.two (.rnum (m / n)) (.rnum (m % n)))) := by
  obtain ⟨p, l, c, rfl, h1⟩ := h1
  obtain ⟨q, k, d, rfl, h2⟩ := h2
  have := h1.short hm
  exact (rDiv_any p q l k c d m n w (by omega) hn h1 h2).mono fun _ _ ⟨_, _, _, _, _, _, h, a, b, hb⟩ => ⟨_, h, ⟨_, _, rfl, ⟨_, _, _, rfl, a⟩, ⟨_, _, _, rfl, b⟩⟩, hb⟩
theorem rI_gives (w : World) (g : Bool) (u : Value) (n : Nat) (z : Int) (hz : sgn g n = z) (h : RNum w u n) : Calls Tryz.prog 13 #[.bool g, u] w (Gives w (.rint z)) :=
  (rI_want w g u n z hz h).mono fun _ _ ⟨v, h1, h2, h3⟩ => ⟨v, h1, h2, h3⟩
set_option maxRecDepth 100000 in
theorem rIOf_any (n : Int) (w : World) (h1 : -9223372036854775808 ≤ n) (h2 : n ≤ 9223372036854775807) : Calls Tryz.prog 47 #[.int .i64 n] w (Gives w (.rint n)) := by
  have HF : ∀ (g : Bool) (m : Nat), sgn g m = n → Hid (∀ (p : Option Addr) (l c : Nat) (W : World), IsR W p l c m → Calls Tryz.prog 13 #[.bool g, .slice p l c] W (RetRI W n)) := fun g m hm => Lib.hid (fun p l c W a => by rw [← hm]; exact rI_any g m p l c W a)
  rcases Int.lt_or_le n 0 with hn | hn
  · obtain ⟨m, hm⟩ : ∃ m : Nat, m = n.natAbs := ⟨_, rfl⟩
    have wn : IntKind.u64.wrap (-IntKind.u64.wrap n) = (m : Int) := by rw [IntKind.wrap_u64, IntKind.wrap_u64]; omega
    have HO := Lib.hid (fun W => rof_any m (by omega) W)
    have HG := HF true m (by unfold sgn; rw [if_pos rfl]; omega)
    clear h1 h2 hm HF
    go_enter Tryz.func47, Tryz.ntmps47
    go_wp2_with fail
    refine (HO.out _).mono ?_
    rintro e w1 ⟨p, l, c, rfl, i1, hb⟩
    have I1 := Lib.hid i1
    obtain ⟨hc, hf⟩ := bcell hb
    have r0 : w1.cell? ⟨w.heap.size, 0, none⟩ = some (.bool false) := by simp [hc, go_sem]
    have r1 : w1.cell? ⟨w.heap.size, 1, none⟩ = some (.slice none 0 0) := by simp [hc, go_sem]
    have f0 : w1.frozen? ⟨w.heap.size, 0, none⟩ = false := by simp [hf, go_sem]
    have f1 : w1.frozen? ⟨w.heap.size, 1, none⟩ = false := by simp [hf, go_sem]
    have HB := Lib.hid (below_step (below_alloc (Below.refl w.heap.size w) _) hb)
    have zl : w.heap.size < w1.heap.size := by have := hb.size; simp [go_sem] at this; omega
    clear i1 hb hc hf
    go_wp2_with fail
    refine (HG.out p l c _ I1.out).mono ?_
    rintro e w2 ⟨g3, p3, l3, c3, rfl, i3, hb⟩
    replace f0 := wfree hb r0 f0; replace f1 := wfree hb r1 f1
    replace r0 := wcell hb r0; replace r1 := wcell hb r1
    have I3 := Lib.hid i3
    have HB := Lib.hid (below_step HB.out hb)
    clear i3 hb
    go_wp2
    exact bodyPost_ret (v := .agg #[.bool g3, .slice p3 l3 c3]) (by simp [results, Tryz.results47, go_sem, r0, r1]) rfl ⟨_, rfl, ⟨_, _, _, _, rfl, I3.out.setRint r0 r1⟩, (HB.out.setCell (Nat.le_refl _) _).setCell (Nat.le_refl _) _⟩
  · obtain ⟨m, rfl⟩ := Int.eq_ofNat_of_zero_le hn
    have wn : IntKind.u64.wrap (m : Int) = (m : Int) := by rw [IntKind.wrap_u64]; omega
    have HO := Lib.hid (fun W => rof_any m (by omega) W)
    have HG := HF false m rfl
    have hn' : ¬ (m : Int) < 0 := by omega
    clear h1 h2 HF
    go_enter Tryz.func47, Tryz.ntmps47
    go_wp2_with fail
    refine (HO.out _).mono ?_
    rintro e w1 ⟨p, l, c, rfl, i1, hb⟩
    have I1 := Lib.hid i1
    obtain ⟨hc, hf⟩ := bcell hb
    have r0 : w1.cell? ⟨w.heap.size, 0, none⟩ = some (.bool false) := by simp [hc, go_sem]
    have r1 : w1.cell? ⟨w.heap.size, 1, none⟩ = some (.slice none 0 0) := by simp [hc, go_sem]
    have f0 : w1.frozen? ⟨w.heap.size, 0, none⟩ = false := by simp [hf, go_sem]
    have f1 : w1.frozen? ⟨w.heap.size, 1, none⟩ = false := by simp [hf, go_sem]
    have HB := Lib.hid (below_step (below_alloc (Below.refl w.heap.size w) _) hb)
    clear i1 hb hc hf
    go_wp2_with fail
    refine (HG.out p l c _ I1.out).mono ?_
    rintro e w2 ⟨g3, p3, l3, c3, rfl, i3, hb⟩
    replace f0 := wfree hb r0 f0; replace f1 := wfree hb r1 f1
    replace r0 := wcell hb r0; replace r1 := wcell hb r1
    have I3 := Lib.hid i3
    have HB := Lib.hid (below_step HB.out hb)
    clear i3 hb
    go_wp2
    exact bodyPost_ret (v := .agg #[.bool g3, .slice p3 l3 c3]) (by simp [results, Tryz.results47, go_sem, r0, r1]) rfl ⟨_, rfl, ⟨_, _, _, _, rfl, I3.out.setRint r0 r1⟩, (HB.out.setCell (Nat.le_refl _) _).setCell (Nat.le_refl _) _⟩
theorem run_rDiv : RowKit.Hid (∀ (a : Array Value) (w : World), Sem.run Tryz.prog (callFunc 45 a) w = .ok (.enter 45 a) w) := fun a w => by go_simp
theorem run_rI : RowKit.Hid (∀ (a : Array Value) (w : World), Sem.run Tryz.prog (callFunc 13 a) w = .ok (.enter 13 a) w) := fun a w => by go_simp
theorem run_rIDiv : RowKit.Hid (∀ (a : Array Value) (w : World), Sem.run Tryz.prog (callFunc 11 a) w = .ok (.enter 11 a) w) := fun a w => by go_simp
theorem run_rIOf : RowKit.Hid (∀ (a : Array Value) (w : World), Sem.run Tryz.prog (callFunc 47 a) w = .ok (.enter 47 a) w) := fun a w => by go_simp
theorem qdiv_abs (x y : Int) (hy : y ≠ 0) : (qdiv x y).natAbs ≤ x.natAbs + 1 := by
  by_cases h : decide (x < 0) = decide (y < 0)
  · have := (parts_same hy h).1
    rw [← this, sgn_abs]
    have := Nat.div_le_self x.natAbs y.natAbs; omega
  · by_cases h0 : x.natAbs % y.natAbs = 0
    · have := (parts_zero hy h h0).1
      rw [← this, sgn_abs]
      have := Nat.div_le_self x.natAbs y.natAbs; omega
    · have := (parts_more hy h h0).1
      rw [← this, sgn_abs]
      have := Nat.div_le_self x.natAbs y.natAbs; omega
theorem ds_qdiv (x y : Int) (hy : y ≠ 0) : (ds (qdiv x y).natAbs).length ≤ (ds x.natAbs).length + 1 := by
  refine Nat.le_trans (ds_mono (qdiv_abs x y hy)) (Nat.le_trans (ds_add _ _) ?_)
  rw [ds_one (show (1 : Nat) < 2 ^ 64 by omega)]; omega

set_option maxRecDepth 100000 in
set_option maxHeartbeats 4000000 in
theorem rIDiv_same (w : World) (g1 g2 : Bool) (p1 p2 : Option Addr) (l1 c1 l2 c2 : Nat) (x y : Int) (hy : y ≠ 0) (sx : (ds x.natAbs).length ≤ 28) (sy : (ds y.natAbs).length ≤ 28) (hd : decide (x < 0) = decide (y < 0)) (h1 : IsRI w g1 p1 l1 c1 x) (h2 : IsRI w g2 p2 l2 c2 y) :
    Calls Tryz.prog 11 #[.agg #[.bool g1, .slice p1 l1 c1], .agg #[.bool g2, .slice p2 l2 c2]] w (Gives w (.two (.rint (qdiv x y)) (.rint (qmod x y)))) := by
  have sq := ds_qdiv x y hy
  have HY : Hid (0 < y.natAbs) := Lib.hid (by omega)
  have HNE : Hid ((!(g1 == g2)) = false) := Lib.hid (by rw [h1.1, h2.1]; simp [hd])
  have HZ : Hid (sgn false (x.natAbs / y.natAbs) = qdiv x y) := Lib.hid ((parts_same hy hd).1)
  have H1 := Lib.hid h1; have H2 := Lib.hid h2
  clear h1 h2 hy hd
  go_enter Tryz.func11, Tryz.ntmps11
  refine wp_seq_k ?_; intro K1 hK1; replace hK1 := Lib.hid hK1
  go_wp2
  obtain ⟨W2, b2, eW2, eb2, sz2, X2, hb2, hc2⟩ := put_box w w .rint (.rint x) [.bool g1, .slice p1 l1 c1] 32 ⟨⟨_, rfl⟩, ⟨_, _, _, rfl⟩, trivial⟩ ⟨_, _, _, _, rfl, H1.out⟩ (Below.refl _ _)
  obtain ⟨W3, b3, eW3, eb3, sz3, X3, hb3, hc3⟩ := put_box w W2 .rint (.rint y) [.bool g2, .slice p2 l2 c2] 32 ⟨⟨_, rfl⟩, ⟨_, _, _, rfl⟩, trivial⟩ ⟨_, _, _, _, rfl, H2.out⟩ hc2
  obtain ⟨W4, b4, eW4, eb4, sz4, X4, hb4, hc4⟩ := put_box w W3 .rint (.rint 0) [.bool false, .slice none 0 0] 32 ⟨⟨_, rfl⟩, ⟨_, _, _, rfl⟩, trivial⟩ ⟨_, _, _, _, rfl, rfl, by simp [dr_zero], Nat.le_refl _, fun h => absurd rfl h⟩ hc3
  obtain ⟨W5, b5, eW5, eb5, sz5, X5, hb5, hc5⟩ := put_box w W4 .rint (.rint 0) [.bool false, .slice none 0 0] 32 ⟨⟨_, rfl⟩, ⟨_, _, _, rfl⟩, trivial⟩ ⟨_, _, _, _, rfl, rfl, by simp [dr_zero], Nat.le_refl _, fun h => absurd rfl h⟩ hc4
  rw [sz2] at eb3
  rw [sz3] at eb4
  rw [sz2] at eb4
  rw [sz4] at eb5
  rw [sz3] at eb5
  rw [sz2] at eb5
  rw [← eW2, ← eW3, ← eW4, ← eW5]
  rw [← eb5, ← eb4, ← eb3, ← eb2]
  have X_b2 := Lib.hid (((X2.mono hb3).mono hb4).mono hb5)
  have X_b3 := Lib.hid ((X3.mono hb4).mono hb5)
  have X_b4 := Lib.hid (X4.mono hb5)
  have X_b5 := Lib.hid X5
  have HB := Lib.hid hc5
  have NE : Hid (w.heap.size ≤ b2 ∧ w.heap.size ≤ b3 ∧ w.heap.size ≤ b4 ∧ w.heap.size ≤ b5 ∧ b2 < b3 ∧ b2 < b4 ∧ b2 < b5 ∧ b3 < b4 ∧ b3 < b5 ∧ b4 < b5) := Lib.hid (by omega)
  clear eW5 eb5 sz5 X5 hb5 hc5 eW4 eb4 sz4 X4 hb4 hc4 eW3 eb3 sz3 X3 hb3 hc3 eW2 eb2 sz2 X2 hb2 hc2
  refine hK1.out _ _ ?_; clear hK1; try clear K1
  refine wp_seq_k ?_; intro K6 hK6; replace hK6 := Lib.hid hK6
  obtain ⟨b2v, b2x, b2m, b2f, b2l⟩ := X_b2.out.op rfl
  obtain ⟨b3v, b3x, b3m, b3f, b3l⟩ := X_b3.out.op rfl
  obtain ⟨b4v, b4x, b4m, b4f, b4l⟩ := X_b4.out.op rfl
  obtain ⟨b5v, b5x, b5m, b5f, b5l⟩ := X_b5.out.op rfl
  clear X_b2 X_b3 X_b4 X_b5
  refine region_tell (T := [0, 1, 2, 3, 4, 5, 6, 7, 8, 9]) (slots := [10, 11, 12, 13, 14, 9, 15, 16, 6, 7]) (tab := [.is (.pointer (some ⟨b2, 1, none⟩)), .rnum x.natAbs, .is (.pointer (some ⟨b3, 1, none⟩)), .rnum y.natAbs, .two (.rnum (x.natAbs / y.natAbs)) (.rnum (x.natAbs % y.natAbs)), .two (.rnum (x.natAbs / y.natAbs)) (.rnum (x.natAbs % y.natAbs)), .rnum (x.natAbs / y.natAbs), .rnum (x.natAbs % y.natAbs), .rnum (x.natAbs / y.natAbs), .rnum (x.natAbs % y.natAbs)])
      (D := []) (F := [(b2v, .rint x), (b3v, .rint y), (b4v, .rint 0), (b5v, .rint 0)]) List.Pairwise.nil (fc b2m (fc b3m (fc b4m (fc b5m fn)))) hn ?_ ?_
  · refine .pl rfl (fun β E W Γ => ev_faR1 (Γ.s rfl)) ?_
    refine .pl rfl (fun β E W Γ => ev_ldR1 (Γ.k 0 rfl) (b2x.far Γ.A List.not_mem_nil) (Γ.F (_, _) mb0) rfl) ?_
    refine .pl rfl (fun β E W Γ => ev_faR1 (Γ.s rfl)) ?_
    refine .pl rfl (fun β E W Γ => ev_ldR1 (Γ.k 2 rfl) (b3x.far Γ.A List.not_mem_nil) (Γ.F (_, _) mb1) rfl) ?_
    refine .pl rfl (fun β E W Γ => ev_call2 (Γ.f _) run_rDiv (rDiv_want W _ _ x.natAbs y.natAbs (by omega) HY.out (Γ.w (d := 11) 1 rfl) (Γ.w (d := 13) 3 rfl))) ?_
    refine .pl rfl (fun β E W Γ => ev_moveM (Γ.w 4 rfl)) ?_
    refine .pl rfl (fun β E W Γ => ev_ex20 (Γ.w 5 rfl)) ?_
    refine .pl rfl (fun β E W Γ => ev_ex21 (Γ.w 5 rfl)) ?_
    refine .pl rfl (fun β E W Γ => ev_assignM (Γ.w 6 rfl)) ?_
    refine .pl rfl (fun β E W Γ => ev_assignM (Γ.w 7 rfl)) ?_
    exact .nil
  intro β f7 W7 hf hS hN hA hP hlo hlt hap
  have HB := Lib.hid (HB.out.trans (hA.below (B := w.heap.size) (by intro b hb; simp [oldBlocks] at hb) HB.out.size))
  have X_b2 := Lib.hid (Says.keep b2x b2f b2l (hN (_, _) mb0) hA List.not_mem_nil)
  have X_b3 := Lib.hid (Says.keep b3x b3f b3l (hN (_, _) mb1) hA List.not_mem_nil)
  have X_b4 := Lib.hid (Says.keep b4x b4f b4l (hN (_, _) mb2) hA List.not_mem_nil)
  have X_b5 := Lib.hid (Says.keep b5x b5f b5l (hN (_, _) mb3) hA List.not_mem_nil)
  have V_6_7 : Hid (Means W7 (.rnum (x.natAbs / y.natAbs)) (f7 6)) := Lib.hid (hf (8, 6) (by simp))
  have V_7_7 : Hid (Means W7 (.rnum (x.natAbs % y.natAbs)) (f7 7)) := Lib.hid (hf (9, 7) (by simp))
  simp only [fillSlots, List.setIfInBounds_toArray, List.set_cons_succ, List.set_cons_zero]
  clear hf hS hN hA hP hlo hlt hap b2x b2m b2f b2l b3x b3m b3f b3l b4x b4m b4f b4l b5x b5m b5f b5l
  refine hK6.out _ _ ?_; clear hK6
  refine wp_seq_k ?_; intro K8 hK8; replace hK8 := Lib.hid hK8
  obtain ⟨b2v, b2x, b2m, b2f, b2l⟩ := X_b2.out.op rfl
  obtain ⟨b3v, b3x, b3m, b3f, b3l⟩ := X_b3.out.op rfl
  obtain ⟨b4v, b4x, b4m, b4f, b4l⟩ := X_b4.out.op rfl
  obtain ⟨b5v, b5x, b5m, b5f, b5l⟩ := X_b5.out.op rfl
  clear X_b2 X_b3 X_b4 X_b5
  refine region_tell (T := [0, 1, 2, 3, 4, 5, 6, 7]) (slots := [17, 18, 19, 20, 21, 22, 23, 8]) (tab := [.is (.pointer (some ⟨b2, 0, none⟩)), .is (.bool g1), .is (.pointer (some ⟨b3, 0, none⟩)), .is (.bool g2), .is (.bool false), .rnum (x.natAbs / y.natAbs), .rint (qdiv x y), .any, .any])
      (D := [⟨0, .rint, some 7, 8, .rint (qdiv x y), .agg #[.bool false, .slice none 0 0]⟩]) (F := [(b2v, .rint x), (b3v, .rint y), (b4v, .rint 0), (b5v, .rint 0), ((f7 6), .rnum (x.natAbs / y.natAbs)), ((f7 7), .rnum (x.natAbs % y.natAbs))]) List.Pairwise.nil (fc b2m (fc b3m (fc b4m (fc b5m (fc V_6_7.out (fc V_7_7.out fn)))))) (ha hn) ?_ ?_
  · refine .pl rfl (fun β E W Γ => ev_faR0 (Γ.s rfl)) ?_
    refine .pl rfl (fun β E W Γ => ev_ldR0 (Γ.k 0 rfl) (b2x.far Γ.A List.not_mem_nil) (Γ.F (_, _) mb0) H1.out.1.symm) ?_
    refine .pl rfl (fun β E W Γ => ev_faR0 (Γ.s rfl)) ?_
    refine .pl rfl (fun β E W Γ => ev_ldR0 (Γ.k 2 rfl) (b3x.far Γ.A List.not_mem_nil) (Γ.F (_, _) mb1) H2.out.1.symm) ?_
    refine .pl rfl (fun β E W Γ => ev_neqB (Γ.k 1 rfl) (Γ.k 3 rfl) HNE.out) ?_
    refine .pl rfl (fun β E W Γ => ev_moveM (Γ.m rfl mb4)) ?_
    refine .pl rfl (fun β E W Γ => ev_call2 (Γ.f _) run_rI (by rw [(show _ = Value.bool false from (Γ.k (d := 21) 4 rfl))]; exact rI_gives W _ _ (x.natAbs / y.natAbs) (qdiv x y) HZ.out (Γ.w (d := 22) 5 rfl))) ?_
    refine .al rfl mb0 (fun _ _ => ev_alR) ?_
    refine .st rfl mb0 (fun β E W Γ => ev_stR (Γ.q mb0 rfl) (Γ.b1 mb0) (Γ.b2 mb0) (Γ.w 6 rfl)) ?_
    exact .nil
  intro β f9 W9 hf hS hN hA hP hlo hlt hap
  have HB0 := HB.out.size
  have HB := Lib.hid (HB.out.trans (hA.below (B := w.heap.size) (by intro b hb; simp [oldBlocks] at hb) HB.out.size))
  obtain ⟨b10, b10e⟩ : ∃ b, b = β 8 := ⟨_, rfl⟩
  have b10p : f9 8 = .pointer (some ⟨b10, 0, none⟩) := b10e ▸ hP _ mb0 (7, 8) (by simp) rfl
  have b10o : W7.heap.size ≤ b10 := b10e ▸ hlo _ mb0 (by intro h; cases h)
  have X_b10 : Hid (Holds W9 b10 .rint (.rint (qdiv x y))) := Lib.hid (b10e ▸ hS _ mb0)
  have NE : Hid (w.heap.size ≤ b2 ∧ w.heap.size ≤ b3 ∧ w.heap.size ≤ b4 ∧ w.heap.size ≤ b5 ∧ b2 < b3 ∧ b2 < b4 ∧ b2 < b5 ∧ b3 < b4 ∧ b3 < b5 ∧ b4 < b5 ∧ b2 < b10 ∧ b3 < b10 ∧ b4 < b10 ∧ b5 < b10 ∧ w.heap.size ≤ b10) := Lib.hid (by have h := NE.out; omega)
  have X_b2 := Lib.hid (Says.keep b2x b2f b2l (hN (_, _) mb0) hA List.not_mem_nil)
  have X_b3 := Lib.hid (Says.keep b3x b3f b3l (hN (_, _) mb1) hA List.not_mem_nil)
  have X_b4 := Lib.hid (Says.keep b4x b4f b4l (hN (_, _) mb2) hA List.not_mem_nil)
  have X_b5 := Lib.hid (Says.keep b5x b5f b5l (hN (_, _) mb3) hA List.not_mem_nil)
  have V_7_9 := Lib.hid (hN (_, _) mb5)
  simp only [fillSlots, b10p, List.setIfInBounds_toArray, List.set_cons_succ, List.set_cons_zero]
  clear hf hS hN hA hP hlo hlt hap b2x b2m b2f b2l b3x b3m b3f b3l b4x b4m b4f b4l b5x b5m b5f b5l b10e b10o b10p HB0
  refine hK8.out _ _ ?_; clear hK8
  refine wp_seq_k ?_; intro K11 hK11; replace hK11 := Lib.hid hK11
  refine wp_seq_k ?_; intro K12 hK12; replace hK12 := Lib.hid hK12
  obtain ⟨b2v, b2x, b2m, b2f, b2l⟩ := X_b2.out.op rfl
  obtain ⟨b3v, b3x, b3m, b3f, b3l⟩ := X_b3.out.op rfl
  obtain ⟨b4v, b4x, b4m, b4f, b4l⟩ := X_b4.out.op rfl
  obtain ⟨b5v, b5x, b5m, b5f, b5l⟩ := X_b5.out.op rfl
  obtain ⟨b10v, b10x, b10m, b10f, b10l⟩ := X_b10.out.op rfl
  clear X_b2 X_b3 X_b4 X_b5 X_b10
  refine region_tell (T := [0, 1, 2, 3, 4, 5, 6, 7, 8, 9]) (slots := [24, 25, 26, 27, 28, 29, 30, 31, 32, 33]) (tab := [.is (.pointer (some ⟨b2, 0, none⟩)), .is (.bool g1), .is (.pointer (some ⟨b3, 0, none⟩)), .is (.bool g2), .is (.bool false), .is (.bool false), .is undef, .is undef, .is undef, .is (.bool false)])
      (D := []) (F := [(b2v, .rint x), (b3v, .rint y), (b4v, .rint 0), (b5v, .rint 0), (b10v, .rint (qdiv x y)), ((f7 7), .rnum (x.natAbs % y.natAbs))]) List.Pairwise.nil (fc b2m (fc b3m (fc b4m (fc b5m (fc b10m (fc V_7_9.out fn)))))) hn ?_ ?_
  · refine .pl rfl (fun β E W Γ => ev_faR0 (Γ.s rfl)) ?_
    refine .pl rfl (fun β E W Γ => ev_ldR0 (Γ.k 0 rfl) (b2x.far Γ.A List.not_mem_nil) (Γ.F (_, _) mb0) H1.out.1.symm) ?_
    refine .pl rfl (fun β E W Γ => ev_faR0 (Γ.s rfl)) ?_
    refine .pl rfl (fun β E W Γ => ev_ldR0 (Γ.k 2 rfl) (b3x.far Γ.A List.not_mem_nil) (Γ.F (_, _) mb1) H2.out.1.symm) ?_
    refine .pl rfl (fun β E W Γ => ev_neqB (Γ.k 1 rfl) (Γ.k 3 rfl) HNE.out) ?_
    refine .pl rfl (fun β E W Γ => ev_move _ (Γ.k 4 rfl)) ?_
    refine .off rfl rfl rfl rfl ?_
    refine .off rfl rfl rfl rfl ?_
    refine .off rfl rfl rfl rfl ?_
    refine .pl rfl (fun β E W Γ => ev_pick (Γ.k 5 rfl) (Γ.c _)) ?_
    exact .nil
  intro β f13 W13 hf hS hN hA hP hlo hlt hap
  have HB := Lib.hid (HB.out.trans (hA.below (B := w.heap.size) (by intro b hb; simp [oldBlocks] at hb) HB.out.size))
  have X_b2 := Lib.hid (Says.keep b2x b2f b2l (hN (_, _) mb0) hA List.not_mem_nil)
  have X_b3 := Lib.hid (Says.keep b3x b3f b3l (hN (_, _) mb1) hA List.not_mem_nil)
  have X_b4 := Lib.hid (Says.keep b4x b4f b4l (hN (_, _) mb2) hA List.not_mem_nil)
  have X_b5 := Lib.hid (Says.keep b5x b5f b5l (hN (_, _) mb3) hA List.not_mem_nil)
  have X_b10 := Lib.hid (Says.keep b10x b10f b10l (hN (_, _) mb4) hA List.not_mem_nil)
  have p33_13 : f13 33 = .bool false := hf (9, 33) (by simp)
  simp only [fillSlots, p33_13, List.setIfInBounds_toArray, List.set_cons_succ, List.set_cons_zero]
  clear hf hS hN hA hP hlo hlt hap b2x b2m b2f b2l b3x b3m b3f b3l b4x b4m b4f b4l b5x b5m b5f b5l b10x b10m b10f b10l p33_13
  refine hK12.out _ _ ?_; clear hK12
  refine wp_cond_false rfl ?_
  refine wp_skip ?_
  refine hK11.out _ _ ?_; clear hK11
  refine wp_seq_k ?_; intro K14 hK14; replace hK14 := Lib.hid hK14
  obtain ⟨b2v, b2x, b2m, b2f, b2l⟩ := X_b2.out.op rfl
  obtain ⟨b3v, b3x, b3m, b3f, b3l⟩ := X_b3.out.op rfl
  obtain ⟨b4v, b4x, b4m, b4f, b4l⟩ := X_b4.out.op rfl
  obtain ⟨b5v, b5x, b5m, b5f, b5l⟩ := X_b5.out.op rfl
  obtain ⟨b10v, b10x, b10m, b10f, b10l⟩ := X_b10.out.op rfl
  clear X_b2 X_b3 X_b4 X_b5 X_b10
  have b2n : b2 ∉ [b4, b5] := by have h := NE.out; simp; omega
  have b3n : b3 ∉ [b4, b5] := by have h := NE.out; simp; omega
  have b10n : b10 ∉ [b4, b5] := by have h := NE.out; simp; omega
  refine region_tell (T := [0, 1, 2, 3, 4, 5]) (slots := [37, 38, 39, 40, 41, 42]) (tab := [.rint (qdiv x y), .rint x, .rint (qdiv x y), .rint y, .rint (qdiv x y * y), .rint (qmod x y), .any, .any])
      (D := [⟨b4, .rint, none, 6, .rint (qdiv x y), b4v⟩, ⟨b5, .rint, none, 7, .rint (qmod x y), b5v⟩]) (F := [(b2v, .rint x), (b3v, .rint y), (b4v, .rint 0), (b5v, .rint 0), (b10v, .rint (qdiv x y))]) (by have h := NE.out; show List.Pairwise _ [(⟨b4, .rint, none, 6, .rint (qdiv x y), b4v⟩ : DBox), (⟨b5, .rint, none, 7, .rint (qmod x y), b5v⟩ : DBox)]; simp; omega) (fc b2m (fc b3m (fc b4m (fc b5m (fc b10m fn))))) (ho b4x b4f b4l (ho b5x b5f b5l hn)) ?_ ?_
  · refine .pl rfl (fun β E W Γ => ev_ldR (Γ.s rfl) (b10x.far Γ.A b10n) (Γ.F (_, _) mb4)) ?_
    refine .pl rfl (fun β E W Γ => ev_ldR (Γ.s rfl) (b2x.far Γ.A b2n) (Γ.F (_, _) mb0)) ?_
    refine .pl rfl (fun β E W Γ => ev_ldR (Γ.s rfl) (b10x.far Γ.A b10n) (Γ.F (_, _) mb4)) ?_
    refine .pl rfl (fun β E W Γ => ev_ldR (Γ.s rfl) (b3x.far Γ.A b3n) (Γ.F (_, _) mb1)) ?_
    refine .pl rfl (fun β E W Γ => ev_call2 (Γ.f _) run_rIMul (rIMul_want W _ _ (qdiv x y) y (by omega) (by omega) (Γ.w (d := 39) 2 rfl) (Γ.w (d := 40) 3 rfl))) ?_
    refine .pl rfl (fun β E W Γ => ev_call2 (Γ.f _) run_rISub (rISub_want W _ _ x (qdiv x y * y) (by omega) (by have := ds_natAbs_mul (qdiv x y) y; omega) (Γ.w (d := 38) 1 rfl) (Γ.w (d := 41) 4 rfl))) ?_
    refine .st rfl mb0 (fun β E W Γ => ev_stR (Γ.s rfl) (Γ.b1 mb0) (Γ.b2 mb0) (Γ.w 0 rfl)) ?_
    refine .st rfl mb1 (fun β E W Γ => ev_stR (Γ.s rfl) (Γ.b1 mb1) (Γ.b2 mb1) (Γ.w 5 rfl)) ?_
    exact .nil
  intro β f15 W15 hf hS hN hA hP hlo hlt hap
  have HB := Lib.hid (HB.out.trans (hA.below (B := w.heap.size) (by have h := NE.out; simp [oldBlocks]; omega) HB.out.size))
  have X_b4 : Hid (Holds W15 b4 .rint (.rint (qdiv x y))) := Lib.hid (hS _ mb0)
  have X_b5 : Hid (Holds W15 b5 .rint (.rint (qmod x y))) := Lib.hid (hS _ mb1)
  have X_b2 := Lib.hid (Says.keep b2x b2f b2l (hN (_, _) mb0) hA b2n)
  have X_b3 := Lib.hid (Says.keep b3x b3f b3l (hN (_, _) mb1) hA b3n)
  have X_b10 := Lib.hid (Says.keep b10x b10f b10l (hN (_, _) mb4) hA b10n)
  simp only [fillSlots, List.setIfInBounds_toArray, List.set_cons_succ, List.set_cons_zero]
  clear hf hS hN hA hP hlo hlt hap b2x b2m b2f b2l b2n b3x b3m b3f b3l b3n b4x b4m b4f b4l b5x b5m b5f b5l b10x b10m b10f b10l b10n
  refine hK14.out _ _ ?_; clear hK14
  refine wp_ret ?_
  obtain ⟨⟨u0, hx0, hm0⟩, -⟩ := X_b4.out
  obtain ⟨gr0, pr0, lr0, cr0, rfl, c0_0, c0_1⟩ := hx0.rint
  obtain ⟨⟨u1, hx1, hm1⟩, -⟩ := X_b5.out
  obtain ⟨gr1, pr1, lr1, cr1, rfl, c1_0, c1_1⟩ := hx1.rint
  exact bodyPost_ret (v := .tuple #[.agg #[.bool gr0, .slice pr0 lr0 cr0], .agg #[.bool gr1, .slice pr1 lr1 cr1]]) (by simp [results, Tryz.results11, go_sem, c0_0, c0_1, c1_0, c1_1]) rfl ⟨_, rfl, ⟨_, _, rfl, hm0, hm1⟩, HB.out⟩

set_option maxRecDepth 100000 in
set_option maxHeartbeats 4000000 in
theorem rIDiv_zero (w : World) (g1 g2 : Bool) (p1 p2 : Option Addr) (l1 c1 l2 c2 : Nat) (x y : Int) (hy : y ≠ 0) (sx : (ds x.natAbs).length ≤ 28) (sy : (ds y.natAbs).length ≤ 28) (hd : decide (x < 0) ≠ decide (y < 0)) (hm : x.natAbs % y.natAbs = 0) (h1 : IsRI w g1 p1 l1 c1 x) (h2 : IsRI w g2 p2 l2 c2 y) :
    Calls Tryz.prog 11 #[.agg #[.bool g1, .slice p1 l1 c1], .agg #[.bool g2, .slice p2 l2 c2]] w (Gives w (.two (.rint (qdiv x y)) (.rint (qmod x y)))) := by
  have sq := ds_qdiv x y hy
  have HY : Hid (0 < y.natAbs) := Lib.hid (by omega)
  have HNE : Hid ((!(g1 == g2)) = true) := Lib.hid (by rw [h1.1, h2.1]; simp [hd])
  have HZ : Hid (sgn true (x.natAbs / y.natAbs) = qdiv x y) := Lib.hid ((parts_zero hy hd hm).1)
  have HM0 : Hid (decide (x.natAbs % y.natAbs ≠ 0) = false) := Lib.hid (by simp [hm])
  have H1 := Lib.hid h1; have H2 := Lib.hid h2
  clear h1 h2 hy hd hm
  go_enter Tryz.func11, Tryz.ntmps11
  refine wp_seq_k ?_; intro K1 hK1; replace hK1 := Lib.hid hK1
  go_wp2
  obtain ⟨W2, b2, eW2, eb2, sz2, X2, hb2, hc2⟩ := put_box w w .rint (.rint x) [.bool g1, .slice p1 l1 c1] 32 ⟨⟨_, rfl⟩, ⟨_, _, _, rfl⟩, trivial⟩ ⟨_, _, _, _, rfl, H1.out⟩ (Below.refl _ _)
  obtain ⟨W3, b3, eW3, eb3, sz3, X3, hb3, hc3⟩ := put_box w W2 .rint (.rint y) [.bool g2, .slice p2 l2 c2] 32 ⟨⟨_, rfl⟩, ⟨_, _, _, rfl⟩, trivial⟩ ⟨_, _, _, _, rfl, H2.out⟩ hc2
  obtain ⟨W4, b4, eW4, eb4, sz4, X4, hb4, hc4⟩ := put_box w W3 .rint (.rint 0) [.bool false, .slice none 0 0] 32 ⟨⟨_, rfl⟩, ⟨_, _, _, rfl⟩, trivial⟩ ⟨_, _, _, _, rfl, rfl, by simp [dr_zero], Nat.le_refl _, fun h => absurd rfl h⟩ hc3
  obtain ⟨W5, b5, eW5, eb5, sz5, X5, hb5, hc5⟩ := put_box w W4 .rint (.rint 0) [.bool false, .slice none 0 0] 32 ⟨⟨_, rfl⟩, ⟨_, _, _, rfl⟩, trivial⟩ ⟨_, _, _, _, rfl, rfl, by simp [dr_zero], Nat.le_refl _, fun h => absurd rfl h⟩ hc4
  rw [sz2] at eb3
  rw [sz3] at eb4
  rw [sz2] at eb4
  rw [sz4] at eb5
  rw [sz3] at eb5
  rw [sz2] at eb5
  rw [← eW2, ← eW3, ← eW4, ← eW5]
  rw [← eb5, ← eb4, ← eb3, ← eb2]
  have X_b2 := Lib.hid (((X2.mono hb3).mono hb4).mono hb5)
  have X_b3 := Lib.hid ((X3.mono hb4).mono hb5)
  have X_b4 := Lib.hid (X4.mono hb5)
  have X_b5 := Lib.hid X5
  have HB := Lib.hid hc5
  have NE : Hid (w.heap.size ≤ b2 ∧ w.heap.size ≤ b3 ∧ w.heap.size ≤ b4 ∧ w.heap.size ≤ b5 ∧ b2 < b3 ∧ b2 < b4 ∧ b2 < b5 ∧ b3 < b4 ∧ b3 < b5 ∧ b4 < b5) := Lib.hid (by omega)
  clear eW5 eb5 sz5 X5 hb5 hc5 eW4 eb4 sz4 X4 hb4 hc4 eW3 eb3 sz3 X3 hb3 hc3 eW2 eb2 sz2 X2 hb2 hc2
  refine hK1.out _ _ ?_; clear hK1; try clear K1
  refine wp_seq_k ?_; intro K6 hK6; replace hK6 := Lib.hid hK6
  obtain ⟨b2v, b2x, b2m, b2f, b2l⟩ := X_b2.out.op rfl
  obtain ⟨b3v, b3x, b3m, b3f, b3l⟩ := X_b3.out.op rfl
  obtain ⟨b4v, b4x, b4m, b4f, b4l⟩ := X_b4.out.op rfl
  obtain ⟨b5v, b5x, b5m, b5f, b5l⟩ := X_b5.out.op rfl
  clear X_b2 X_b3 X_b4 X_b5
  refine region_tell (T := [0, 1, 2, 3, 4, 5, 6, 7, 8, 9]) (slots := [10, 11, 12, 13, 14, 9, 15, 16, 6, 7]) (tab := [.is (.pointer (some ⟨b2, 1, none⟩)), .rnum x.natAbs, .is (.pointer (some ⟨b3, 1, none⟩)), .rnum y.natAbs, .two (.rnum (x.natAbs / y.natAbs)) (.rnum (x.natAbs % y.natAbs)), .two (.rnum (x.natAbs / y.natAbs)) (.rnum (x.natAbs % y.natAbs)), .rnum (x.natAbs / y.natAbs), .rnum (x.natAbs % y.natAbs), .rnum (x.natAbs / y.natAbs), .rnum (x.natAbs % y.natAbs)])
      (D := []) (F := [(b2v, .rint x), (b3v, .rint y), (b4v, .rint 0), (b5v, .rint 0)]) List.Pairwise.nil (fc b2m (fc b3m (fc b4m (fc b5m fn)))) hn ?_ ?_
  · refine .pl rfl (fun β E W Γ => ev_faR1 (Γ.s rfl)) ?_
    refine .pl rfl (fun β E W Γ => ev_ldR1 (Γ.k 0 rfl) (b2x.far Γ.A List.not_mem_nil) (Γ.F (_, _) mb0) rfl) ?_
    refine .pl rfl (fun β E W Γ => ev_faR1 (Γ.s rfl)) ?_
    refine .pl rfl (fun β E W Γ => ev_ldR1 (Γ.k 2 rfl) (b3x.far Γ.A List.not_mem_nil) (Γ.F (_, _) mb1) rfl) ?_
    refine .pl rfl (fun β E W Γ => ev_call2 (Γ.f _) run_rDiv (rDiv_want W _ _ x.natAbs y.natAbs (by omega) HY.out (Γ.w (d := 11) 1 rfl) (Γ.w (d := 13) 3 rfl))) ?_
    refine .pl rfl (fun β E W Γ => ev_moveM (Γ.w 4 rfl)) ?_
    refine .pl rfl (fun β E W Γ => ev_ex20 (Γ.w 5 rfl)) ?_
    refine .pl rfl (fun β E W Γ => ev_ex21 (Γ.w 5 rfl)) ?_
    refine .pl rfl (fun β E W Γ => ev_assignM (Γ.w 6 rfl)) ?_
    refine .pl rfl (fun β E W Γ => ev_assignM (Γ.w 7 rfl)) ?_
    exact .nil
  intro β f7 W7 hf hS hN hA hP hlo hlt hap
  have HB := Lib.hid (HB.out.trans (hA.below (B := w.heap.size) (by intro b hb; simp [oldBlocks] at hb) HB.out.size))
  have X_b2 := Lib.hid (Says.keep b2x b2f b2l (hN (_, _) mb0) hA List.not_mem_nil)
  have X_b3 := Lib.hid (Says.keep b3x b3f b3l (hN (_, _) mb1) hA List.not_mem_nil)
  have X_b4 := Lib.hid (Says.keep b4x b4f b4l (hN (_, _) mb2) hA List.not_mem_nil)
  have X_b5 := Lib.hid (Says.keep b5x b5f b5l (hN (_, _) mb3) hA List.not_mem_nil)
  have V_6_7 : Hid (Means W7 (.rnum (x.natAbs / y.natAbs)) (f7 6)) := Lib.hid (hf (8, 6) (by simp))
  have V_7_7 : Hid (Means W7 (.rnum (x.natAbs % y.natAbs)) (f7 7)) := Lib.hid (hf (9, 7) (by simp))
  simp only [fillSlots, List.setIfInBounds_toArray, List.set_cons_succ, List.set_cons_zero]
  clear hf hS hN hA hP hlo hlt hap b2x b2m b2f b2l b3x b3m b3f b3l b4x b4m b4f b4l b5x b5m b5f b5l
  refine hK6.out _ _ ?_; clear hK6
  refine wp_seq_k ?_; intro K8 hK8; replace hK8 := Lib.hid hK8
  obtain ⟨b2v, b2x, b2m, b2f, b2l⟩ := X_b2.out.op rfl
  obtain ⟨b3v, b3x, b3m, b3f, b3l⟩ := X_b3.out.op rfl
  obtain ⟨b4v, b4x, b4m, b4f, b4l⟩ := X_b4.out.op rfl
  obtain ⟨b5v, b5x, b5m, b5f, b5l⟩ := X_b5.out.op rfl
  clear X_b2 X_b3 X_b4 X_b5
  refine region_tell (T := [0, 1, 2, 3, 4, 5, 6, 7]) (slots := [17, 18, 19, 20, 21, 22, 23, 8]) (tab := [.is (.pointer (some ⟨b2, 0, none⟩)), .is (.bool g1), .is (.pointer (some ⟨b3, 0, none⟩)), .is (.bool g2), .is (.bool true), .rnum (x.natAbs / y.natAbs), .rint (qdiv x y), .any, .any])
      (D := [⟨0, .rint, some 7, 8, .rint (qdiv x y), .agg #[.bool false, .slice none 0 0]⟩]) (F := [(b2v, .rint x), (b3v, .rint y), (b4v, .rint 0), (b5v, .rint 0), ((f7 6), .rnum (x.natAbs / y.natAbs)), ((f7 7), .rnum (x.natAbs % y.natAbs))]) List.Pairwise.nil (fc b2m (fc b3m (fc b4m (fc b5m (fc V_6_7.out (fc V_7_7.out fn)))))) (ha hn) ?_ ?_
  · refine .pl rfl (fun β E W Γ => ev_faR0 (Γ.s rfl)) ?_
    refine .pl rfl (fun β E W Γ => ev_ldR0 (Γ.k 0 rfl) (b2x.far Γ.A List.not_mem_nil) (Γ.F (_, _) mb0) H1.out.1.symm) ?_
    refine .pl rfl (fun β E W Γ => ev_faR0 (Γ.s rfl)) ?_
    refine .pl rfl (fun β E W Γ => ev_ldR0 (Γ.k 2 rfl) (b3x.far Γ.A List.not_mem_nil) (Γ.F (_, _) mb1) H2.out.1.symm) ?_
    refine .pl rfl (fun β E W Γ => ev_neqB (Γ.k 1 rfl) (Γ.k 3 rfl) HNE.out) ?_
    refine .pl rfl (fun β E W Γ => ev_moveM (Γ.m rfl mb4)) ?_
    refine .pl rfl (fun β E W Γ => ev_call2 (Γ.f _) run_rI (by rw [(show _ = Value.bool true from (Γ.k (d := 21) 4 rfl))]; exact rI_gives W _ _ (x.natAbs / y.natAbs) (qdiv x y) HZ.out (Γ.w (d := 22) 5 rfl))) ?_
    refine .al rfl mb0 (fun _ _ => ev_alR) ?_
    refine .st rfl mb0 (fun β E W Γ => ev_stR (Γ.q mb0 rfl) (Γ.b1 mb0) (Γ.b2 mb0) (Γ.w 6 rfl)) ?_
    exact .nil
  intro β f9 W9 hf hS hN hA hP hlo hlt hap
  have HB0 := HB.out.size
  have HB := Lib.hid (HB.out.trans (hA.below (B := w.heap.size) (by intro b hb; simp [oldBlocks] at hb) HB.out.size))
  obtain ⟨b10, b10e⟩ : ∃ b, b = β 8 := ⟨_, rfl⟩
  have b10p : f9 8 = .pointer (some ⟨b10, 0, none⟩) := b10e ▸ hP _ mb0 (7, 8) (by simp) rfl
  have b10o : W7.heap.size ≤ b10 := b10e ▸ hlo _ mb0 (by intro h; cases h)
  have X_b10 : Hid (Holds W9 b10 .rint (.rint (qdiv x y))) := Lib.hid (b10e ▸ hS _ mb0)
  have NE : Hid (w.heap.size ≤ b2 ∧ w.heap.size ≤ b3 ∧ w.heap.size ≤ b4 ∧ w.heap.size ≤ b5 ∧ b2 < b3 ∧ b2 < b4 ∧ b2 < b5 ∧ b3 < b4 ∧ b3 < b5 ∧ b4 < b5 ∧ b2 < b10 ∧ b3 < b10 ∧ b4 < b10 ∧ b5 < b10 ∧ w.heap.size ≤ b10) := Lib.hid (by have h := NE.out; omega)
  have X_b2 := Lib.hid (Says.keep b2x b2f b2l (hN (_, _) mb0) hA List.not_mem_nil)
  have X_b3 := Lib.hid (Says.keep b3x b3f b3l (hN (_, _) mb1) hA List.not_mem_nil)
  have X_b4 := Lib.hid (Says.keep b4x b4f b4l (hN (_, _) mb2) hA List.not_mem_nil)
  have X_b5 := Lib.hid (Says.keep b5x b5f b5l (hN (_, _) mb3) hA List.not_mem_nil)
  have V_7_9 := Lib.hid (hN (_, _) mb5)
  simp only [fillSlots, b10p, List.setIfInBounds_toArray, List.set_cons_succ, List.set_cons_zero]
  clear hf hS hN hA hP hlo hlt hap b2x b2m b2f b2l b3x b3m b3f b3l b4x b4m b4f b4l b5x b5m b5f b5l b10e b10o b10p HB0
  refine hK8.out _ _ ?_; clear hK8
  refine wp_seq_k ?_; intro K11 hK11; replace hK11 := Lib.hid hK11
  refine wp_seq_k ?_; intro K12 hK12; replace hK12 := Lib.hid hK12
  obtain ⟨b2v, b2x, b2m, b2f, b2l⟩ := X_b2.out.op rfl
  obtain ⟨b3v, b3x, b3m, b3f, b3l⟩ := X_b3.out.op rfl
  obtain ⟨b4v, b4x, b4m, b4f, b4l⟩ := X_b4.out.op rfl
  obtain ⟨b5v, b5x, b5m, b5f, b5l⟩ := X_b5.out.op rfl
  obtain ⟨b10v, b10x, b10m, b10f, b10l⟩ := X_b10.out.op rfl
  clear X_b2 X_b3 X_b4 X_b5 X_b10
  refine region_tell (T := [0, 1, 2, 3, 4, 5, 6, 7, 8, 9]) (slots := [24, 25, 26, 27, 28, 29, 30, 31, 32, 33]) (tab := [.is (.pointer (some ⟨b2, 0, none⟩)), .is (.bool g1), .is (.pointer (some ⟨b3, 0, none⟩)), .is (.bool g2), .is (.bool true), .is (.bool true), .rnum (x.natAbs % y.natAbs), .that (lenS (x.natAbs % y.natAbs)), .is (.bool false), .is (.bool false)])
      (D := []) (F := [(b2v, .rint x), (b3v, .rint y), (b4v, .rint 0), (b5v, .rint 0), (b10v, .rint (qdiv x y)), ((f7 7), .rnum (x.natAbs % y.natAbs))]) List.Pairwise.nil (fc b2m (fc b3m (fc b4m (fc b5m (fc b10m (fc V_7_9.out fn)))))) hn ?_ ?_
  · refine .pl rfl (fun β E W Γ => ev_faR0 (Γ.s rfl)) ?_
    refine .pl rfl (fun β E W Γ => ev_ldR0 (Γ.k 0 rfl) (b2x.far Γ.A List.not_mem_nil) (Γ.F (_, _) mb0) H1.out.1.symm) ?_
    refine .pl rfl (fun β E W Γ => ev_faR0 (Γ.s rfl)) ?_
    refine .pl rfl (fun β E W Γ => ev_ldR0 (Γ.k 2 rfl) (b3x.far Γ.A List.not_mem_nil) (Γ.F (_, _) mb1) H2.out.1.symm) ?_
    refine .pl rfl (fun β E W Γ => ev_neqB (Γ.k 1 rfl) (Γ.k 3 rfl) HNE.out) ?_
    refine .pl rfl (fun β E W Γ => ev_move _ (Γ.k 4 rfl)) ?_
    refine .gu rfl rfl rfl rfl (fun β E W Γ => ev_moveM (Γ.m rfl mb5)) ?_
    refine .gu rfl rfl rfl rfl (fun β E W Γ => ev_len (Γ.w 6 rfl)) ?_
    refine .gu rfl rfl rfl rfl (fun β E W Γ => ev_lenGtr (Γ.w 7 rfl) HM0.out Γ.c) ?_
    refine .pl rfl (fun β E W Γ => ev_pick (Γ.k 5 rfl) (Γ.k 8 rfl)) ?_
    exact .nil
  intro β f13 W13 hf hS hN hA hP hlo hlt hap
  have HB := Lib.hid (HB.out.trans (hA.below (B := w.heap.size) (by intro b hb; simp [oldBlocks] at hb) HB.out.size))
  have X_b2 := Lib.hid (Says.keep b2x b2f b2l (hN (_, _) mb0) hA List.not_mem_nil)
  have X_b3 := Lib.hid (Says.keep b3x b3f b3l (hN (_, _) mb1) hA List.not_mem_nil)
  have X_b4 := Lib.hid (Says.keep b4x b4f b4l (hN (_, _) mb2) hA List.not_mem_nil)
  have X_b5 := Lib.hid (Says.keep b5x b5f b5l (hN (_, _) mb3) hA List.not_mem_nil)
  have X_b10 := Lib.hid (Says.keep b10x b10f b10l (hN (_, _) mb4) hA List.not_mem_nil)
  have p33_13 : f13 33 = .bool false := hf (9, 33) (by simp)
  simp only [fillSlots, p33_13, List.setIfInBounds_toArray, List.set_cons_succ, List.set_cons_zero]
  clear hf hS hN hA hP hlo hlt hap b2x b2m b2f b2l b3x b3m b3f b3l b4x b4m b4f b4l b5x b5m b5f b5l b10x b10m b10f b10l p33_13
  refine hK12.out _ _ ?_; clear hK12
  refine wp_cond_false rfl ?_
  refine wp_skip ?_
  refine hK11.out _ _ ?_; clear hK11
  refine wp_seq_k ?_; intro K14 hK14; replace hK14 := Lib.hid hK14
  obtain ⟨b2v, b2x, b2m, b2f, b2l⟩ := X_b2.out.op rfl
  obtain ⟨b3v, b3x, b3m, b3f, b3l⟩ := X_b3.out.op rfl
  obtain ⟨b4v, b4x, b4m, b4f, b4l⟩ := X_b4.out.op rfl
  obtain ⟨b5v, b5x, b5m, b5f, b5l⟩ := X_b5.out.op rfl
  obtain ⟨b10v, b10x, b10m, b10f, b10l⟩ := X_b10.out.op rfl
  clear X_b2 X_b3 X_b4 X_b5 X_b10
  have b2n : b2 ∉ [b4, b5] := by have h := NE.out; simp; omega
  have b3n : b3 ∉ [b4, b5] := by have h := NE.out; simp; omega
  have b10n : b10 ∉ [b4, b5] := by have h := NE.out; simp; omega
  refine region_tell (T := [0, 1, 2, 3, 4, 5]) (slots := [37, 38, 39, 40, 41, 42]) (tab := [.rint (qdiv x y), .rint x, .rint (qdiv x y), .rint y, .rint (qdiv x y * y), .rint (qmod x y), .any, .any])
      (D := [⟨b4, .rint, none, 6, .rint (qdiv x y), b4v⟩, ⟨b5, .rint, none, 7, .rint (qmod x y), b5v⟩]) (F := [(b2v, .rint x), (b3v, .rint y), (b4v, .rint 0), (b5v, .rint 0), (b10v, .rint (qdiv x y))]) (by have h := NE.out; show List.Pairwise _ [(⟨b4, .rint, none, 6, .rint (qdiv x y), b4v⟩ : DBox), (⟨b5, .rint, none, 7, .rint (qmod x y), b5v⟩ : DBox)]; simp; omega) (fc b2m (fc b3m (fc b4m (fc b5m (fc b10m fn))))) (ho b4x b4f b4l (ho b5x b5f b5l hn)) ?_ ?_
  · refine .pl rfl (fun β E W Γ => ev_ldR (Γ.s rfl) (b10x.far Γ.A b10n) (Γ.F (_, _) mb4)) ?_
    refine .pl rfl (fun β E W Γ => ev_ldR (Γ.s rfl) (b2x.far Γ.A b2n) (Γ.F (_, _) mb0)) ?_
    refine .pl rfl (fun β E W Γ => ev_ldR (Γ.s rfl) (b10x.far Γ.A b10n) (Γ.F (_, _) mb4)) ?_
    refine .pl rfl (fun β E W Γ => ev_ldR (Γ.s rfl) (b3x.far Γ.A b3n) (Γ.F (_, _) mb1)) ?_
    refine .pl rfl (fun β E W Γ => ev_call2 (Γ.f _) run_rIMul (rIMul_want W _ _ (qdiv x y) y (by omega) (by omega) (Γ.w (d := 39) 2 rfl) (Γ.w (d := 40) 3 rfl))) ?_
    refine .pl rfl (fun β E W Γ => ev_call2 (Γ.f _) run_rISub (rISub_want W _ _ x (qdiv x y * y) (by omega) (by have := ds_natAbs_mul (qdiv x y) y; omega) (Γ.w (d := 38) 1 rfl) (Γ.w (d := 41) 4 rfl))) ?_
    refine .st rfl mb0 (fun β E W Γ => ev_stR (Γ.s rfl) (Γ.b1 mb0) (Γ.b2 mb0) (Γ.w 0 rfl)) ?_
    refine .st rfl mb1 (fun β E W Γ => ev_stR (Γ.s rfl) (Γ.b1 mb1) (Γ.b2 mb1) (Γ.w 5 rfl)) ?_
    exact .nil
  intro β f15 W15 hf hS hN hA hP hlo hlt hap
  have HB := Lib.hid (HB.out.trans (hA.below (B := w.heap.size) (by have h := NE.out; simp [oldBlocks]; omega) HB.out.size))
  have X_b4 : Hid (Holds W15 b4 .rint (.rint (qdiv x y))) := Lib.hid (hS _ mb0)
  have X_b5 : Hid (Holds W15 b5 .rint (.rint (qmod x y))) := Lib.hid (hS _ mb1)
  have X_b2 := Lib.hid (Says.keep b2x b2f b2l (hN (_, _) mb0) hA b2n)
  have X_b3 := Lib.hid (Says.keep b3x b3f b3l (hN (_, _) mb1) hA b3n)
  have X_b10 := Lib.hid (Says.keep b10x b10f b10l (hN (_, _) mb4) hA b10n)
  simp only [fillSlots, List.setIfInBounds_toArray, List.set_cons_succ, List.set_cons_zero]
  clear hf hS hN hA hP hlo hlt hap b2x b2m b2f b2l b2n b3x b3m b3f b3l b3n b4x b4m b4f b4l b5x b5m b5f b5l b10x b10m b10f b10l b10n
  refine hK14.out _ _ ?_; clear hK14
  refine wp_ret ?_
  obtain ⟨⟨u0, hx0, hm0⟩, -⟩ := X_b4.out
  obtain ⟨gr0, pr0, lr0, cr0, rfl, c0_0, c0_1⟩ := hx0.rint
  obtain ⟨⟨u1, hx1, hm1⟩, -⟩ := X_b5.out
  obtain ⟨gr1, pr1, lr1, cr1, rfl, c1_0, c1_1⟩ := hx1.rint
  exact bodyPost_ret (v := .tuple #[.agg #[.bool gr0, .slice pr0 lr0 cr0], .agg #[.bool gr1, .slice pr1 lr1 cr1]]) (by simp [results, Tryz.results11, go_sem, c0_0, c0_1, c1_0, c1_1]) rfl ⟨_, rfl, ⟨_, _, rfl, hm0, hm1⟩, HB.out⟩

set_option maxRecDepth 100000 in
set_option maxHeartbeats 4000000 in
theorem rIDiv_more (w : World) (g1 g2 : Bool) (p1 p2 : Option Addr) (l1 c1 l2 c2 : Nat) (x y : Int) (hy : y ≠ 0) (sx : (ds x.natAbs).length ≤ 28) (sy : (ds y.natAbs).length ≤ 28) (hd : decide (x < 0) ≠ decide (y < 0)) (hm : x.natAbs % y.natAbs ≠ 0) (h1 : IsRI w g1 p1 l1 c1 x) (h2 : IsRI w g2 p2 l2 c2 y) :
    Calls Tryz.prog 11 #[.agg #[.bool g1, .slice p1 l1 c1], .agg #[.bool g2, .slice p2 l2 c2]] w (Gives w (.two (.rint (qdiv x y)) (.rint (qmod x y)))) := by
  have sq := ds_qdiv x y hy
  have HY : Hid (0 < y.natAbs) := Lib.hid (by omega)
  have HNE : Hid ((!(g1 == g2)) = true) := Lib.hid (by rw [h1.1, h2.1]; simp [hd])
  have HZ : Hid (sgn true (x.natAbs / y.natAbs) = qdiv x y + 1) := Lib.hid (by have := (parts_more hy hd hm).1; unfold sgn at this ⊢; simp at this ⊢; omega)
  have HM0 : Hid (decide (x.natAbs % y.natAbs ≠ 0) = true) := Lib.hid (by simp [hm])
  have HQ1 : Hid ((ds (qdiv x y + 1).natAbs).length ≤ 60) := Lib.hid (by have := ds_natAbs_add (qdiv x y) 1; rw [show ((1 : Int).natAbs) = 1 from rfl, ds_one (show (1 : Nat) < 2 ^ 64 by omega)] at this; omega)
  have H1 := Lib.hid h1; have H2 := Lib.hid h2
  clear h1 h2 hy hd hm
  go_enter Tryz.func11, Tryz.ntmps11
  refine wp_seq_k ?_; intro K1 hK1; replace hK1 := Lib.hid hK1
  go_wp2
  obtain ⟨W2, b2, eW2, eb2, sz2, X2, hb2, hc2⟩ := put_box w w .rint (.rint x) [.bool g1, .slice p1 l1 c1] 32 ⟨⟨_, rfl⟩, ⟨_, _, _, rfl⟩, trivial⟩ ⟨_, _, _, _, rfl, H1.out⟩ (Below.refl _ _)
  obtain ⟨W3, b3, eW3, eb3, sz3, X3, hb3, hc3⟩ := put_box w W2 .rint (.rint y) [.bool g2, .slice p2 l2 c2] 32 ⟨⟨_, rfl⟩, ⟨_, _, _, rfl⟩, trivial⟩ ⟨_, _, _, _, rfl, H2.out⟩ hc2
  obtain ⟨W4, b4, eW4, eb4, sz4, X4, hb4, hc4⟩ := put_box w W3 .rint (.rint 0) [.bool false, .slice none 0 0] 32 ⟨⟨_, rfl⟩, ⟨_, _, _, rfl⟩, trivial⟩ ⟨_, _, _, _, rfl, rfl, by simp [dr_zero], Nat.le_refl _, fun h => absurd rfl h⟩ hc3
  obtain ⟨W5, b5, eW5, eb5, sz5, X5, hb5, hc5⟩ := put_box w W4 .rint (.rint 0) [.bool false, .slice none 0 0] 32 ⟨⟨_, rfl⟩, ⟨_, _, _, rfl⟩, trivial⟩ ⟨_, _, _, _, rfl, rfl, by simp [dr_zero], Nat.le_refl _, fun h => absurd rfl h⟩ hc4
  rw [sz2] at eb3
  rw [sz3] at eb4
  rw [sz2] at eb4
  rw [sz4] at eb5
  rw [sz3] at eb5
  rw [sz2] at eb5
  rw [← eW2, ← eW3, ← eW4, ← eW5]
  rw [← eb5, ← eb4, ← eb3, ← eb2]
  have X_b2 := Lib.hid (((X2.mono hb3).mono hb4).mono hb5)
  have X_b3 := Lib.hid ((X3.mono hb4).mono hb5)
  have X_b4 := Lib.hid (X4.mono hb5)
  have X_b5 := Lib.hid X5
  have HB := Lib.hid hc5
  have NE : Hid (w.heap.size ≤ b2 ∧ w.heap.size ≤ b3 ∧ w.heap.size ≤ b4 ∧ w.heap.size ≤ b5 ∧ b2 < b3 ∧ b2 < b4 ∧ b2 < b5 ∧ b3 < b4 ∧ b3 < b5 ∧ b4 < b5) := Lib.hid (by omega)
  clear eW5 eb5 sz5 X5 hb5 hc5 eW4 eb4 sz4 X4 hb4 hc4 eW3 eb3 sz3 X3 hb3 hc3 eW2 eb2 sz2 X2 hb2 hc2
  refine hK1.out _ _ ?_; clear hK1; try clear K1
  refine wp_seq_k ?_; intro K6 hK6; replace hK6 := Lib.hid hK6
  obtain ⟨b2v, b2x, b2m, b2f, b2l⟩ := X_b2.out.op rfl
  obtain ⟨b3v, b3x, b3m, b3f, b3l⟩ := X_b3.out.op rfl
  obtain ⟨b4v, b4x, b4m, b4f, b4l⟩ := X_b4.out.op rfl
  obtain ⟨b5v, b5x, b5m, b5f, b5l⟩ := X_b5.out.op rfl
  clear X_b2 X_b3 X_b4 X_b5
  refine region_tell (T := [0, 1, 2, 3, 4, 5, 6, 7, 8, 9]) (slots := [10, 11, 12, 13, 14, 9, 15, 16, 6, 7]) (tab := [.is (.pointer (some ⟨b2, 1, none⟩)), .rnum x.natAbs, .is (.pointer (some ⟨b3, 1, none⟩)), .rnum y.natAbs, .two (.rnum (x.natAbs / y.natAbs)) (.rnum (x.natAbs % y.natAbs)), .two (.rnum (x.natAbs / y.natAbs)) (.rnum (x.natAbs % y.natAbs)), .rnum (x.natAbs / y.natAbs), .rnum (x.natAbs % y.natAbs), .rnum (x.natAbs / y.natAbs), .rnum (x.natAbs % y.natAbs)])
      (D := []) (F := [(b2v, .rint x), (b3v, .rint y), (b4v, .rint 0), (b5v, .rint 0)]) List.Pairwise.nil (fc b2m (fc b3m (fc b4m (fc b5m fn)))) hn ?_ ?_
  · refine .pl rfl (fun β E W Γ => ev_faR1 (Γ.s rfl)) ?_
    refine .pl rfl (fun β E W Γ => ev_ldR1 (Γ.k 0 rfl) (b2x.far Γ.A List.not_mem_nil) (Γ.F (_, _) mb0) rfl) ?_
    refine .pl rfl (fun β E W Γ => ev_faR1 (Γ.s rfl)) ?_
    refine .pl rfl (fun β E W Γ => ev_ldR1 (Γ.k 2 rfl) (b3x.far Γ.A List.not_mem_nil) (Γ.F (_, _) mb1) rfl) ?_
    refine .pl rfl (fun β E W Γ => ev_call2 (Γ.f _) run_rDiv (rDiv_want W _ _ x.natAbs y.natAbs (by omega) HY.out (Γ.w (d := 11) 1 rfl) (Γ.w (d := 13) 3 rfl))) ?_
    refine .pl rfl (fun β E W Γ => ev_moveM (Γ.w 4 rfl)) ?_
    refine .pl rfl (fun β E W Γ => ev_ex20 (Γ.w 5 rfl)) ?_
    refine .pl rfl (fun β E W Γ => ev_ex21 (Γ.w 5 rfl)) ?_
    refine .pl rfl (fun β E W Γ => ev_assignM (Γ.w 6 rfl)) ?_
    refine .pl rfl (fun β E W Γ => ev_assignM (Γ.w 7 rfl)) ?_
    exact .nil
  intro β f7 W7 hf hS hN hA hP hlo hlt hap
  have HB := Lib.hid (HB.out.trans (hA.below (B := w.heap.size) (by intro b hb; simp [oldBlocks] at hb) HB.out.size))
  have X_b2 := Lib.hid (Says.keep b2x b2f b2l (hN (_, _) mb0) hA List.not_mem_nil)
  have X_b3 := Lib.hid (Says.keep b3x b3f b3l (hN (_, _) mb1) hA List.not_mem_nil)
  have X_b4 := Lib.hid (Says.keep b4x b4f b4l (hN (_, _) mb2) hA List.not_mem_nil)
  have X_b5 := Lib.hid (Says.keep b5x b5f b5l (hN (_, _) mb3) hA List.not_mem_nil)
  have V_6_7 : Hid (Means W7 (.rnum (x.natAbs / y.natAbs)) (f7 6)) := Lib.hid (hf (8, 6) (by simp))
  have V_7_7 : Hid (Means W7 (.rnum (x.natAbs % y.natAbs)) (f7 7)) := Lib.hid (hf (9, 7) (by simp))
  simp only [fillSlots, List.setIfInBounds_toArray, List.set_cons_succ, List.set_cons_zero]
  clear hf hS hN hA hP hlo hlt hap b2x b2m b2f b2l b3x b3m b3f b3l b4x b4m b4f b4l b5x b5m b5f b5l
  refine hK6.out _ _ ?_; clear hK6
  refine wp_seq_k ?_; intro K8 hK8; replace hK8 := Lib.hid hK8
  obtain ⟨b2v, b2x, b2m, b2f, b2l⟩ := X_b2.out.op rfl
  obtain ⟨b3v, b3x, b3m, b3f, b3l⟩ := X_b3.out.op rfl
  obtain ⟨b4v, b4x, b4m, b4f, b4l⟩ := X_b4.out.op rfl
  obtain ⟨b5v, b5x, b5m, b5f, b5l⟩ := X_b5.out.op rfl
  clear X_b2 X_b3 X_b4 X_b5
  refine region_tell (T := [0, 1, 2, 3, 4, 5, 6, 7]) (slots := [17, 18, 19, 20, 21, 22, 23, 8]) (tab := [.is (.pointer (some ⟨b2, 0, none⟩)), .is (.bool g1), .is (.pointer (some ⟨b3, 0, none⟩)), .is (.bool g2), .is (.bool true), .rnum (x.natAbs / y.natAbs), .rint (qdiv x y + 1), .any, .any])
      (D := [⟨0, .rint, some 7, 8, .rint (qdiv x y + 1), .agg #[.bool false, .slice none 0 0]⟩]) (F := [(b2v, .rint x), (b3v, .rint y), (b4v, .rint 0), (b5v, .rint 0), ((f7 6), .rnum (x.natAbs / y.natAbs)), ((f7 7), .rnum (x.natAbs % y.natAbs))]) List.Pairwise.nil (fc b2m (fc b3m (fc b4m (fc b5m (fc V_6_7.out (fc V_7_7.out fn)))))) (ha hn) ?_ ?_
  · refine .pl rfl (fun β E W Γ => ev_faR0 (Γ.s rfl)) ?_
    refine .pl rfl (fun β E W Γ => ev_ldR0 (Γ.k 0 rfl) (b2x.far Γ.A List.not_mem_nil) (Γ.F (_, _) mb0) H1.out.1.symm) ?_
    refine .pl rfl (fun β E W Γ => ev_faR0 (Γ.s rfl)) ?_
    refine .pl rfl (fun β E W Γ => ev_ldR0 (Γ.k 2 rfl) (b3x.far Γ.A List.not_mem_nil) (Γ.F (_, _) mb1) H2.out.1.symm) ?_
    refine .pl rfl (fun β E W Γ => ev_neqB (Γ.k 1 rfl) (Γ.k 3 rfl) HNE.out) ?_
    refine .pl rfl (fun β E W Γ => ev_moveM (Γ.m rfl mb4)) ?_
    refine .pl rfl (fun β E W Γ => ev_call2 (Γ.f _) run_rI (by rw [(show _ = Value.bool true from (Γ.k (d := 21) 4 rfl))]; exact rI_gives W _ _ (x.natAbs / y.natAbs) (qdiv x y + 1) HZ.out (Γ.w (d := 22) 5 rfl))) ?_
    refine .al rfl mb0 (fun _ _ => ev_alR) ?_
    refine .st rfl mb0 (fun β E W Γ => ev_stR (Γ.q mb0 rfl) (Γ.b1 mb0) (Γ.b2 mb0) (Γ.w 6 rfl)) ?_
    exact .nil
  intro β f9 W9 hf hS hN hA hP hlo hlt hap
  have HB0 := HB.out.size
  have HB := Lib.hid (HB.out.trans (hA.below (B := w.heap.size) (by intro b hb; simp [oldBlocks] at hb) HB.out.size))
  obtain ⟨b10, b10e⟩ : ∃ b, b = β 8 := ⟨_, rfl⟩
  have b10p : f9 8 = .pointer (some ⟨b10, 0, none⟩) := b10e ▸ hP _ mb0 (7, 8) (by simp) rfl
  have b10o : W7.heap.size ≤ b10 := b10e ▸ hlo _ mb0 (by intro h; cases h)
  have X_b10 : Hid (Holds W9 b10 .rint (.rint (qdiv x y + 1))) := Lib.hid (b10e ▸ hS _ mb0)
  have NE : Hid (w.heap.size ≤ b2 ∧ w.heap.size ≤ b3 ∧ w.heap.size ≤ b4 ∧ w.heap.size ≤ b5 ∧ b2 < b3 ∧ b2 < b4 ∧ b2 < b5 ∧ b3 < b4 ∧ b3 < b5 ∧ b4 < b5 ∧ b2 < b10 ∧ b3 < b10 ∧ b4 < b10 ∧ b5 < b10 ∧ w.heap.size ≤ b10) := Lib.hid (by have h := NE.out; omega)
  have X_b2 := Lib.hid (Says.keep b2x b2f b2l (hN (_, _) mb0) hA List.not_mem_nil)
  have X_b3 := Lib.hid (Says.keep b3x b3f b3l (hN (_, _) mb1) hA List.not_mem_nil)
  have X_b4 := Lib.hid (Says.keep b4x b4f b4l (hN (_, _) mb2) hA List.not_mem_nil)
  have X_b5 := Lib.hid (Says.keep b5x b5f b5l (hN (_, _) mb3) hA List.not_mem_nil)
  have V_7_9 := Lib.hid (hN (_, _) mb5)
  simp only [fillSlots, b10p, List.setIfInBounds_toArray, List.set_cons_succ, List.set_cons_zero]
  clear hf hS hN hA hP hlo hlt hap b2x b2m b2f b2l b3x b3m b3f b3l b4x b4m b4f b4l b5x b5m b5f b5l b10e b10o b10p HB0
  refine hK8.out _ _ ?_; clear hK8
  refine wp_seq_k ?_; intro K11 hK11; replace hK11 := Lib.hid hK11
  refine wp_seq_k ?_; intro K12 hK12; replace hK12 := Lib.hid hK12
  obtain ⟨b2v, b2x, b2m, b2f, b2l⟩ := X_b2.out.op rfl
  obtain ⟨b3v, b3x, b3m, b3f, b3l⟩ := X_b3.out.op rfl
  obtain ⟨b4v, b4x, b4m, b4f, b4l⟩ := X_b4.out.op rfl
  obtain ⟨b5v, b5x, b5m, b5f, b5l⟩ := X_b5.out.op rfl
  obtain ⟨b10v, b10x, b10m, b10f, b10l⟩ := X_b10.out.op rfl
  clear X_b2 X_b3 X_b4 X_b5 X_b10
  refine region_tell (T := [0, 1, 2, 3, 4, 5, 6, 7, 8, 9]) (slots := [24, 25, 26, 27, 28, 29, 30, 31, 32, 33]) (tab := [.is (.pointer (some ⟨b2, 0, none⟩)), .is (.bool g1), .is (.pointer (some ⟨b3, 0, none⟩)), .is (.bool g2), .is (.bool true), .is (.bool true), .rnum (x.natAbs % y.natAbs), .that (lenS (x.natAbs % y.natAbs)), .is (.bool true), .is (.bool true)])
      (D := []) (F := [(b2v, .rint x), (b3v, .rint y), (b4v, .rint 0), (b5v, .rint 0), (b10v, .rint (qdiv x y + 1)), ((f7 7), .rnum (x.natAbs % y.natAbs))]) List.Pairwise.nil (fc b2m (fc b3m (fc b4m (fc b5m (fc b10m (fc V_7_9.out fn)))))) hn ?_ ?_
  · refine .pl rfl (fun β E W Γ => ev_faR0 (Γ.s rfl)) ?_
    refine .pl rfl (fun β E W Γ => ev_ldR0 (Γ.k 0 rfl) (b2x.far Γ.A List.not_mem_nil) (Γ.F (_, _) mb0) H1.out.1.symm) ?_
    refine .pl rfl (fun β E W Γ => ev_faR0 (Γ.s rfl)) ?_
    refine .pl rfl (fun β E W Γ => ev_ldR0 (Γ.k 2 rfl) (b3x.far Γ.A List.not_mem_nil) (Γ.F (_, _) mb1) H2.out.1.symm) ?_
    refine .pl rfl (fun β E W Γ => ev_neqB (Γ.k 1 rfl) (Γ.k 3 rfl) HNE.out) ?_
    refine .pl rfl (fun β E W Γ => ev_move _ (Γ.k 4 rfl)) ?_
    refine .gu rfl rfl rfl rfl (fun β E W Γ => ev_moveM (Γ.m rfl mb5)) ?_
    refine .gu rfl rfl rfl rfl (fun β E W Γ => ev_len (Γ.w 6 rfl)) ?_
    refine .gu rfl rfl rfl rfl (fun β E W Γ => ev_lenGtr (Γ.w 7 rfl) HM0.out Γ.c) ?_
    refine .pl rfl (fun β E W Γ => ev_pick (Γ.k 5 rfl) (Γ.k 8 rfl)) ?_
    exact .nil
  intro β f13 W13 hf hS hN hA hP hlo hlt hap
  have HB := Lib.hid (HB.out.trans (hA.below (B := w.heap.size) (by intro b hb; simp [oldBlocks] at hb) HB.out.size))
  have X_b2 := Lib.hid (Says.keep b2x b2f b2l (hN (_, _) mb0) hA List.not_mem_nil)
  have X_b3 := Lib.hid (Says.keep b3x b3f b3l (hN (_, _) mb1) hA List.not_mem_nil)
  have X_b4 := Lib.hid (Says.keep b4x b4f b4l (hN (_, _) mb2) hA List.not_mem_nil)
  have X_b5 := Lib.hid (Says.keep b5x b5f b5l (hN (_, _) mb3) hA List.not_mem_nil)
  have X_b10 := Lib.hid (Says.keep b10x b10f b10l (hN (_, _) mb4) hA List.not_mem_nil)
  have p33_13 : f13 33 = .bool true := hf (9, 33) (by simp)
  simp only [fillSlots, p33_13, List.setIfInBounds_toArray, List.set_cons_succ, List.set_cons_zero]
  clear hf hS hN hA hP hlo hlt hap b2x b2m b2f b2l b3x b3m b3f b3l b4x b4m b4f b4l b5x b5m b5f b5l b10x b10m b10f b10l p33_13
  refine hK12.out _ _ ?_; clear hK12
  refine wp_cond_true rfl ?_
  obtain ⟨b2v, b2x, b2m, b2f, b2l⟩ := X_b2.out.op rfl
  obtain ⟨b3v, b3x, b3m, b3f, b3l⟩ := X_b3.out.op rfl
  obtain ⟨b4v, b4x, b4m, b4f, b4l⟩ := X_b4.out.op rfl
  obtain ⟨b5v, b5x, b5m, b5f, b5l⟩ := X_b5.out.op rfl
  obtain ⟨b10v, b10x, b10m, b10f, b10l⟩ := X_b10.out.op rfl
  clear X_b2 X_b3 X_b4 X_b5 X_b10
  have b2n : b2 ∉ [b10] := by have h := NE.out; simp; omega
  have b3n : b3 ∉ [b10] := by have h := NE.out; simp; omega
  have b4n : b4 ∉ [b10] := by have h := NE.out; simp; omega
  have b5n : b5 ∉ [b10] := by have h := NE.out; simp; omega
  refine region_tell (T := [0, 1, 2]) (slots := [34, 35, 36]) (tab := [.rint (qdiv x y + 1), .rint 1, .rint (qdiv x y), .any])
      (D := [⟨b10, .rint, none, 3, .rint (qdiv x y), b10v⟩]) (F := [(b2v, .rint x), (b3v, .rint y), (b4v, .rint 0), (b5v, .rint 0), (b10v, .rint (qdiv x y + 1))]) (List.pairwise_singleton _ _) (fc b2m (fc b3m (fc b4m (fc b5m (fc b10m fn))))) (ho b10x b10f b10l hn) ?_ ?_
  · refine .pl rfl (fun β E W Γ => ev_ldR (Γ.s rfl) (Γ.b1 mb0) (Γ.F (_, _) mb4)) ?_
    refine .pl rfl (fun β E W Γ => ev_call1 (Γ.f _) run_rIOf (by rw [Γ.c]; exact rIOf_any 1 W (by omega) (by omega))) ?_
    refine .pl rfl (fun β E W Γ => ev_call2 (Γ.f _) run_rISub (show Calls Tryz.prog 46 #[_, _] W (Gives W (.rint (qdiv x y))) from by have := rISub_want W _ _ (qdiv x y + 1) 1 HQ1.out (by rw [show ((1 : Int).natAbs) = 1 from rfl, ds_one (show (1 : Nat) < 2 ^ 64 by omega)]; omega) (Γ.w (d := 34) 0 rfl) (Γ.w (d := 35) 1 rfl); rw [show qdiv x y + 1 - 1 = qdiv x y by omega] at this; exact this.mono fun e w' ⟨v, h1, h2, h3⟩ => ⟨v, h1, h2, h3⟩)) ?_
    refine .st rfl mb0 (fun β E W Γ => ev_stR (Γ.s rfl) (Γ.b1 mb0) (Γ.b2 mb0) (Γ.w 2 rfl)) ?_
    exact .nil
  intro β f14 W14 hf hS hN hA hP hlo hlt hap
  have HB := Lib.hid (HB.out.trans (hA.below (B := w.heap.size) (by have h := NE.out; simp [oldBlocks]; omega) HB.out.size))
  have X_b10 : Hid (Holds W14 b10 .rint (.rint (qdiv x y))) := Lib.hid (hS _ mb0)
  have X_b2 := Lib.hid (Says.keep b2x b2f b2l (hN (_, _) mb0) hA b2n)
  have X_b3 := Lib.hid (Says.keep b3x b3f b3l (hN (_, _) mb1) hA b3n)
  have X_b4 := Lib.hid (Says.keep b4x b4f b4l (hN (_, _) mb2) hA b4n)
  have X_b5 := Lib.hid (Says.keep b5x b5f b5l (hN (_, _) mb3) hA b5n)
  simp only [fillSlots, List.setIfInBounds_toArray, List.set_cons_succ, List.set_cons_zero]
  clear hf hS hN hA hP hlo hlt hap b2x b2m b2f b2l b2n b3x b3m b3f b3l b3n b4x b4m b4f b4l b4n b5x b5m b5f b5l b5n b10x b10m b10f b10l
  refine hK11.out _ _ ?_; clear hK11
  refine wp_seq_k ?_; intro K15 hK15; replace hK15 := Lib.hid hK15
  obtain ⟨b2v, b2x, b2m, b2f, b2l⟩ := X_b2.out.op rfl
  obtain ⟨b3v, b3x, b3m, b3f, b3l⟩ := X_b3.out.op rfl
  obtain ⟨b4v, b4x, b4m, b4f, b4l⟩ := X_b4.out.op rfl
  obtain ⟨b5v, b5x, b5m, b5f, b5l⟩ := X_b5.out.op rfl
  obtain ⟨b10v, b10x, b10m, b10f, b10l⟩ := X_b10.out.op rfl
  clear X_b2 X_b3 X_b4 X_b5 X_b10
  have b2n : b2 ∉ [b4, b5] := by have h := NE.out; simp; omega
  have b3n : b3 ∉ [b4, b5] := by have h := NE.out; simp; omega
  have b10n : b10 ∉ [b4, b5] := by have h := NE.out; simp; omega
  refine region_tell (T := [0, 1, 2, 3, 4, 5]) (slots := [37, 38, 39, 40, 41, 42]) (tab := [.rint (qdiv x y), .rint x, .rint (qdiv x y), .rint y, .rint (qdiv x y * y), .rint (qmod x y), .any, .any])
      (D := [⟨b4, .rint, none, 6, .rint (qdiv x y), b4v⟩, ⟨b5, .rint, none, 7, .rint (qmod x y), b5v⟩]) (F := [(b2v, .rint x), (b3v, .rint y), (b4v, .rint 0), (b5v, .rint 0), (b10v, .rint (qdiv x y))]) (by have h := NE.out; show List.Pairwise _ [(⟨b4, .rint, none, 6, .rint (qdiv x y), b4v⟩ : DBox), (⟨b5, .rint, none, 7, .rint (qmod x y), b5v⟩ : DBox)]; simp; omega) (fc b2m (fc b3m (fc b4m (fc b5m (fc b10m fn))))) (ho b4x b4f b4l (ho b5x b5f b5l hn)) ?_ ?_
  · refine .pl rfl (fun β E W Γ => ev_ldR (Γ.s rfl) (b10x.far Γ.A b10n) (Γ.F (_, _) mb4)) ?_
    refine .pl rfl (fun β E W Γ => ev_ldR (Γ.s rfl) (b2x.far Γ.A b2n) (Γ.F (_, _) mb0)) ?_
    refine .pl rfl (fun β E W Γ => ev_ldR (Γ.s rfl) (b10x.far Γ.A b10n) (Γ.F (_, _) mb4)) ?_
    refine .pl rfl (fun β E W Γ => ev_ldR (Γ.s rfl) (b3x.far Γ.A b3n) (Γ.F (_, _) mb1)) ?_
    refine .pl rfl (fun β E W Γ => ev_call2 (Γ.f _) run_rIMul (rIMul_want W _ _ (qdiv x y) y (by omega) (by omega) (Γ.w (d := 39) 2 rfl) (Γ.w (d := 40) 3 rfl))) ?_
    refine .pl rfl (fun β E W Γ => ev_call2 (Γ.f _) run_rISub (rISub_want W _ _ x (qdiv x y * y) (by omega) (by have := ds_natAbs_mul (qdiv x y) y; omega) (Γ.w (d := 38) 1 rfl) (Γ.w (d := 41) 4 rfl))) ?_
    refine .st rfl mb0 (fun β E W Γ => ev_stR (Γ.s rfl) (Γ.b1 mb0) (Γ.b2 mb0) (Γ.w 0 rfl)) ?_
    refine .st rfl mb1 (fun β E W Γ => ev_stR (Γ.s rfl) (Γ.b1 mb1) (Γ.b2 mb1) (Γ.w 5 rfl)) ?_
    exact .nil
  intro β f16 W16 hf hS hN hA hP hlo hlt hap
  have HB := Lib.hid (HB.out.trans (hA.below (B := w.heap.size) (by have h := NE.out; simp [oldBlocks]; omega) HB.out.size))
  have X_b4 : Hid (Holds W16 b4 .rint (.rint (qdiv x y))) := Lib.hid (hS _ mb0)
  have X_b5 : Hid (Holds W16 b5 .rint (.rint (qmod x y))) := Lib.hid (hS _ mb1)
  have X_b2 := Lib.hid (Says.keep b2x b2f b2l (hN (_, _) mb0) hA b2n)
  have X_b3 := Lib.hid (Says.keep b3x b3f b3l (hN (_, _) mb1) hA b3n)
  have X_b10 := Lib.hid (Says.keep b10x b10f b10l (hN (_, _) mb4) hA b10n)
  simp only [fillSlots, List.setIfInBounds_toArray, List.set_cons_succ, List.set_cons_zero]
  clear hf hS hN hA hP hlo hlt hap b2x b2m b2f b2l b2n b3x b3m b3f b3l b3n b4x b4m b4f b4l b5x b5m b5f b5l b10x b10m b10f b10l b10n
  refine hK15.out _ _ ?_; clear hK15
  refine wp_ret ?_
  obtain ⟨⟨u0, hx0, hm0⟩, -⟩ := X_b4.out
  obtain ⟨gr0, pr0, lr0, cr0, rfl, c0_0, c0_1⟩ := hx0.rint
  obtain ⟨⟨u1, hx1, hm1⟩, -⟩ := X_b5.out
  obtain ⟨gr1, pr1, lr1, cr1, rfl, c1_0, c1_1⟩ := hx1.rint
  exact bodyPost_ret (v := .tuple #[.agg #[.bool gr0, .slice pr0 lr0 cr0], .agg #[.bool gr1, .slice pr1 lr1 cr1]]) (by simp [results, Tryz.results11, go_sem, c0_0, c0_1, c1_0, c1_1]) rfl ⟨_, rfl, ⟨_, _, rfl, hm0, hm1⟩, HB.out⟩

theorem rIDiv_want (w : World) (u v : Value) (x y : Int) (hy : y ≠ 0) (sx : (ds x.natAbs).length ≤ 28) (sy : (ds y.natAbs).length ≤ 28) (h1 : RINum w u x) (h2 : RINum w v y) :
    Calls Tryz.prog 11 #[u, v] w (Gives w (.two (.rint (qdiv x y)) (.rint (qmod x y)))) := by
  obtain ⟨g1, p1, l1, c1, rfl, h1⟩ := h1
  obtain ⟨g2, p2, l2, c2, rfl, h2⟩ := h2
  by_cases hd : decide (x < 0) = decide (y < 0)
  · exact rIDiv_same w g1 g2 p1 p2 l1 c1 l2 c2 x y hy sx sy hd h1 h2
  · by_cases hm : x.natAbs % y.natAbs = 0
    · exact rIDiv_zero w g1 g2 p1 p2 l1 c1 l2 c2 x y hy sx sy hd hm h1 h2
    · exact rIDiv_more w g1 g2 p1 p2 l1 c1 l2 c2 x y hy sx sy hd hm h1 h2
end Go.Proofs.YthjeidgmkkkmbaaGreatDoor
