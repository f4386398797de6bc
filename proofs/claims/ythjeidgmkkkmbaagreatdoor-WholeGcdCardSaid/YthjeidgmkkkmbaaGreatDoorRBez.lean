/- The document's greatest common divisor, and how it is made of both numbers. -/
import Derived.Test.YthjeidgmkkkmbaaGreatDoorRGcd
import Derived.Test.YthjeidgmkkkmbaaGreatDoorBezU
namespace Go.Proofs.YthjeidgmkkkmbaaGreatDoor
open Go.RowKit

theorem SInv.sizes {a b r s x u : Int} (h : SInv a b r s x u) (ha : (ds a.natAbs).length ≤ 9) (hb : (ds b.natAbs).length ≤ 9) :
    (ds r.natAbs).length ≤ 18 ∧ (ds s.natAbs).length ≤ 18 ∧ (ds x.natAbs).length ≤ 9 ∧ (ds u.natAbs).length ≤ 9 := by
  have h0 := ds_mono h.k0; have h1 := ds_mono h.k1; have h2 := ds_mono h.m0; have h3 := ds_mono h.m1
  have := ds_add a.natAbs b.natAbs
  omega
/-- What the call leaves. -/
def RetRBez (W : World) (a b : Int) : Ending → World → Prop := fun e w' => ∃ v, e = .returned v ∧ (∃ (g : Nat) (X Y : Int), g = Nat.gcd a.natAbs b.natAbs ∧ BezSpec a b X Y ∧ Means w' (.three (.rint (g : Int)) (.rint X) (.rint Y)) v) ∧ Below W.heap.size W w'
set_option maxRecDepth 100000 in
set_option maxHeartbeats 8000000 in
theorem rBez_some (w : World) (g1 g2 : Bool) (p1 p2 : Option Addr) (l1 c1 l2 c2 : Nat) (a b : Int) (hb : b ≠ 0) (sa : (ds a.natAbs).length ≤ 9) (sb : (ds b.natAbs).length ≤ 9) (h1 : IsRI w g1 p1 l1 c1 a) (h2 : IsRI w g2 p2 l2 c2 b) :
    Calls Tryz.prog 19 #[.agg #[.bool g1, .slice p1 l1 c1], .agg #[.bool g2, .slice p2 l2 c2]] w (RetRBez w a b) := by
  have HB0' := Lib.hid hb; have SAB := Lib.hid (And.intro sa sb); have HST := Lib.hid (SInv.start (a := a) hb)
  have H1 := Lib.hid h1; have H2 := Lib.hid h2
  clear h1 h2 hb sa sb
  go_enter Tryz.func19, Tryz.ntmps19
  refine wp_seq_k ?_; intro K1 hK1; replace hK1 := Lib.hid hK1
  go_wp2
  obtain ⟨W2, b2, eW2, eb2, sz2, X2, hb2, hc2⟩ := put_box w w .rint (.rint a) [.bool g1, .slice p1 l1 c1] 32 ⟨⟨_, rfl⟩, ⟨_, _, _, rfl⟩, trivial⟩ ⟨_, _, _, _, rfl, H1.out⟩ (Below.refl _ _)
  obtain ⟨W3, b3, eW3, eb3, sz3, X3, hb3, hc3⟩ := put_box w W2 .rint (.rint b) [.bool g2, .slice p2 l2 c2] 32 ⟨⟨_, rfl⟩, ⟨_, _, _, rfl⟩, trivial⟩ ⟨_, _, _, _, rfl, H2.out⟩ hc2
  obtain ⟨W4, b4, eW4, eb4, sz4, X4, hb4, hc4⟩ := put_box w W3 .rint (.rint 0) [.bool false, .slice none 0 0] 32 ⟨⟨_, rfl⟩, ⟨_, _, _, rfl⟩, trivial⟩ ⟨_, _, _, _, rfl, rfl, by simp [dr_zero], Nat.le_refl _, fun h => absurd rfl h⟩ hc3
  obtain ⟨W5, b5, eW5, eb5, sz5, X5, hb5, hc5⟩ := put_box w W4 .rint (.rint 0) [.bool false, .slice none 0 0] 32 ⟨⟨_, rfl⟩, ⟨_, _, _, rfl⟩, trivial⟩ ⟨_, _, _, _, rfl, rfl, by simp [dr_zero], Nat.le_refl _, fun h => absurd rfl h⟩ hc4
  obtain ⟨W6, b6, eW6, eb6, sz6, X6, hb6, hc6⟩ := put_box w W5 .rint (.rint 0) [.bool false, .slice none 0 0] 32 ⟨⟨_, rfl⟩, ⟨_, _, _, rfl⟩, trivial⟩ ⟨_, _, _, _, rfl, rfl, by simp [dr_zero], Nat.le_refl _, fun h => absurd rfl h⟩ hc5
  rw [sz2] at eb3
  rw [sz3] at eb4
  rw [sz2] at eb4
  rw [sz4] at eb5
  rw [sz3] at eb5
  rw [sz2] at eb5
  rw [sz5] at eb6
  rw [sz4] at eb6
  rw [sz3] at eb6
  rw [sz2] at eb6
  rw [← eW2, ← eW3, ← eW4, ← eW5, ← eW6]
  rw [← eb6, ← eb5, ← eb4, ← eb3, ← eb2]
  have X_b2 := Lib.hid ((((X2.mono hb3).mono hb4).mono hb5).mono hb6)
  have X_b3 := Lib.hid (((X3.mono hb4).mono hb5).mono hb6)
  have X_b4 := Lib.hid ((X4.mono hb5).mono hb6)
  have X_b5 := Lib.hid (X5.mono hb6)
  have X_b6 := Lib.hid X6
  have HB := Lib.hid hc6
  have NE : Hid (w.heap.size ≤ b2 ∧ w.heap.size ≤ b3 ∧ w.heap.size ≤ b4 ∧ w.heap.size ≤ b5 ∧ w.heap.size ≤ b6 ∧ b2 < b3 ∧ b2 < b4 ∧ b2 < b5 ∧ b2 < b6 ∧ b3 < b4 ∧ b3 < b5 ∧ b3 < b6 ∧ b4 < b5 ∧ b4 < b6 ∧ b5 < b6) := Lib.hid (by omega)
  clear eW6 eb6 sz6 X6 hb6 hc6 eW5 eb5 sz5 X5 hb5 hc5 eW4 eb4 sz4 X4 hb4 hc4 eW3 eb3 sz3 X3 hb3 hc3 eW2 eb2 sz2 X2 hb2 hc2
  refine hK1.out _ _ ?_; clear hK1; try clear K1
  refine wp_seq_k ?_; intro K7 hK7; replace hK7 := Lib.hid hK7
  refine wp_seq_k ?_; intro K8 hK8; replace hK8 := Lib.hid hK8
  obtain ⟨b2v, b2x, b2m, b2f, b2l⟩ := X_b2.out.op rfl
  obtain ⟨b3v, b3x, b3m, b3f, b3l⟩ := X_b3.out.op rfl
  obtain ⟨b4v, b4x, b4m, b4f, b4l⟩ := X_b4.out.op rfl
  obtain ⟨b5v, b5x, b5m, b5f, b5l⟩ := X_b5.out.op rfl
  obtain ⟨b6v, b6x, b6m, b6f, b6l⟩ := X_b6.out.op rfl
  clear X_b2 X_b3 X_b4 X_b5 X_b6
  refine region_tell (T := [0, 1, 2, 3]) (slots := [17, 18, 19, 20]) (tab := [.is (.pointer (some ⟨b3, 1, none⟩)), .rnum b.natAbs, .that (lenS b.natAbs), .is (.bool false)])
      (D := []) (F := [(b2v, .rint a), (b3v, .rint b), (b4v, .rint 0), (b5v, .rint 0), (b6v, .rint 0)]) List.Pairwise.nil (fc b2m (fc b3m (fc b4m (fc b5m (fc b6m fn))))) hn ?_ ?_
  · refine .pl rfl (fun β E W Γ => ev_faR1 (Γ.s rfl)) ?_
    refine .pl rfl (fun β E W Γ => ev_ldR1 (Γ.k 0 rfl) (b3x.far Γ.A List.not_mem_nil) (Γ.F (_, _) mb1) rfl) ?_
    refine .pl rfl (fun β E W Γ => ev_len (Γ.w 1 rfl)) ?_
    refine .pl rfl (fun β E W Γ => ev_lenEql (Γ.w 2 rfl) (decide_eq_false (by have := HB0'.out; omega)) Γ.c) ?_
    exact .nil
  intro β f9 W9 hf hS hN hA hP hlo hlt hap
  have HB := Lib.hid (HB.out.trans (hA.below (B := w.heap.size) (by intro b hb; simp [oldBlocks] at hb) HB.out.size))
  have X_b2 := Lib.hid (Says.keep b2x b2f b2l (hN (_, _) mb0) hA List.not_mem_nil)
  have X_b3 := Lib.hid (Says.keep b3x b3f b3l (hN (_, _) mb1) hA List.not_mem_nil)
  have X_b4 := Lib.hid (Says.keep b4x b4f b4l (hN (_, _) mb2) hA List.not_mem_nil)
  have X_b5 := Lib.hid (Says.keep b5x b5f b5l (hN (_, _) mb3) hA List.not_mem_nil)
  have X_b6 := Lib.hid (Says.keep b6x b6f b6l (hN (_, _) mb4) hA List.not_mem_nil)
  have p20_9 : f9 20 = .bool false := hf (3, 20) (by simp)
  simp only [fillSlots, p20_9, List.setIfInBounds_toArray, List.set_cons_succ, List.set_cons_zero]
  clear hf hS hN hA hP hlo hlt hap b2x b2m b2f b2l b3x b3m b3f b3l b4x b4m b4f b4l b5x b5m b5f b5l b6x b6m b6f b6l p20_9
  refine hK8.out _ _ ?_; clear hK8
  refine wp_cond_false rfl ?_
  refine wp_skip ?_
  refine hK7.out _ _ ?_; clear hK7
  refine wp_seq_k ?_; intro K10 hK10; replace hK10 := Lib.hid hK10
  obtain ⟨b2v, b2x, b2m, b2f, b2l⟩ := X_b2.out.op rfl
  obtain ⟨b3v, b3x, b3m, b3f, b3l⟩ := X_b3.out.op rfl
  obtain ⟨b4v, b4x, b4m, b4f, b4l⟩ := X_b4.out.op rfl
  obtain ⟨b5v, b5x, b5m, b5f, b5l⟩ := X_b5.out.op rfl
  obtain ⟨b6v, b6x, b6m, b6f, b6l⟩ := X_b6.out.op rfl
  clear X_b2 X_b3 X_b4 X_b5 X_b6
  refine region_tell (T := [0, 1]) (slots := [28, 7]) (tab := [.rint a, .any, .any])
      (D := [⟨0, .rint, some 1, 2, .rint a, .agg #[.bool false, .slice none 0 0]⟩]) (F := [(b2v, .rint a), (b3v, .rint b), (b4v, .rint 0), (b5v, .rint 0), (b6v, .rint 0)]) List.Pairwise.nil (fc b2m (fc b3m (fc b4m (fc b5m (fc b6m fn))))) (ha hn) ?_ ?_
  · refine .pl rfl (fun β E W Γ => ev_ldR (Γ.s rfl) (b2x.far Γ.A List.not_mem_nil) (Γ.F (_, _) mb0)) ?_
    refine .al rfl mb0 (fun _ _ => ev_alR) ?_
    refine .st rfl mb0 (fun β E W Γ => ev_stR (Γ.q mb0 rfl) (Γ.b1 mb0) (Γ.b2 mb0) (Γ.w 0 rfl)) ?_
    exact .nil
  intro β f11 W11 hf hS hN hA hP hlo hlt hap
  have HB0 := HB.out.size
  have HB := Lib.hid (HB.out.trans (hA.below (B := w.heap.size) (by intro b hb; simp [oldBlocks] at hb) HB.out.size))
  obtain ⟨b12, b12e⟩ : ∃ b, b = β 2 := ⟨_, rfl⟩
  have b12p : f11 7 = .pointer (some ⟨b12, 0, none⟩) := b12e ▸ hP _ mb0 (1, 7) (by simp) rfl
  have b12o : W9.heap.size ≤ b12 := b12e ▸ hlo _ mb0 (by intro h; cases h)
  have X_b12 : Hid (Holds W11 b12 .rint (.rint a)) := Lib.hid (b12e ▸ hS _ mb0)
  have NE : Hid (w.heap.size ≤ b2 ∧ w.heap.size ≤ b3 ∧ w.heap.size ≤ b4 ∧ w.heap.size ≤ b5 ∧ w.heap.size ≤ b6 ∧ b2 < b3 ∧ b2 < b4 ∧ b2 < b5 ∧ b2 < b6 ∧ b3 < b4 ∧ b3 < b5 ∧ b3 < b6 ∧ b4 < b5 ∧ b4 < b6 ∧ b5 < b6 ∧ b2 < b12 ∧ b3 < b12 ∧ b4 < b12 ∧ b5 < b12 ∧ b6 < b12 ∧ w.heap.size ≤ b12) := Lib.hid (by have h := NE.out; omega)
  have X_b2 := Lib.hid (Says.keep b2x b2f b2l (hN (_, _) mb0) hA List.not_mem_nil)
  have X_b3 := Lib.hid (Says.keep b3x b3f b3l (hN (_, _) mb1) hA List.not_mem_nil)
  have X_b4 := Lib.hid (Says.keep b4x b4f b4l (hN (_, _) mb2) hA List.not_mem_nil)
  have X_b5 := Lib.hid (Says.keep b5x b5f b5l (hN (_, _) mb3) hA List.not_mem_nil)
  have X_b6 := Lib.hid (Says.keep b6x b6f b6l (hN (_, _) mb4) hA List.not_mem_nil)
  simp only [fillSlots, b12p, List.setIfInBounds_toArray, List.set_cons_succ, List.set_cons_zero]
  clear hf hS hN hA hP hlo hlt hap b2x b2m b2f b2l b3x b3m b3f b3l b4x b4m b4f b4l b5x b5m b5f b5l b6x b6m b6f b6l b12e b12o b12p HB0
  refine hK10.out _ _ ?_; clear hK10
  refine wp_seq_k ?_; intro K13 hK13; replace hK13 := Lib.hid hK13
  obtain ⟨b2v, b2x, b2m, b2f, b2l⟩ := X_b2.out.op rfl
  obtain ⟨b3v, b3x, b3m, b3f, b3l⟩ := X_b3.out.op rfl
  obtain ⟨b4v, b4x, b4m, b4f, b4l⟩ := X_b4.out.op rfl
  obtain ⟨b5v, b5x, b5m, b5f, b5l⟩ := X_b5.out.op rfl
  obtain ⟨b6v, b6x, b6m, b6f, b6l⟩ := X_b6.out.op rfl
  obtain ⟨b12v, b12x, b12m, b12f, b12l⟩ := X_b12.out.op rfl
  clear X_b2 X_b3 X_b4 X_b5 X_b6 X_b12
  refine region_tell (T := [0, 1]) (slots := [29, 8]) (tab := [.rint b, .any, .any])
      (D := [⟨0, .rint, some 1, 2, .rint b, .agg #[.bool false, .slice none 0 0]⟩]) (F := [(b2v, .rint a), (b3v, .rint b), (b4v, .rint 0), (b5v, .rint 0), (b6v, .rint 0), (b12v, .rint a)]) List.Pairwise.nil (fc b2m (fc b3m (fc b4m (fc b5m (fc b6m (fc b12m fn)))))) (ha hn) ?_ ?_
  · refine .pl rfl (fun β E W Γ => ev_ldR (Γ.s rfl) (b3x.far Γ.A List.not_mem_nil) (Γ.F (_, _) mb1)) ?_
    refine .al rfl mb0 (fun _ _ => ev_alR) ?_
    refine .st rfl mb0 (fun β E W Γ => ev_stR (Γ.q mb0 rfl) (Γ.b1 mb0) (Γ.b2 mb0) (Γ.w 0 rfl)) ?_
    exact .nil
  intro β f14 W14 hf hS hN hA hP hlo hlt hap
  have HB0 := HB.out.size
  have HB := Lib.hid (HB.out.trans (hA.below (B := w.heap.size) (by intro b hb; simp [oldBlocks] at hb) HB.out.size))
  obtain ⟨b15, b15e⟩ : ∃ b, b = β 2 := ⟨_, rfl⟩
  have b15p : f14 8 = .pointer (some ⟨b15, 0, none⟩) := b15e ▸ hP _ mb0 (1, 8) (by simp) rfl
  have b15o : W11.heap.size ≤ b15 := b15e ▸ hlo _ mb0 (by intro h; cases h)
  have X_b15 : Hid (Holds W14 b15 .rint (.rint b)) := Lib.hid (b15e ▸ hS _ mb0)
  have NE : Hid (w.heap.size ≤ b2 ∧ w.heap.size ≤ b3 ∧ w.heap.size ≤ b4 ∧ w.heap.size ≤ b5 ∧ w.heap.size ≤ b6 ∧ b2 < b3 ∧ b2 < b4 ∧ b2 < b5 ∧ b2 < b6 ∧ b3 < b4 ∧ b3 < b5 ∧ b3 < b6 ∧ b4 < b5 ∧ b4 < b6 ∧ b5 < b6 ∧ b2 < b12 ∧ b3 < b12 ∧ b4 < b12 ∧ b5 < b12 ∧ b6 < b12 ∧ w.heap.size ≤ b12 ∧ b2 < b15 ∧ b3 < b15 ∧ b4 < b15 ∧ b5 < b15 ∧ b6 < b15 ∧ b12 < b15 ∧ w.heap.size ≤ b15) := Lib.hid (by have h := NE.out; omega)
  have X_b2 := Lib.hid (Says.keep b2x b2f b2l (hN (_, _) mb0) hA List.not_mem_nil)
  have X_b3 := Lib.hid (Says.keep b3x b3f b3l (hN (_, _) mb1) hA List.not_mem_nil)
  have X_b4 := Lib.hid (Says.keep b4x b4f b4l (hN (_, _) mb2) hA List.not_mem_nil)
  have X_b5 := Lib.hid (Says.keep b5x b5f b5l (hN (_, _) mb3) hA List.not_mem_nil)
  have X_b6 := Lib.hid (Says.keep b6x b6f b6l (hN (_, _) mb4) hA List.not_mem_nil)
  have X_b12 := Lib.hid (Says.keep b12x b12f b12l (hN (_, _) mb5) hA List.not_mem_nil)
  simp only [fillSlots, b15p, List.setIfInBounds_toArray, List.set_cons_succ, List.set_cons_zero]
  clear hf hS hN hA hP hlo hlt hap b2x b2m b2f b2l b3x b3m b3f b3l b4x b4m b4f b4l b5x b5m b5f b5l b6x b6m b6f b6l b12x b12m b12f b12l b15e b15o b15p HB0
  refine hK13.out _ _ ?_; clear hK13
  refine wp_seq_k ?_; intro K16 hK16; replace hK16 := Lib.hid hK16
  obtain ⟨b2v, b2x, b2m, b2f, b2l⟩ := X_b2.out.op rfl
  obtain ⟨b3v, b3x, b3m, b3f, b3l⟩ := X_b3.out.op rfl
  obtain ⟨b4v, b4x, b4m, b4f, b4l⟩ := X_b4.out.op rfl
  obtain ⟨b5v, b5x, b5m, b5f, b5l⟩ := X_b5.out.op rfl
  obtain ⟨b6v, b6x, b6m, b6f, b6l⟩ := X_b6.out.op rfl
  obtain ⟨b12v, b12x, b12m, b12f, b12l⟩ := X_b12.out.op rfl
  obtain ⟨b15v, b15x, b15m, b15f, b15l⟩ := X_b15.out.op rfl
  clear X_b2 X_b3 X_b4 X_b5 X_b6 X_b12 X_b15
  refine region_tell (T := [0, 1]) (slots := [30, 9]) (tab := [.rint 1, .any, .any])
      (D := [⟨0, .rint, some 1, 2, .rint 1, .agg #[.bool false, .slice none 0 0]⟩]) (F := [(b2v, .rint a), (b3v, .rint b), (b4v, .rint 0), (b5v, .rint 0), (b6v, .rint 0), (b12v, .rint a), (b15v, .rint b)]) List.Pairwise.nil (fc b2m (fc b3m (fc b4m (fc b5m (fc b6m (fc b12m (fc b15m fn))))))) (ha hn) ?_ ?_
  · refine .pl rfl (fun β E W Γ => ev_call1 (Γ.f _) run_rIOf (by rw [Γ.c]; exact rIOf_any 1 W (by omega) (by omega))) ?_
    refine .al rfl mb0 (fun _ _ => ev_alR) ?_
    refine .st rfl mb0 (fun β E W Γ => ev_stR (Γ.q mb0 rfl) (Γ.b1 mb0) (Γ.b2 mb0) (Γ.w 0 rfl)) ?_
    exact .nil
  intro β f17 W17 hf hS hN hA hP hlo hlt hap
  have HB0 := HB.out.size
  have HB := Lib.hid (HB.out.trans (hA.below (B := w.heap.size) (by intro b hb; simp [oldBlocks] at hb) HB.out.size))
  obtain ⟨b18, b18e⟩ : ∃ b, b = β 2 := ⟨_, rfl⟩
  have b18p : f17 9 = .pointer (some ⟨b18, 0, none⟩) := b18e ▸ hP _ mb0 (1, 9) (by simp) rfl
  have b18o : W14.heap.size ≤ b18 := b18e ▸ hlo _ mb0 (by intro h; cases h)
  have X_b18 : Hid (Holds W17 b18 .rint (.rint 1)) := Lib.hid (b18e ▸ hS _ mb0)
  have NE : Hid (w.heap.size ≤ b2 ∧ w.heap.size ≤ b3 ∧ w.heap.size ≤ b4 ∧ w.heap.size ≤ b5 ∧ w.heap.size ≤ b6 ∧ b2 < b3 ∧ b2 < b4 ∧ b2 < b5 ∧ b2 < b6 ∧ b3 < b4 ∧ b3 < b5 ∧ b3 < b6 ∧ b4 < b5 ∧ b4 < b6 ∧ b5 < b6 ∧ b2 < b12 ∧ b3 < b12 ∧ b4 < b12 ∧ b5 < b12 ∧ b6 < b12 ∧ w.heap.size ≤ b12 ∧ b2 < b15 ∧ b3 < b15 ∧ b4 < b15 ∧ b5 < b15 ∧ b6 < b15 ∧ b12 < b15 ∧ w.heap.size ≤ b15 ∧ b2 < b18 ∧ b3 < b18 ∧ b4 < b18 ∧ b5 < b18 ∧ b6 < b18 ∧ b12 < b18 ∧ b15 < b18 ∧ w.heap.size ≤ b18) := Lib.hid (by have h := NE.out; omega)
  have X_b2 := Lib.hid (Says.keep b2x b2f b2l (hN (_, _) mb0) hA List.not_mem_nil)
  have X_b3 := Lib.hid (Says.keep b3x b3f b3l (hN (_, _) mb1) hA List.not_mem_nil)
  have X_b4 := Lib.hid (Says.keep b4x b4f b4l (hN (_, _) mb2) hA List.not_mem_nil)
  have X_b5 := Lib.hid (Says.keep b5x b5f b5l (hN (_, _) mb3) hA List.not_mem_nil)
  have X_b6 := Lib.hid (Says.keep b6x b6f b6l (hN (_, _) mb4) hA List.not_mem_nil)
  have X_b12 := Lib.hid (Says.keep b12x b12f b12l (hN (_, _) mb5) hA List.not_mem_nil)
  have X_b15 := Lib.hid (Says.keep b15x b15f b15l (hN (_, _) mb6) hA List.not_mem_nil)
  simp only [fillSlots, b18p, List.setIfInBounds_toArray, List.set_cons_succ, List.set_cons_zero]
  clear hf hS hN hA hP hlo hlt hap b2x b2m b2f b2l b3x b3m b3f b3l b4x b4m b4f b4l b5x b5m b5f b5l b6x b6m b6f b6l b12x b12m b12f b12l b15x b15m b15f b15l b18e b18o b18p HB0
  refine hK16.out _ _ ?_; clear hK16
  refine wp_seq_k ?_; intro K19 hK19; replace hK19 := Lib.hid hK19
  obtain ⟨b2v, b2x, b2m, b2f, b2l⟩ := X_b2.out.op rfl
  obtain ⟨b3v, b3x, b3m, b3f, b3l⟩ := X_b3.out.op rfl
  obtain ⟨b4v, b4x, b4m, b4f, b4l⟩ := X_b4.out.op rfl
  obtain ⟨b5v, b5x, b5m, b5f, b5l⟩ := X_b5.out.op rfl
  obtain ⟨b6v, b6x, b6m, b6f, b6l⟩ := X_b6.out.op rfl
  obtain ⟨b12v, b12x, b12m, b12f, b12l⟩ := X_b12.out.op rfl
  obtain ⟨b15v, b15x, b15m, b15f, b15l⟩ := X_b15.out.op rfl
  obtain ⟨b18v, b18x, b18m, b18f, b18l⟩ := X_b18.out.op rfl
  clear X_b2 X_b3 X_b4 X_b5 X_b6 X_b12 X_b15 X_b18
  refine region_tell (T := [0, 1]) (slots := [31, 10]) (tab := [.rint 0, .any, .any])
      (D := [⟨0, .rint, some 1, 2, .rint 0, .agg #[.bool false, .slice none 0 0]⟩]) (F := [(b2v, .rint a), (b3v, .rint b), (b4v, .rint 0), (b5v, .rint 0), (b6v, .rint 0), (b12v, .rint a), (b15v, .rint b), (b18v, .rint 1)]) List.Pairwise.nil (fc b2m (fc b3m (fc b4m (fc b5m (fc b6m (fc b12m (fc b15m (fc b18m fn)))))))) (ha hn) ?_ ?_
  · refine .pl rfl (fun β E W Γ => ev_zeroR) ?_
    refine .al rfl mb0 (fun _ _ => ev_alR) ?_
    refine .st rfl mb0 (fun β E W Γ => ev_stR (Γ.q mb0 rfl) (Γ.b1 mb0) (Γ.b2 mb0) (Γ.w 0 rfl)) ?_
    exact .nil
  intro β f20 W20 hf hS hN hA hP hlo hlt hap
  have HB0 := HB.out.size
  have HB := Lib.hid (HB.out.trans (hA.below (B := w.heap.size) (by intro b hb; simp [oldBlocks] at hb) HB.out.size))
  obtain ⟨b21, b21e⟩ : ∃ b, b = β 2 := ⟨_, rfl⟩
  have b21p : f20 10 = .pointer (some ⟨b21, 0, none⟩) := b21e ▸ hP _ mb0 (1, 10) (by simp) rfl
  have b21o : W17.heap.size ≤ b21 := b21e ▸ hlo _ mb0 (by intro h; cases h)
  have X_b21 : Hid (Holds W20 b21 .rint (.rint 0)) := Lib.hid (b21e ▸ hS _ mb0)
  have NE : Hid (w.heap.size ≤ b2 ∧ w.heap.size ≤ b3 ∧ w.heap.size ≤ b4 ∧ w.heap.size ≤ b5 ∧ w.heap.size ≤ b6 ∧ b2 < b3 ∧ b2 < b4 ∧ b2 < b5 ∧ b2 < b6 ∧ b3 < b4 ∧ b3 < b5 ∧ b3 < b6 ∧ b4 < b5 ∧ b4 < b6 ∧ b5 < b6 ∧ b2 < b12 ∧ b3 < b12 ∧ b4 < b12 ∧ b5 < b12 ∧ b6 < b12 ∧ w.heap.size ≤ b12 ∧ b2 < b15 ∧ b3 < b15 ∧ b4 < b15 ∧ b5 < b15 ∧ b6 < b15 ∧ b12 < b15 ∧ w.heap.size ≤ b15 ∧ b2 < b18 ∧ b3 < b18 ∧ b4 < b18 ∧ b5 < b18 ∧ b6 < b18 ∧ b12 < b18 ∧ b15 < b18 ∧ w.heap.size ≤ b18 ∧ b2 < b21 ∧ b3 < b21 ∧ b4 < b21 ∧ b5 < b21 ∧ b6 < b21 ∧ b12 < b21 ∧ b15 < b21 ∧ b18 < b21 ∧ w.heap.size ≤ b21) := Lib.hid (by have h := NE.out; omega)
  have X_b2 := Lib.hid (Says.keep b2x b2f b2l (hN (_, _) mb0) hA List.not_mem_nil)
  have X_b3 := Lib.hid (Says.keep b3x b3f b3l (hN (_, _) mb1) hA List.not_mem_nil)
  have X_b4 := Lib.hid (Says.keep b4x b4f b4l (hN (_, _) mb2) hA List.not_mem_nil)
  have X_b5 := Lib.hid (Says.keep b5x b5f b5l (hN (_, _) mb3) hA List.not_mem_nil)
  have X_b6 := Lib.hid (Says.keep b6x b6f b6l (hN (_, _) mb4) hA List.not_mem_nil)
  have X_b12 := Lib.hid (Says.keep b12x b12f b12l (hN (_, _) mb5) hA List.not_mem_nil)
  have X_b15 := Lib.hid (Says.keep b15x b15f b15l (hN (_, _) mb6) hA List.not_mem_nil)
  have X_b18 := Lib.hid (Says.keep b18x b18f b18l (hN (_, _) mb7) hA List.not_mem_nil)
  simp only [fillSlots, b21p, List.setIfInBounds_toArray, List.set_cons_succ, List.set_cons_zero]
  clear hf hS hN hA hP hlo hlt hap b2x b2m b2f b2l b3x b3m b3f b3l b4x b4m b4f b4l b5x b5m b5f b5l b6x b6m b6f b6l b12x b12m b12f b12l b15x b15m b15f b15l b18x b18m b18f b18l b21e b21o b21p HB0
  refine hK19.out _ _ ?_; clear hK19
  refine wp_seq_k ?_; intro K22 hK22; replace hK22 := Lib.hid hK22
  refine wp_block ?_
  go_loopg [] b.natAbs (fun k wr => ∃ r s x u, Hid (s.natAbs = k) ∧ Hid (SInv a b r s x u) ∧ Hid (Holds wr b2 .rint (.rint a)) ∧ Hid (Holds wr b3 .rint (.rint b)) ∧ Hid (Holds wr b4 .rint (.rint 0)) ∧ Hid (Holds wr b5 .rint (.rint 0)) ∧ Hid (Holds wr b6 .rint (.rint 0)) ∧ Hid (Holds wr b12 .rint (.rint r)) ∧ Hid (Holds wr b15 .rint (.rint s)) ∧ Hid (Holds wr b18 .rint (.rint x)) ∧ Hid (Holds wr b21 .rint (.rint u)) ∧ Hid (Below w.heap.size w wr))
  case atStart => exact ⟨a, b, 1, 0, Lib.hid rfl, HST, X_b2, X_b3, X_b4, X_b5, X_b6, X_b12, X_b15, X_b18, X_b21, HB⟩
  case round =>
    clear HB HST X_b2 X_b3 X_b4 X_b5 X_b6 X_b12 X_b15 X_b18 X_b21
    obtain ⟨r, s, x, u, HK, HI, X_b2, X_b3, X_b4, X_b5, X_b6, X_b12, X_b15, X_b18, X_b21, HB⟩ := hrel
    have SZ := Lib.hid (HI.out.sizes SAB.out.1 SAB.out.2)
    by_cases hs0 : s = 0
    · subst hs0
      have HGT : Hid (decide ((0 : Int).natAbs ≠ 0) = false) := Lib.hid rfl
      have HSF := Lib.hid HI.out.flip
      rcases Int.lt_or_le r 0 with hn | hn
      · obtain ⟨g, rfl⟩ : ∃ g : Nat, r = -(g : Int) := ⟨r.natAbs, by omega⟩
        have HNG : Hid (decide (-(g : Int) < 0) = true) := Lib.hid (decide_eq_true hn)
        have BI := HSF.out.2 hn
        rw [show (-(g : Int)).natAbs = g by omega] at BI
        obtain ⟨dg, dg0, dp0, -, dspec⟩ := BI.done HB0'.out
        have HDG := Lib.hid dg; have HG0 := Lib.hid dg0; have HSPEC := Lib.hid dspec
        have HP0 : Hid (((b.natAbs / g : Nat) : Int) ≠ 0) := Lib.hid (by omega)
        have SX0 : Hid ((ds (-x).natAbs).length ≤ 28) := Lib.hid (by rw [Int.natAbs_neg]; have := SZ.out; omega)
        have hpq : b.natAbs / g ≤ b.natAbs := Nat.div_le_self _ _
        have SPQ : Hid ((ds ((b.natAbs / g : Nat) : Int).natAbs).length ≤ 28) := Lib.hid (by rw [Int.natAbs_natCast]; have := ds_mono hpq; have := SAB.out; omega)
        have sg : (ds ((g : Int)).natAbs).length ≤ 18 := by rw [Int.natAbs_natCast]; have := SZ.out.1; rw [show (-(g : Int)).natAbs = g by omega] at this; exact this
        have SG : Hid ((ds ((g : Int)).natAbs).length ≤ 60) := Lib.hid (by omega)
        have sxx : (ds (qmod (-x) ((b.natAbs / g : Nat) : Int)).natAbs).length ≤ 9 := by
          have h1 := (qdiv_parts (x := -x) HP0.out).2
          have h2 := ds_mono (show (qmod (-x) ((b.natAbs / g : Nat) : Int)).natAbs ≤ b.natAbs by omega)
          have := SAB.out; omega
        have SXX : Hid ((ds (qmod (-x) ((b.natAbs / g : Nat) : Int)).natAbs).length ≤ 60) := Lib.hid (by omega)
        have sax := ds_natAbs_mul a (qmod (-x) ((b.natAbs / g : Nat) : Int))
        have SAX : Hid ((ds (a * (qmod (-x) ((b.natAbs / g : Nat) : Int))).natAbs).length ≤ 60) := Lib.hid (by have := SAB.out; omega)
        have SGA : Hid ((ds ((g : Int) - a * (qmod (-x) ((b.natAbs / g : Nat) : Int))).natAbs).length ≤ 28) := Lib.hid (by
          have h1 := (qdiv_parts (x := -x) HP0.out).2
          have h2 : ((g : Int) - a * (qmod (-x) ((b.natAbs / g : Nat) : Int))).natAbs ≤ b.natAbs + a.natAbs * b.natAbs := by
            have h3 : (a * (qmod (-x) ((b.natAbs / g : Nat) : Int))).natAbs ≤ a.natAbs * b.natAbs := by rw [Int.natAbs_mul]; exact Nat.mul_le_mul_left _ (by omega)
            have h4 : g ≤ b.natAbs := by rw [dg]; exact Nat.gcd_le_right _ (by have := HB0'.out; omega)
            omega
          have h5 := ds_mono h2; have h6 := ds_add b.natAbs (a.natAbs * b.natAbs); have h7 := ds_mul a.natAbs b.natAbs; have := SAB.out; omega)
        clear dg dg0 dp0 dspec BI hpq sg sxx sax hn HSF
        refine wp_seq_k ?_; intro K23 hK23; replace hK23 := Lib.hid hK23
        refine wp_seq_k ?_; intro K24 hK24; replace hK24 := Lib.hid hK24
        obtain ⟨b2v, b2x, b2m, b2f, b2l⟩ := X_b2.out.op rfl
        obtain ⟨b3v, b3x, b3m, b3f, b3l⟩ := X_b3.out.op rfl
        obtain ⟨b4v, b4x, b4m, b4f, b4l⟩ := X_b4.out.op rfl
        obtain ⟨b5v, b5x, b5m, b5f, b5l⟩ := X_b5.out.op rfl
        obtain ⟨b6v, b6x, b6m, b6f, b6l⟩ := X_b6.out.op rfl
        obtain ⟨b12v, b12x, b12m, b12f, b12l⟩ := X_b12.out.op rfl
        obtain ⟨b15v, b15x, b15m, b15f, b15l⟩ := X_b15.out.op rfl
        obtain ⟨b18v, b18x, b18m, b18f, b18l⟩ := X_b18.out.op rfl
        obtain ⟨b21v, b21x, b21m, b21f, b21l⟩ := X_b21.out.op rfl
        clear X_b2 X_b3 X_b4 X_b5 X_b6 X_b12 X_b15 X_b18 X_b21
        refine region_tell (T := [0, 1, 2, 3]) (slots := [32, 33, 34, 35]) (tab := [.is (.pointer (some ⟨b15, 1, none⟩)), .rnum ((0 : Int).natAbs), .that (lenS ((0 : Int).natAbs)), .is (.bool false)])
            (D := []) (F := [(b2v, .rint a), (b3v, .rint b), (b4v, .rint 0), (b5v, .rint 0), (b6v, .rint 0), (b12v, .rint (-(g : Int))), (b15v, .rint 0), (b18v, .rint x), (b21v, .rint u)]) List.Pairwise.nil (fc b2m (fc b3m (fc b4m (fc b5m (fc b6m (fc b12m (fc b15m (fc b18m (fc b21m fn))))))))) hn ?_ ?_
        · refine .pl rfl (fun β E W Γ => ev_faR1 (Γ.s rfl)) ?_
          refine .pl rfl (fun β E W Γ => ev_ldR1 (Γ.k 0 rfl) (b15x.far Γ.A List.not_mem_nil) (Γ.F (_, _) mb6) rfl) ?_
          refine .pl rfl (fun β E W Γ => ev_len (Γ.w 1 rfl)) ?_
          refine .pl rfl (fun β E W Γ => ev_lenGtr (Γ.w 2 rfl) HGT.out Γ.c) ?_
          exact .nil
        intro β f25 W25 hf hS hN hA hP hlo hlt hap
        have HB := Lib.hid (HB.out.trans (hA.below (B := w.heap.size) (by intro b hb; simp [oldBlocks] at hb) HB.out.size))
        have X_b2 := Lib.hid (Says.keep b2x b2f b2l (hN (_, _) mb0) hA List.not_mem_nil)
        have X_b3 := Lib.hid (Says.keep b3x b3f b3l (hN (_, _) mb1) hA List.not_mem_nil)
        have X_b4 := Lib.hid (Says.keep b4x b4f b4l (hN (_, _) mb2) hA List.not_mem_nil)
        have X_b5 := Lib.hid (Says.keep b5x b5f b5l (hN (_, _) mb3) hA List.not_mem_nil)
        have X_b6 := Lib.hid (Says.keep b6x b6f b6l (hN (_, _) mb4) hA List.not_mem_nil)
        have X_b12 := Lib.hid (Says.keep b12x b12f b12l (hN (_, _) mb5) hA List.not_mem_nil)
        have X_b15 := Lib.hid (Says.keep b15x b15f b15l (hN (_, _) mb6) hA List.not_mem_nil)
        have X_b18 := Lib.hid (Says.keep b18x b18f b18l (hN (_, _) mb7) hA List.not_mem_nil)
        have X_b21 := Lib.hid (Says.keep b21x b21f b21l (hN (_, _) mb8) hA List.not_mem_nil)
        have p35_25 : f25 35 = .bool false := hf (3, 35) (by simp)
        simp only [fillSlots, p35_25, List.setIfInBounds_toArray, List.set_cons_succ, List.set_cons_zero]
        clear hf hS hN hA hP hlo hlt hap b2x b2m b2f b2l b3x b3m b3f b3l b4x b4m b4f b4l b5x b5m b5f b5l b6x b6m b6f b6l b12x b12m b12f b12l b15x b15m b15f b15l b18x b18m b18f b18l b21x b21m b21f b21l p35_25
        refine hK24.out _ _ ?_; clear hK24
        refine wp_cond_false rfl ?_
        refine wp_exit ?_
        simp only [Exit.then, Exit.inBlock, ↓reduceIte]
        refine hK22.out _ _ ?_; clear hK22
        refine wp_seq_k ?_; intro K26 hK26; replace hK26 := Lib.hid hK26
        refine wp_seq_k ?_; intro K27 hK27; replace hK27 := Lib.hid hK27
        obtain ⟨b2v, b2x, b2m, b2f, b2l⟩ := X_b2.out.op rfl
        obtain ⟨b3v, b3x, b3m, b3f, b3l⟩ := X_b3.out.op rfl
        obtain ⟨b4v, b4x, b4m, b4f, b4l⟩ := X_b4.out.op rfl
        obtain ⟨b5v, b5x, b5m, b5f, b5l⟩ := X_b5.out.op rfl
        obtain ⟨b6v, b6x, b6m, b6f, b6l⟩ := X_b6.out.op rfl
        obtain ⟨b12v, b12x, b12m, b12f, b12l⟩ := X_b12.out.op rfl
        obtain ⟨b15v, b15x, b15m, b15f, b15l⟩ := X_b15.out.op rfl
        obtain ⟨b18v, b18x, b18m, b18f, b18l⟩ := X_b18.out.op rfl
        obtain ⟨b21v, b21x, b21m, b21f, b21l⟩ := X_b21.out.op rfl
        clear X_b2 X_b3 X_b4 X_b5 X_b6 X_b12 X_b15 X_b18 X_b21
        refine region_tell (T := [0, 1]) (slots := [50, 51]) (tab := [.is (.pointer (some ⟨b12, 0, none⟩)), .is (.bool true)])
            (D := []) (F := [(b2v, .rint a), (b3v, .rint b), (b4v, .rint 0), (b5v, .rint 0), (b6v, .rint 0), (b12v, .rint (-(g : Int))), (b15v, .rint 0), (b18v, .rint x), (b21v, .rint u)]) List.Pairwise.nil (fc b2m (fc b3m (fc b4m (fc b5m (fc b6m (fc b12m (fc b15m (fc b18m (fc b21m fn))))))))) hn ?_ ?_
        · refine .pl rfl (fun β E W Γ => ev_faR0 (Γ.s rfl)) ?_
          refine .pl rfl (fun β E W Γ => ev_ldR0 (Γ.k 0 rfl) (b12x.far Γ.A List.not_mem_nil) (Γ.F (_, _) mb5) HNG.out) ?_
          exact .nil
        intro β f28 W28 hf hS hN hA hP hlo hlt hap
        have HB := Lib.hid (HB.out.trans (hA.below (B := w.heap.size) (by intro b hb; simp [oldBlocks] at hb) HB.out.size))
        have X_b2 := Lib.hid (Says.keep b2x b2f b2l (hN (_, _) mb0) hA List.not_mem_nil)
        have X_b3 := Lib.hid (Says.keep b3x b3f b3l (hN (_, _) mb1) hA List.not_mem_nil)
        have X_b4 := Lib.hid (Says.keep b4x b4f b4l (hN (_, _) mb2) hA List.not_mem_nil)
        have X_b5 := Lib.hid (Says.keep b5x b5f b5l (hN (_, _) mb3) hA List.not_mem_nil)
        have X_b6 := Lib.hid (Says.keep b6x b6f b6l (hN (_, _) mb4) hA List.not_mem_nil)
        have X_b12 := Lib.hid (Says.keep b12x b12f b12l (hN (_, _) mb5) hA List.not_mem_nil)
        have X_b15 := Lib.hid (Says.keep b15x b15f b15l (hN (_, _) mb6) hA List.not_mem_nil)
        have X_b18 := Lib.hid (Says.keep b18x b18f b18l (hN (_, _) mb7) hA List.not_mem_nil)
        have X_b21 := Lib.hid (Says.keep b21x b21f b21l (hN (_, _) mb8) hA List.not_mem_nil)
        have p51_28 : f28 51 = .bool true := hf (1, 51) (by simp)
        simp only [fillSlots, p51_28, List.setIfInBounds_toArray, List.set_cons_succ, List.set_cons_zero]
        clear hf hS hN hA hP hlo hlt hap b2x b2m b2f b2l b3x b3m b3f b3l b4x b4m b4f b4l b5x b5m b5f b5l b6x b6m b6f b6l b12x b12m b12f b12l b15x b15m b15f b15l b18x b18m b18f b18l b21x b21m b21f b21l p51_28
        refine hK27.out _ _ ?_; clear hK27
        refine wp_cond_true rfl ?_
        refine wp_seq_k ?_; intro K29 hK29; replace hK29 := Lib.hid hK29
        obtain ⟨b2v, b2x, b2m, b2f, b2l⟩ := X_b2.out.op rfl
        obtain ⟨b3v, b3x, b3m, b3f, b3l⟩ := X_b3.out.op rfl
        obtain ⟨b4v, b4x, b4m, b4f, b4l⟩ := X_b4.out.op rfl
        obtain ⟨b5v, b5x, b5m, b5f, b5l⟩ := X_b5.out.op rfl
        obtain ⟨b6v, b6x, b6m, b6f, b6l⟩ := X_b6.out.op rfl
        obtain ⟨b12v, b12x, b12m, b12f, b12l⟩ := X_b12.out.op rfl
        obtain ⟨b15v, b15x, b15m, b15f, b15l⟩ := X_b15.out.op rfl
        obtain ⟨b18v, b18x, b18m, b18f, b18l⟩ := X_b18.out.op rfl
        obtain ⟨b21v, b21x, b21m, b21f, b21l⟩ := X_b21.out.op rfl
        clear X_b2 X_b3 X_b4 X_b5 X_b6 X_b12 X_b15 X_b18 X_b21
        have b2n : b2 ∉ [b12] := by have h := NE.out; simp; omega
        have b3n : b3 ∉ [b12] := by have h := NE.out; simp; omega
        have b4n : b4 ∉ [b12] := by have h := NE.out; simp; omega
        have b5n : b5 ∉ [b12] := by have h := NE.out; simp; omega
        have b6n : b6 ∉ [b12] := by have h := NE.out; simp; omega
        have b15n : b15 ∉ [b12] := by have h := NE.out; simp; omega
        have b18n : b18 ∉ [b12] := by have h := NE.out; simp; omega
        have b21n : b21 ∉ [b12] := by have h := NE.out; simp; omega
        refine region_tell (T := [0, 1]) (slots := [52, 53]) (tab := [.rint (-(g : Int)), .rint (g : Int), .any])
            (D := [⟨b12, .rint, none, 2, .rint (g : Int), b12v⟩]) (F := [(b2v, .rint a), (b3v, .rint b), (b4v, .rint 0), (b5v, .rint 0), (b6v, .rint 0), (b12v, .rint (-(g : Int))), (b15v, .rint 0), (b18v, .rint x), (b21v, .rint u)]) (List.pairwise_singleton _ _) (fc b2m (fc b3m (fc b4m (fc b5m (fc b6m (fc b12m (fc b15m (fc b18m (fc b21m fn))))))))) (ho b12x b12f b12l hn) ?_ ?_
        · refine .pl rfl (fun β E W Γ => ev_ldR (Γ.s rfl) (Γ.b1 mb0) (Γ.F (_, _) mb5)) ?_
          refine .pl rfl (fun β E W Γ => ev_call1 (Γ.f _) run_rINeg (show Calls Tryz.prog 56 #[_] W (Gives W (.rint (g : Int))) from by have := rINeg_want W _ (-(g : Int)) (Γ.w (d := 52) 0 rfl); rw [Int.neg_neg] at this; exact this.mono fun e w' ⟨v, h1, h2, h3⟩ => ⟨v, h1, h2, h3⟩)) ?_
          refine .st rfl mb0 (fun β E W Γ => ev_stR (Γ.s rfl) (Γ.b1 mb0) (Γ.b2 mb0) (Γ.w 1 rfl)) ?_
          exact .nil
        intro β f30 W30 hf hS hN hA hP hlo hlt hap
        have HB := Lib.hid (HB.out.trans (hA.below (B := w.heap.size) (by have h := NE.out; simp [oldBlocks]; omega) HB.out.size))
        have X_b12 : Hid (Holds W30 b12 .rint (.rint (g : Int))) := Lib.hid (hS _ mb0)
        have X_b2 := Lib.hid (Says.keep b2x b2f b2l (hN (_, _) mb0) hA b2n)
        have X_b3 := Lib.hid (Says.keep b3x b3f b3l (hN (_, _) mb1) hA b3n)
        have X_b4 := Lib.hid (Says.keep b4x b4f b4l (hN (_, _) mb2) hA b4n)
        have X_b5 := Lib.hid (Says.keep b5x b5f b5l (hN (_, _) mb3) hA b5n)
        have X_b6 := Lib.hid (Says.keep b6x b6f b6l (hN (_, _) mb4) hA b6n)
        have X_b15 := Lib.hid (Says.keep b15x b15f b15l (hN (_, _) mb6) hA b15n)
        have X_b18 := Lib.hid (Says.keep b18x b18f b18l (hN (_, _) mb7) hA b18n)
        have X_b21 := Lib.hid (Says.keep b21x b21f b21l (hN (_, _) mb8) hA b21n)
        simp only [fillSlots, List.setIfInBounds_toArray, List.set_cons_succ, List.set_cons_zero]
        clear hf hS hN hA hP hlo hlt hap b2x b2m b2f b2l b2n b3x b3m b3f b3l b3n b4x b4m b4f b4l b4n b5x b5m b5f b5l b5n b6x b6m b6f b6l b6n b12x b12m b12f b12l b15x b15m b15f b15l b15n b18x b18m b18f b18l b18n b21x b21m b21f b21l b21n
        refine hK29.out _ _ ?_; clear hK29
        obtain ⟨b2v, b2x, b2m, b2f, b2l⟩ := X_b2.out.op rfl
        obtain ⟨b3v, b3x, b3m, b3f, b3l⟩ := X_b3.out.op rfl
        obtain ⟨b4v, b4x, b4m, b4f, b4l⟩ := X_b4.out.op rfl
        obtain ⟨b5v, b5x, b5m, b5f, b5l⟩ := X_b5.out.op rfl
        obtain ⟨b6v, b6x, b6m, b6f, b6l⟩ := X_b6.out.op rfl
        obtain ⟨b12v, b12x, b12m, b12f, b12l⟩ := X_b12.out.op rfl
        obtain ⟨b15v, b15x, b15m, b15f, b15l⟩ := X_b15.out.op rfl
        obtain ⟨b18v, b18x, b18m, b18f, b18l⟩ := X_b18.out.op rfl
        obtain ⟨b21v, b21x, b21m, b21f, b21l⟩ := X_b21.out.op rfl
        clear X_b2 X_b3 X_b4 X_b5 X_b6 X_b12 X_b15 X_b18 X_b21
        have b2n : b2 ∉ [b18] := by have h := NE.out; simp; omega
        have b3n : b3 ∉ [b18] := by have h := NE.out; simp; omega
        have b4n : b4 ∉ [b18] := by have h := NE.out; simp; omega
        have b5n : b5 ∉ [b18] := by have h := NE.out; simp; omega
        have b6n : b6 ∉ [b18] := by have h := NE.out; simp; omega
        have b12n : b12 ∉ [b18] := by have h := NE.out; simp; omega
        have b15n : b15 ∉ [b18] := by have h := NE.out; simp; omega
        have b21n : b21 ∉ [b18] := by have h := NE.out; simp; omega
        refine region_tell (T := [0, 1]) (slots := [54, 55]) (tab := [.rint x, .rint (-x), .any])
            (D := [⟨b18, .rint, none, 2, .rint (-x), b18v⟩]) (F := [(b2v, .rint a), (b3v, .rint b), (b4v, .rint 0), (b5v, .rint 0), (b6v, .rint 0), (b12v, .rint (g : Int)), (b15v, .rint 0), (b18v, .rint x), (b21v, .rint u)]) (List.pairwise_singleton _ _) (fc b2m (fc b3m (fc b4m (fc b5m (fc b6m (fc b12m (fc b15m (fc b18m (fc b21m fn))))))))) (ho b18x b18f b18l hn) ?_ ?_
        · refine .pl rfl (fun β E W Γ => ev_ldR (Γ.s rfl) (Γ.b1 mb0) (Γ.F (_, _) mb7)) ?_
          refine .pl rfl (fun β E W Γ => ev_call1 (Γ.f _) run_rINeg (rINeg_want W _ x (Γ.w (d := 54) 0 rfl))) ?_
          refine .st rfl mb0 (fun β E W Γ => ev_stR (Γ.s rfl) (Γ.b1 mb0) (Γ.b2 mb0) (Γ.w 1 rfl)) ?_
          exact .nil
        intro β f31 W31 hf hS hN hA hP hlo hlt hap
        have HB := Lib.hid (HB.out.trans (hA.below (B := w.heap.size) (by have h := NE.out; simp [oldBlocks]; omega) HB.out.size))
        have X_b18 : Hid (Holds W31 b18 .rint (.rint (-x))) := Lib.hid (hS _ mb0)
        have X_b2 := Lib.hid (Says.keep b2x b2f b2l (hN (_, _) mb0) hA b2n)
        have X_b3 := Lib.hid (Says.keep b3x b3f b3l (hN (_, _) mb1) hA b3n)
        have X_b4 := Lib.hid (Says.keep b4x b4f b4l (hN (_, _) mb2) hA b4n)
        have X_b5 := Lib.hid (Says.keep b5x b5f b5l (hN (_, _) mb3) hA b5n)
        have X_b6 := Lib.hid (Says.keep b6x b6f b6l (hN (_, _) mb4) hA b6n)
        have X_b12 := Lib.hid (Says.keep b12x b12f b12l (hN (_, _) mb5) hA b12n)
        have X_b15 := Lib.hid (Says.keep b15x b15f b15l (hN (_, _) mb6) hA b15n)
        have X_b21 := Lib.hid (Says.keep b21x b21f b21l (hN (_, _) mb8) hA b21n)
        simp only [fillSlots, List.setIfInBounds_toArray, List.set_cons_succ, List.set_cons_zero]
        clear hf hS hN hA hP hlo hlt hap b2x b2m b2f b2l b2n b3x b3m b3f b3l b3n b4x b4m b4f b4l b4n b5x b5m b5f b5l b5n b6x b6m b6f b6l b6n b12x b12m b12f b12l b12n b15x b15m b15f b15l b15n b18x b18m b18f b18l b21x b21m b21f b21l b21n
        refine hK26.out _ _ ?_; clear hK26
        refine wp_seq_k ?_; intro K32 hK32; replace hK32 := Lib.hid hK32
        obtain ⟨b2v, b2x, b2m, b2f, b2l⟩ := X_b2.out.op rfl
        obtain ⟨b3v, b3x, b3m, b3f, b3l⟩ := X_b3.out.op rfl
        obtain ⟨b4v, b4x, b4m, b4f, b4l⟩ := X_b4.out.op rfl
        obtain ⟨b5v, b5x, b5m, b5f, b5l⟩ := X_b5.out.op rfl
        obtain ⟨b6v, b6x, b6m, b6f, b6l⟩ := X_b6.out.op rfl
        obtain ⟨b12v, b12x, b12m, b12f, b12l⟩ := X_b12.out.op rfl
        obtain ⟨b15v, b15x, b15m, b15f, b15l⟩ := X_b15.out.op rfl
        obtain ⟨b18v, b18x, b18m, b18f, b18l⟩ := X_b18.out.op rfl
        obtain ⟨b21v, b21x, b21m, b21f, b21l⟩ := X_b21.out.op rfl
        clear X_b2 X_b3 X_b4 X_b5 X_b6 X_b12 X_b15 X_b18 X_b21
        refine region_tell (T := [0, 1, 2, 3, 4, 5, 6, 7, 8, 9]) (slots := [57, 58, 59, 60, 61, 56, 62, 63, 13, 14]) (tab := [.is (.pointer (some ⟨b3, 1, none⟩)), .rnum b.natAbs, .is (.pointer (some ⟨b12, 1, none⟩)), .rnum g, .two (.rnum (b.natAbs / g)) (.rnum (b.natAbs % g)), .two (.rnum (b.natAbs / g)) (.rnum (b.natAbs % g)), .rnum (b.natAbs / g), .rnum (b.natAbs % g), .rnum (b.natAbs / g), .rnum (b.natAbs % g)])
            (D := []) (F := [(b2v, .rint a), (b3v, .rint b), (b4v, .rint 0), (b5v, .rint 0), (b6v, .rint 0), (b12v, .rint (g : Int)), (b15v, .rint 0), (b18v, .rint (-x)), (b21v, .rint u)]) List.Pairwise.nil (fc b2m (fc b3m (fc b4m (fc b5m (fc b6m (fc b12m (fc b15m (fc b18m (fc b21m fn))))))))) hn ?_ ?_
        · refine .pl rfl (fun β E W Γ => ev_faR1 (Γ.s rfl)) ?_
          refine .pl rfl (fun β E W Γ => ev_ldR1 (Γ.k 0 rfl) (b3x.far Γ.A List.not_mem_nil) (Γ.F (_, _) mb1) rfl) ?_
          refine .pl rfl (fun β E W Γ => ev_faR1 (Γ.s rfl)) ?_
          refine .pl rfl (fun β E W Γ => ev_ldR1 (Γ.k 2 rfl) (b12x.far Γ.A List.not_mem_nil) (Γ.F (_, _) mb5) (Int.natAbs_natCast g)) ?_
          refine .pl rfl (fun β E W Γ => ev_call2 (Γ.f _) run_rDiv (rDiv_want W _ _ b.natAbs g (by have := SAB.out; omega) HG0.out (Γ.w (d := 58) 1 rfl) (Γ.w (d := 60) 3 rfl))) ?_
          refine .pl rfl (fun β E W Γ => ev_moveM (Γ.w 4 rfl)) ?_
          refine .pl rfl (fun β E W Γ => ev_ex20 (Γ.w 5 rfl)) ?_
          refine .pl rfl (fun β E W Γ => ev_ex21 (Γ.w 5 rfl)) ?_
          refine .pl rfl (fun β E W Γ => ev_assignM (Γ.w 6 rfl)) ?_
          refine .pl rfl (fun β E W Γ => ev_assignM (Γ.w 7 rfl)) ?_
          exact .nil
        intro β f33 W33 hf hS hN hA hP hlo hlt hap
        have HB := Lib.hid (HB.out.trans (hA.below (B := w.heap.size) (by intro b hb; simp [oldBlocks] at hb) HB.out.size))
        have X_b2 := Lib.hid (Says.keep b2x b2f b2l (hN (_, _) mb0) hA List.not_mem_nil)
        have X_b3 := Lib.hid (Says.keep b3x b3f b3l (hN (_, _) mb1) hA List.not_mem_nil)
        have X_b4 := Lib.hid (Says.keep b4x b4f b4l (hN (_, _) mb2) hA List.not_mem_nil)
        have X_b5 := Lib.hid (Says.keep b5x b5f b5l (hN (_, _) mb3) hA List.not_mem_nil)
        have X_b6 := Lib.hid (Says.keep b6x b6f b6l (hN (_, _) mb4) hA List.not_mem_nil)
        have X_b12 := Lib.hid (Says.keep b12x b12f b12l (hN (_, _) mb5) hA List.not_mem_nil)
        have X_b15 := Lib.hid (Says.keep b15x b15f b15l (hN (_, _) mb6) hA List.not_mem_nil)
        have X_b18 := Lib.hid (Says.keep b18x b18f b18l (hN (_, _) mb7) hA List.not_mem_nil)
        have X_b21 := Lib.hid (Says.keep b21x b21f b21l (hN (_, _) mb8) hA List.not_mem_nil)
        have V_13_33 : Hid (Means W33 (.rnum (b.natAbs / g)) (f33 13)) := Lib.hid (hf (8, 13) (by simp))
        simp only [fillSlots, List.setIfInBounds_toArray, List.set_cons_succ, List.set_cons_zero]
        clear hf hS hN hA hP hlo hlt hap b2x b2m b2f b2l b3x b3m b3f b3l b4x b4m b4f b4l b5x b5m b5f b5l b6x b6m b6f b6l b12x b12m b12f b12l b15x b15m b15f b15l b18x b18m b18f b18l b21x b21m b21f b21l
        refine hK32.out _ _ ?_; clear hK32
        refine wp_seq_k ?_; intro K34 hK34; replace hK34 := Lib.hid hK34
        obtain ⟨b2v, b2x, b2m, b2f, b2l⟩ := X_b2.out.op rfl
        obtain ⟨b3v, b3x, b3m, b3f, b3l⟩ := X_b3.out.op rfl
        obtain ⟨b4v, b4x, b4m, b4f, b4l⟩ := X_b4.out.op rfl
        obtain ⟨b5v, b5x, b5m, b5f, b5l⟩ := X_b5.out.op rfl
        obtain ⟨b6v, b6x, b6m, b6f, b6l⟩ := X_b6.out.op rfl
        obtain ⟨b12v, b12x, b12m, b12f, b12l⟩ := X_b12.out.op rfl
        obtain ⟨b15v, b15x, b15m, b15f, b15l⟩ := X_b15.out.op rfl
        obtain ⟨b18v, b18x, b18m, b18f, b18l⟩ := X_b18.out.op rfl
        obtain ⟨b21v, b21x, b21m, b21f, b21l⟩ := X_b21.out.op rfl
        clear X_b2 X_b3 X_b4 X_b5 X_b6 X_b12 X_b15 X_b18 X_b21
        have b2n : b2 ∉ [b18] := by have h := NE.out; simp; omega
        have b3n : b3 ∉ [b18] := by have h := NE.out; simp; omega
        have b4n : b4 ∉ [b18] := by have h := NE.out; simp; omega
        have b5n : b5 ∉ [b18] := by have h := NE.out; simp; omega
        have b6n : b6 ∉ [b18] := by have h := NE.out; simp; omega
        have b12n : b12 ∉ [b18] := by have h := NE.out; simp; omega
        have b15n : b15 ∉ [b18] := by have h := NE.out; simp; omega
        have b21n : b21 ∉ [b18] := by have h := NE.out; simp; omega
        refine region_tell (T := [0, 1, 2, 3, 4, 5, 6]) (slots := [65, 66, 67, 68, 64, 69, 70]) (tab := [.rint (-x), .rnum (b.natAbs / g), .rint ((b.natAbs / g : Nat) : Int), .two (.rint (qdiv (-x) ((b.natAbs / g : Nat) : Int))) (.rint (qmod (-x) ((b.natAbs / g : Nat) : Int))), .two (.rint (qdiv (-x) ((b.natAbs / g : Nat) : Int))) (.rint (qmod (-x) ((b.natAbs / g : Nat) : Int))), .rint (qdiv (-x) ((b.natAbs / g : Nat) : Int)), .rint (qmod (-x) ((b.natAbs / g : Nat) : Int)), .any])
            (D := [⟨b18, .rint, none, 7, .rint (qmod (-x) ((b.natAbs / g : Nat) : Int)), b18v⟩]) (F := [(b2v, .rint a), (b3v, .rint b), (b4v, .rint 0), (b5v, .rint 0), (b6v, .rint 0), (b12v, .rint (g : Int)), (b15v, .rint 0), (b18v, .rint (-x)), (b21v, .rint u), ((f33 13), .rnum (b.natAbs / g))]) (List.pairwise_singleton _ _) (fc b2m (fc b3m (fc b4m (fc b5m (fc b6m (fc b12m (fc b15m (fc b18m (fc b21m (fc V_13_33.out fn)))))))))) (ho b18x b18f b18l hn) ?_ ?_
        · refine .pl rfl (fun β E W Γ => ev_ldR (Γ.s rfl) (Γ.b1 mb0) (Γ.F (_, _) mb7)) ?_
          refine .pl rfl (fun β E W Γ => ev_moveM (Γ.m rfl mb9)) ?_
          refine .pl rfl (fun β E W Γ => ev_call2 (Γ.f _) run_rI (by rw [Γ.c]; exact rI_gives W _ _ (b.natAbs / g) ((b.natAbs / g : Nat) : Int) rfl (Γ.w (d := 66) 1 rfl))) ?_
          refine .pl rfl (fun β E W Γ => ev_call2 (Γ.f _) run_rIDiv (rIDiv_want W _ _ (-x) ((b.natAbs / g : Nat) : Int) HP0.out SX0.out SPQ.out (Γ.w (d := 65) 0 rfl) (Γ.w (d := 67) 2 rfl))) ?_
          refine .pl rfl (fun β E W Γ => ev_moveM (Γ.w 3 rfl)) ?_
          refine .pl rfl (fun β E W Γ => ev_ex20 (Γ.w 4 rfl)) ?_
          refine .pl rfl (fun β E W Γ => ev_ex21 (Γ.w 4 rfl)) ?_
          refine .st rfl mb0 (fun β E W Γ => ev_stR (Γ.s rfl) (Γ.b1 mb0) (Γ.b2 mb0) (Γ.w 6 rfl)) ?_
          exact .nil
        intro β f35 W35 hf hS hN hA hP hlo hlt hap
        have HB := Lib.hid (HB.out.trans (hA.below (B := w.heap.size) (by have h := NE.out; simp [oldBlocks]; omega) HB.out.size))
        have X_b18 : Hid (Holds W35 b18 .rint (.rint (qmod (-x) ((b.natAbs / g : Nat) : Int)))) := Lib.hid (hS _ mb0)
        have X_b2 := Lib.hid (Says.keep b2x b2f b2l (hN (_, _) mb0) hA b2n)
        have X_b3 := Lib.hid (Says.keep b3x b3f b3l (hN (_, _) mb1) hA b3n)
        have X_b4 := Lib.hid (Says.keep b4x b4f b4l (hN (_, _) mb2) hA b4n)
        have X_b5 := Lib.hid (Says.keep b5x b5f b5l (hN (_, _) mb3) hA b5n)
        have X_b6 := Lib.hid (Says.keep b6x b6f b6l (hN (_, _) mb4) hA b6n)
        have X_b12 := Lib.hid (Says.keep b12x b12f b12l (hN (_, _) mb5) hA b12n)
        have X_b15 := Lib.hid (Says.keep b15x b15f b15l (hN (_, _) mb6) hA b15n)
        have X_b21 := Lib.hid (Says.keep b21x b21f b21l (hN (_, _) mb8) hA b21n)
        simp only [fillSlots, List.setIfInBounds_toArray, List.set_cons_succ, List.set_cons_zero]
        clear hf hS hN hA hP hlo hlt hap b2x b2m b2f b2l b2n b3x b3m b3f b3l b3n b4x b4m b4f b4l b4n b5x b5m b5f b5l b5n b6x b6m b6f b6l b6n b12x b12m b12f b12l b12n b15x b15m b15f b15l b15n b18x b18m b18f b18l b21x b21m b21f b21l b21n
        refine hK34.out _ _ ?_; clear hK34
        refine wp_seq_k ?_; intro K36 hK36; replace hK36 := Lib.hid hK36
        obtain ⟨b2v, b2x, b2m, b2f, b2l⟩ := X_b2.out.op rfl
        obtain ⟨b3v, b3x, b3m, b3f, b3l⟩ := X_b3.out.op rfl
        obtain ⟨b4v, b4x, b4m, b4f, b4l⟩ := X_b4.out.op rfl
        obtain ⟨b5v, b5x, b5m, b5f, b5l⟩ := X_b5.out.op rfl
        obtain ⟨b6v, b6x, b6m, b6f, b6l⟩ := X_b6.out.op rfl
        obtain ⟨b12v, b12x, b12m, b12f, b12l⟩ := X_b12.out.op rfl
        obtain ⟨b15v, b15x, b15m, b15f, b15l⟩ := X_b15.out.op rfl
        obtain ⟨b18v, b18x, b18m, b18f, b18l⟩ := X_b18.out.op rfl
        obtain ⟨b21v, b21x, b21m, b21f, b21l⟩ := X_b21.out.op rfl
        clear X_b2 X_b3 X_b4 X_b5 X_b6 X_b12 X_b15 X_b18 X_b21
        refine region_tell (T := [0, 1, 2, 3, 4, 5, 6, 7, 8, 9, 10, 11]) (slots := [72, 73, 74, 75, 76, 77, 78, 71, 79, 80, 15, 16]) (tab := [.rint (g : Int), .rint a, .rint (qmod (-x) ((b.natAbs / g : Nat) : Int)), .rint (a * (qmod (-x) ((b.natAbs / g : Nat) : Int))), .rint ((g : Int) - (a * (qmod (-x) ((b.natAbs / g : Nat) : Int)))), .rint b, .two (.rint (qdiv ((g : Int) - (a * (qmod (-x) ((b.natAbs / g : Nat) : Int)))) b)) (.rint (qmod ((g : Int) - (a * (qmod (-x) ((b.natAbs / g : Nat) : Int)))) b)), .two (.rint (qdiv ((g : Int) - (a * (qmod (-x) ((b.natAbs / g : Nat) : Int)))) b)) (.rint (qmod ((g : Int) - (a * (qmod (-x) ((b.natAbs / g : Nat) : Int)))) b)), .rint (qdiv ((g : Int) - (a * (qmod (-x) ((b.natAbs / g : Nat) : Int)))) b), .rint (qmod ((g : Int) - (a * (qmod (-x) ((b.natAbs / g : Nat) : Int)))) b), .any, .any, .any, .any])
            (D := [⟨0, .rint, some 10, 12, .rint (qdiv ((g : Int) - (a * (qmod (-x) ((b.natAbs / g : Nat) : Int)))) b), .agg #[.bool false, .slice none 0 0]⟩, ⟨0, .rint, some 11, 13, .rint (qmod ((g : Int) - (a * (qmod (-x) ((b.natAbs / g : Nat) : Int)))) b), .agg #[.bool false, .slice none 0 0]⟩]) (F := [(b2v, .rint a), (b3v, .rint b), (b4v, .rint 0), (b5v, .rint 0), (b6v, .rint 0), (b12v, .rint (g : Int)), (b15v, .rint 0), (b18v, .rint (qmod (-x) ((b.natAbs / g : Nat) : Int))), (b21v, .rint u)]) List.Pairwise.nil (fc b2m (fc b3m (fc b4m (fc b5m (fc b6m (fc b12m (fc b15m (fc b18m (fc b21m fn))))))))) (ha (ha hn)) ?_ ?_
        · refine .pl rfl (fun β E W Γ => ev_ldR (Γ.s rfl) (b12x.far Γ.A List.not_mem_nil) (Γ.F (_, _) mb5)) ?_
          refine .pl rfl (fun β E W Γ => ev_ldR (Γ.s rfl) (b2x.far Γ.A List.not_mem_nil) (Γ.F (_, _) mb0)) ?_
          refine .pl rfl (fun β E W Γ => ev_ldR (Γ.s rfl) (b18x.far Γ.A List.not_mem_nil) (Γ.F (_, _) mb7)) ?_
          refine .pl rfl (fun β E W Γ => ev_call2 (Γ.f _) run_rIMul (rIMul_want W _ _ a (qmod (-x) ((b.natAbs / g : Nat) : Int)) (by have := SAB.out; omega) SXX.out (Γ.w (d := 73) 1 rfl) (Γ.w (d := 74) 2 rfl))) ?_
          refine .pl rfl (fun β E W Γ => ev_call2 (Γ.f _) run_rISub (rISub_want W _ _ (g : Int) (a * (qmod (-x) ((b.natAbs / g : Nat) : Int))) SG.out SAX.out (Γ.w (d := 72) 0 rfl) (Γ.w (d := 75) 3 rfl))) ?_
          refine .pl rfl (fun β E W Γ => ev_ldR (Γ.s rfl) (b3x.far Γ.A List.not_mem_nil) (Γ.F (_, _) mb1)) ?_
          refine .pl rfl (fun β E W Γ => ev_call2 (Γ.f _) run_rIDiv (rIDiv_want W _ _ ((g : Int) - (a * (qmod (-x) ((b.natAbs / g : Nat) : Int)))) b HB0'.out SGA.out (by have := SAB.out; omega) (Γ.w (d := 76) 4 rfl) (Γ.w (d := 77) 5 rfl))) ?_
          refine .pl rfl (fun β E W Γ => ev_moveM (Γ.w 6 rfl)) ?_
          refine .pl rfl (fun β E W Γ => ev_ex20 (Γ.w 7 rfl)) ?_
          refine .pl rfl (fun β E W Γ => ev_ex21 (Γ.w 7 rfl)) ?_
          refine .al rfl mb0 (fun _ _ => ev_alR) ?_
          refine .al rfl mb1 (fun _ _ => ev_alR) ?_
          refine .st rfl mb0 (fun β E W Γ => ev_stR (Γ.q mb0 rfl) (Γ.b1 mb0) (Γ.b2 mb0) (Γ.w 8 rfl)) ?_
          refine .st rfl mb1 (fun β E W Γ => ev_stR (Γ.q mb1 rfl) (Γ.b1 mb1) (Γ.b2 mb1) (Γ.w 9 rfl)) ?_
          exact .nil
        intro β f37 W37 hf hS hN hA hP hlo hlt hap
        have HB0 := HB.out.size
        have HB := Lib.hid (HB.out.trans (hA.below (B := w.heap.size) (by intro b hb; simp [oldBlocks] at hb) HB.out.size))
        obtain ⟨b38, b38e⟩ : ∃ b, b = β 12 := ⟨_, rfl⟩
        have b38p : f37 15 = .pointer (some ⟨b38, 0, none⟩) := b38e ▸ hP _ mb0 (10, 15) (by simp) rfl
        have b38o : W35.heap.size ≤ b38 := b38e ▸ hlo _ mb0 (by intro h; cases h)
        have X_b38 : Hid (Holds W37 b38 .rint (.rint (qdiv ((g : Int) - (a * (qmod (-x) ((b.natAbs / g : Nat) : Int)))) b))) := Lib.hid (b38e ▸ hS _ mb0)
        obtain ⟨b39, b39e⟩ : ∃ b, b = β 13 := ⟨_, rfl⟩
        have b39p : f37 16 = .pointer (some ⟨b39, 0, none⟩) := b39e ▸ hP _ mb1 (11, 16) (by simp) rfl
        have b39o : W35.heap.size ≤ b39 := b39e ▸ hlo _ mb1 (by intro h; cases h)
        have X_b39 : Hid (Holds W37 b39 .rint (.rint (qmod ((g : Int) - (a * (qmod (-x) ((b.natAbs / g : Nat) : Int)))) b))) := Lib.hid (b39e ▸ hS _ mb1)
        have b38b39q : b38 ≠ b39 := by rw [b38e, b39e]; exact hap _ mb0 _ mb1 (by show 12 ≠ 13; decide)
        have NE : Hid (w.heap.size ≤ b2 ∧ w.heap.size ≤ b3 ∧ w.heap.size ≤ b4 ∧ w.heap.size ≤ b5 ∧ w.heap.size ≤ b6 ∧ b2 < b3 ∧ b2 < b4 ∧ b2 < b5 ∧ b2 < b6 ∧ b3 < b4 ∧ b3 < b5 ∧ b3 < b6 ∧ b4 < b5 ∧ b4 < b6 ∧ b5 < b6 ∧ b2 < b12 ∧ b3 < b12 ∧ b4 < b12 ∧ b5 < b12 ∧ b6 < b12 ∧ w.heap.size ≤ b12 ∧ b2 < b15 ∧ b3 < b15 ∧ b4 < b15 ∧ b5 < b15 ∧ b6 < b15 ∧ b12 < b15 ∧ w.heap.size ≤ b15 ∧ b2 < b18 ∧ b3 < b18 ∧ b4 < b18 ∧ b5 < b18 ∧ b6 < b18 ∧ b12 < b18 ∧ b15 < b18 ∧ w.heap.size ≤ b18 ∧ b2 < b21 ∧ b3 < b21 ∧ b4 < b21 ∧ b5 < b21 ∧ b6 < b21 ∧ b12 < b21 ∧ b15 < b21 ∧ b18 < b21 ∧ w.heap.size ≤ b21 ∧ b2 < b38 ∧ b3 < b38 ∧ b4 < b38 ∧ b5 < b38 ∧ b6 < b38 ∧ b12 < b38 ∧ b15 < b38 ∧ b18 < b38 ∧ b21 < b38 ∧ w.heap.size ≤ b38 ∧ b38 ≠ b39 ∧ b2 < b39 ∧ b3 < b39 ∧ b4 < b39 ∧ b5 < b39 ∧ b6 < b39 ∧ b12 < b39 ∧ b15 < b39 ∧ b18 < b39 ∧ b21 < b39 ∧ w.heap.size ≤ b39) := Lib.hid (by have h := NE.out; omega)
        have X_b2 := Lib.hid (Says.keep b2x b2f b2l (hN (_, _) mb0) hA List.not_mem_nil)
        have X_b3 := Lib.hid (Says.keep b3x b3f b3l (hN (_, _) mb1) hA List.not_mem_nil)
        have X_b4 := Lib.hid (Says.keep b4x b4f b4l (hN (_, _) mb2) hA List.not_mem_nil)
        have X_b5 := Lib.hid (Says.keep b5x b5f b5l (hN (_, _) mb3) hA List.not_mem_nil)
        have X_b6 := Lib.hid (Says.keep b6x b6f b6l (hN (_, _) mb4) hA List.not_mem_nil)
        have X_b12 := Lib.hid (Says.keep b12x b12f b12l (hN (_, _) mb5) hA List.not_mem_nil)
        have X_b15 := Lib.hid (Says.keep b15x b15f b15l (hN (_, _) mb6) hA List.not_mem_nil)
        have X_b18 := Lib.hid (Says.keep b18x b18f b18l (hN (_, _) mb7) hA List.not_mem_nil)
        have X_b21 := Lib.hid (Says.keep b21x b21f b21l (hN (_, _) mb8) hA List.not_mem_nil)
        simp only [fillSlots, b38p, b39p, List.setIfInBounds_toArray, List.set_cons_succ, List.set_cons_zero]
        clear hf hS hN hA hP hlo hlt hap b2x b2m b2f b2l b3x b3m b3f b3l b4x b4m b4f b4l b5x b5m b5f b5l b6x b6m b6f b6l b12x b12m b12f b12l b15x b15m b15f b15l b18x b18m b18f b18l b21x b21m b21f b21l b38e b38o b39e b39o b38b39q b38p b39p HB0
        refine hK36.out _ _ ?_; clear hK36
        refine wp_seq_k ?_; intro K40 hK40; replace hK40 := Lib.hid hK40
        clear X_b39
        obtain ⟨b2v, b2x, b2m, b2f, b2l⟩ := X_b2.out.op rfl
        obtain ⟨b3v, b3x, b3m, b3f, b3l⟩ := X_b3.out.op rfl
        obtain ⟨b4v, b4x, b4m, b4f, b4l⟩ := X_b4.out.op rfl
        obtain ⟨b5v, b5x, b5m, b5f, b5l⟩ := X_b5.out.op rfl
        obtain ⟨b6v, b6x, b6m, b6f, b6l⟩ := X_b6.out.op rfl
        obtain ⟨b12v, b12x, b12m, b12f, b12l⟩ := X_b12.out.op rfl
        obtain ⟨b15v, b15x, b15m, b15f, b15l⟩ := X_b15.out.op rfl
        obtain ⟨b18v, b18x, b18m, b18f, b18l⟩ := X_b18.out.op rfl
        obtain ⟨b21v, b21x, b21m, b21f, b21l⟩ := X_b21.out.op rfl
        obtain ⟨b38v, b38x, b38m, b38f, b38l⟩ := X_b38.out.op rfl
        clear X_b2 X_b3 X_b4 X_b5 X_b6 X_b12 X_b15 X_b18 X_b21 X_b38
        have b2n : b2 ∉ [b4, b5, b6] := by have h := NE.out; simp; omega
        have b3n : b3 ∉ [b4, b5, b6] := by have h := NE.out; simp; omega
        have b12n : b12 ∉ [b4, b5, b6] := by have h := NE.out; simp; omega
        have b15n : b15 ∉ [b4, b5, b6] := by have h := NE.out; simp; omega
        have b18n : b18 ∉ [b4, b5, b6] := by have h := NE.out; simp; omega
        have b21n : b21 ∉ [b4, b5, b6] := by have h := NE.out; simp; omega
        have b38n : b38 ∉ [b4, b5, b6] := by have h := NE.out; simp; omega
        refine region_tell (T := [0, 1, 2]) (slots := [81, 82, 83]) (tab := [.rint (g : Int), .rint (qmod (-x) ((b.natAbs / g : Nat) : Int)), .rint (qdiv ((g : Int) - (a * (qmod (-x) ((b.natAbs / g : Nat) : Int)))) b), .any, .any, .any])
            (D := [⟨b4, .rint, none, 3, .rint (g : Int), b4v⟩, ⟨b5, .rint, none, 4, .rint (qmod (-x) ((b.natAbs / g : Nat) : Int)), b5v⟩, ⟨b6, .rint, none, 5, .rint (qdiv ((g : Int) - (a * (qmod (-x) ((b.natAbs / g : Nat) : Int)))) b), b6v⟩]) (F := [(b2v, .rint a), (b3v, .rint b), (b4v, .rint 0), (b5v, .rint 0), (b6v, .rint 0), (b12v, .rint (g : Int)), (b15v, .rint 0), (b18v, .rint (qmod (-x) ((b.natAbs / g : Nat) : Int))), (b21v, .rint u), (b38v, .rint (qdiv ((g : Int) - (a * (qmod (-x) ((b.natAbs / g : Nat) : Int)))) b))]) (by have h := NE.out; show List.Pairwise _ [(⟨b4, .rint, none, 3, .rint (g : Int), b4v⟩ : DBox), (⟨b5, .rint, none, 4, .rint (qmod (-x) ((b.natAbs / g : Nat) : Int)), b5v⟩ : DBox), (⟨b6, .rint, none, 5, .rint (qdiv ((g : Int) - (a * (qmod (-x) ((b.natAbs / g : Nat) : Int)))) b), b6v⟩ : DBox)]; simp; omega) (fc b2m (fc b3m (fc b4m (fc b5m (fc b6m (fc b12m (fc b15m (fc b18m (fc b21m (fc b38m fn)))))))))) (ho b4x b4f b4l (ho b5x b5f b5l (ho b6x b6f b6l hn))) ?_ ?_
        · refine .pl rfl (fun β E W Γ => ev_ldR (Γ.s rfl) (b12x.far Γ.A b12n) (Γ.F (_, _) mb5)) ?_
          refine .pl rfl (fun β E W Γ => ev_ldR (Γ.s rfl) (b18x.far Γ.A b18n) (Γ.F (_, _) mb7)) ?_
          refine .pl rfl (fun β E W Γ => ev_ldR (Γ.s rfl) (b38x.far Γ.A b38n) (Γ.F (_, _) mb9)) ?_
          refine .st rfl mb0 (fun β E W Γ => ev_stR (Γ.s rfl) (Γ.b1 mb0) (Γ.b2 mb0) (Γ.w 0 rfl)) ?_
          refine .st rfl mb1 (fun β E W Γ => ev_stR (Γ.s rfl) (Γ.b1 mb1) (Γ.b2 mb1) (Γ.w 1 rfl)) ?_
          refine .st rfl mb2 (fun β E W Γ => ev_stR (Γ.s rfl) (Γ.b1 mb2) (Γ.b2 mb2) (Γ.w 2 rfl)) ?_
          exact .nil
        intro β f41 W41 hf hS hN hA hP hlo hlt hap
        have HB := Lib.hid (HB.out.trans (hA.below (B := w.heap.size) (by have h := NE.out; simp [oldBlocks]; omega) HB.out.size))
        have X_b4 : Hid (Holds W41 b4 .rint (.rint (g : Int))) := Lib.hid (hS _ mb0)
        have X_b5 : Hid (Holds W41 b5 .rint (.rint (qmod (-x) ((b.natAbs / g : Nat) : Int)))) := Lib.hid (hS _ mb1)
        have X_b6 : Hid (Holds W41 b6 .rint (.rint (qdiv ((g : Int) - (a * (qmod (-x) ((b.natAbs / g : Nat) : Int)))) b))) := Lib.hid (hS _ mb2)
        have X_b2 := Lib.hid (Says.keep b2x b2f b2l (hN (_, _) mb0) hA b2n)
        have X_b3 := Lib.hid (Says.keep b3x b3f b3l (hN (_, _) mb1) hA b3n)
        have X_b12 := Lib.hid (Says.keep b12x b12f b12l (hN (_, _) mb5) hA b12n)
        have X_b15 := Lib.hid (Says.keep b15x b15f b15l (hN (_, _) mb6) hA b15n)
        have X_b18 := Lib.hid (Says.keep b18x b18f b18l (hN (_, _) mb7) hA b18n)
        have X_b21 := Lib.hid (Says.keep b21x b21f b21l (hN (_, _) mb8) hA b21n)
        have X_b38 := Lib.hid (Says.keep b38x b38f b38l (hN (_, _) mb9) hA b38n)
        simp only [fillSlots, List.setIfInBounds_toArray, List.set_cons_succ, List.set_cons_zero]
        clear hf hS hN hA hP hlo hlt hap b2x b2m b2f b2l b2n b3x b3m b3f b3l b3n b4x b4m b4f b4l b5x b5m b5f b5l b6x b6m b6f b6l b12x b12m b12f b12l b12n b15x b15m b15f b15l b15n b18x b18m b18f b18l b18n b21x b21m b21f b21l b21n b38x b38m b38f b38l b38n
        refine hK40.out _ _ ?_; clear hK40
        refine wp_ret ?_
        obtain ⟨⟨u0, hx0, hm0⟩, -⟩ := X_b4.out
        obtain ⟨gr0, pr0, lr0, cr0, rfl, c0_0, c0_1⟩ := hx0.rint
        obtain ⟨⟨u1, hx1, hm1⟩, -⟩ := X_b5.out
        obtain ⟨gr1, pr1, lr1, cr1, rfl, c1_0, c1_1⟩ := hx1.rint
        obtain ⟨⟨u2, hx2, hm2⟩, -⟩ := X_b6.out
        obtain ⟨gr2, pr2, lr2, cr2, rfl, c2_0, c2_1⟩ := hx2.rint
        exact bodyPost_ret (v := .tuple #[.agg #[.bool gr0, .slice pr0 lr0 cr0], .agg #[.bool gr1, .slice pr1 lr1 cr1], .agg #[.bool gr2, .slice pr2 lr2 cr2]]) (by simp [results, Tryz.results19, go_sem, c0_0, c0_1, c1_0, c1_1, c2_0, c2_1]) rfl ⟨_, rfl, ⟨_, _, _, HDG.out, HSPEC.out, _, _, _, rfl, hm0, hm1, hm2⟩, HB.out⟩
      · obtain ⟨g, rfl⟩ := Int.eq_ofNat_of_zero_le hn
        have HNG : Hid (decide ((g : Int) < 0) = false) := Lib.hid (decide_eq_false (by omega))
        have BI := HSF.out.1 hn
        rw [show ((g : Int)).natAbs = g by omega] at BI
        obtain ⟨dg, dg0, dp0, -, dspec⟩ := BI.done HB0'.out
        have HDG := Lib.hid dg; have HG0 := Lib.hid dg0; have HSPEC := Lib.hid dspec
        have HP0 : Hid (((b.natAbs / g : Nat) : Int) ≠ 0) := Lib.hid (by omega)
        have SX0 : Hid ((ds (x).natAbs).length ≤ 28) := Lib.hid (by have := SZ.out; omega)
        have hpq : b.natAbs / g ≤ b.natAbs := Nat.div_le_self _ _
        have SPQ : Hid ((ds ((b.natAbs / g : Nat) : Int).natAbs).length ≤ 28) := Lib.hid (by rw [Int.natAbs_natCast]; have := ds_mono hpq; have := SAB.out; omega)
        have sg : (ds ((g : Int)).natAbs).length ≤ 18 := by rw [Int.natAbs_natCast]; have := SZ.out.1; rw [show ((g : Int)).natAbs = g by omega] at this; exact this
        have SG : Hid ((ds ((g : Int)).natAbs).length ≤ 60) := Lib.hid (by omega)
        have sxx : (ds (qmod x ((b.natAbs / g : Nat) : Int)).natAbs).length ≤ 9 := by
          have h1 := (qdiv_parts (x := x) HP0.out).2
          have h2 := ds_mono (show (qmod x ((b.natAbs / g : Nat) : Int)).natAbs ≤ b.natAbs by omega)
          have := SAB.out; omega
        have SXX : Hid ((ds (qmod x ((b.natAbs / g : Nat) : Int)).natAbs).length ≤ 60) := Lib.hid (by omega)
        have sax := ds_natAbs_mul a (qmod x ((b.natAbs / g : Nat) : Int))
        have SAX : Hid ((ds (a * (qmod x ((b.natAbs / g : Nat) : Int))).natAbs).length ≤ 60) := Lib.hid (by have := SAB.out; omega)
        have SGA : Hid ((ds ((g : Int) - a * (qmod x ((b.natAbs / g : Nat) : Int))).natAbs).length ≤ 28) := Lib.hid (by
          have h1 := (qdiv_parts (x := x) HP0.out).2
          have h2 : ((g : Int) - a * (qmod x ((b.natAbs / g : Nat) : Int))).natAbs ≤ b.natAbs + a.natAbs * b.natAbs := by
            have h3 : (a * (qmod x ((b.natAbs / g : Nat) : Int))).natAbs ≤ a.natAbs * b.natAbs := by rw [Int.natAbs_mul]; exact Nat.mul_le_mul_left _ (by omega)
            have h4 : g ≤ b.natAbs := by rw [dg]; exact Nat.gcd_le_right _ (by have := HB0'.out; omega)
            omega
          have h5 := ds_mono h2; have h6 := ds_add b.natAbs (a.natAbs * b.natAbs); have h7 := ds_mul a.natAbs b.natAbs; have := SAB.out; omega)
        clear dg dg0 dp0 dspec BI hpq sg sxx sax hn HSF
        refine wp_seq_k ?_; intro K42 hK42; replace hK42 := Lib.hid hK42
        refine wp_seq_k ?_; intro K43 hK43; replace hK43 := Lib.hid hK43
        obtain ⟨b2v, b2x, b2m, b2f, b2l⟩ := X_b2.out.op rfl
        obtain ⟨b3v, b3x, b3m, b3f, b3l⟩ := X_b3.out.op rfl
        obtain ⟨b4v, b4x, b4m, b4f, b4l⟩ := X_b4.out.op rfl
        obtain ⟨b5v, b5x, b5m, b5f, b5l⟩ := X_b5.out.op rfl
        obtain ⟨b6v, b6x, b6m, b6f, b6l⟩ := X_b6.out.op rfl
        obtain ⟨b12v, b12x, b12m, b12f, b12l⟩ := X_b12.out.op rfl
        obtain ⟨b15v, b15x, b15m, b15f, b15l⟩ := X_b15.out.op rfl
        obtain ⟨b18v, b18x, b18m, b18f, b18l⟩ := X_b18.out.op rfl
        obtain ⟨b21v, b21x, b21m, b21f, b21l⟩ := X_b21.out.op rfl
        clear X_b2 X_b3 X_b4 X_b5 X_b6 X_b12 X_b15 X_b18 X_b21
        refine region_tell (T := [0, 1, 2, 3]) (slots := [32, 33, 34, 35]) (tab := [.is (.pointer (some ⟨b15, 1, none⟩)), .rnum ((0 : Int).natAbs), .that (lenS ((0 : Int).natAbs)), .is (.bool false)])
            (D := []) (F := [(b2v, .rint a), (b3v, .rint b), (b4v, .rint 0), (b5v, .rint 0), (b6v, .rint 0), (b12v, .rint (g : Int)), (b15v, .rint 0), (b18v, .rint x), (b21v, .rint u)]) List.Pairwise.nil (fc b2m (fc b3m (fc b4m (fc b5m (fc b6m (fc b12m (fc b15m (fc b18m (fc b21m fn))))))))) hn ?_ ?_
        · refine .pl rfl (fun β E W Γ => ev_faR1 (Γ.s rfl)) ?_
          refine .pl rfl (fun β E W Γ => ev_ldR1 (Γ.k 0 rfl) (b15x.far Γ.A List.not_mem_nil) (Γ.F (_, _) mb6) rfl) ?_
          refine .pl rfl (fun β E W Γ => ev_len (Γ.w 1 rfl)) ?_
          refine .pl rfl (fun β E W Γ => ev_lenGtr (Γ.w 2 rfl) HGT.out Γ.c) ?_
          exact .nil
        intro β f44 W44 hf hS hN hA hP hlo hlt hap
        have HB := Lib.hid (HB.out.trans (hA.below (B := w.heap.size) (by intro b hb; simp [oldBlocks] at hb) HB.out.size))
        have X_b2 := Lib.hid (Says.keep b2x b2f b2l (hN (_, _) mb0) hA List.not_mem_nil)
        have X_b3 := Lib.hid (Says.keep b3x b3f b3l (hN (_, _) mb1) hA List.not_mem_nil)
        have X_b4 := Lib.hid (Says.keep b4x b4f b4l (hN (_, _) mb2) hA List.not_mem_nil)
        have X_b5 := Lib.hid (Says.keep b5x b5f b5l (hN (_, _) mb3) hA List.not_mem_nil)
        have X_b6 := Lib.hid (Says.keep b6x b6f b6l (hN (_, _) mb4) hA List.not_mem_nil)
        have X_b12 := Lib.hid (Says.keep b12x b12f b12l (hN (_, _) mb5) hA List.not_mem_nil)
        have X_b15 := Lib.hid (Says.keep b15x b15f b15l (hN (_, _) mb6) hA List.not_mem_nil)
        have X_b18 := Lib.hid (Says.keep b18x b18f b18l (hN (_, _) mb7) hA List.not_mem_nil)
        have X_b21 := Lib.hid (Says.keep b21x b21f b21l (hN (_, _) mb8) hA List.not_mem_nil)
        have p35_44 : f44 35 = .bool false := hf (3, 35) (by simp)
        simp only [fillSlots, p35_44, List.setIfInBounds_toArray, List.set_cons_succ, List.set_cons_zero]
        clear hf hS hN hA hP hlo hlt hap b2x b2m b2f b2l b3x b3m b3f b3l b4x b4m b4f b4l b5x b5m b5f b5l b6x b6m b6f b6l b12x b12m b12f b12l b15x b15m b15f b15l b18x b18m b18f b18l b21x b21m b21f b21l p35_44
        refine hK43.out _ _ ?_; clear hK43
        refine wp_cond_false rfl ?_
        refine wp_exit ?_
        simp only [Exit.then, Exit.inBlock, ↓reduceIte]
        refine hK22.out _ _ ?_; clear hK22
        refine wp_seq_k ?_; intro K45 hK45; replace hK45 := Lib.hid hK45
        refine wp_seq_k ?_; intro K46 hK46; replace hK46 := Lib.hid hK46
        obtain ⟨b2v, b2x, b2m, b2f, b2l⟩ := X_b2.out.op rfl
        obtain ⟨b3v, b3x, b3m, b3f, b3l⟩ := X_b3.out.op rfl
        obtain ⟨b4v, b4x, b4m, b4f, b4l⟩ := X_b4.out.op rfl
        obtain ⟨b5v, b5x, b5m, b5f, b5l⟩ := X_b5.out.op rfl
        obtain ⟨b6v, b6x, b6m, b6f, b6l⟩ := X_b6.out.op rfl
        obtain ⟨b12v, b12x, b12m, b12f, b12l⟩ := X_b12.out.op rfl
        obtain ⟨b15v, b15x, b15m, b15f, b15l⟩ := X_b15.out.op rfl
        obtain ⟨b18v, b18x, b18m, b18f, b18l⟩ := X_b18.out.op rfl
        obtain ⟨b21v, b21x, b21m, b21f, b21l⟩ := X_b21.out.op rfl
        clear X_b2 X_b3 X_b4 X_b5 X_b6 X_b12 X_b15 X_b18 X_b21
        refine region_tell (T := [0, 1]) (slots := [50, 51]) (tab := [.is (.pointer (some ⟨b12, 0, none⟩)), .is (.bool false)])
            (D := []) (F := [(b2v, .rint a), (b3v, .rint b), (b4v, .rint 0), (b5v, .rint 0), (b6v, .rint 0), (b12v, .rint (g : Int)), (b15v, .rint 0), (b18v, .rint x), (b21v, .rint u)]) List.Pairwise.nil (fc b2m (fc b3m (fc b4m (fc b5m (fc b6m (fc b12m (fc b15m (fc b18m (fc b21m fn))))))))) hn ?_ ?_
        · refine .pl rfl (fun β E W Γ => ev_faR0 (Γ.s rfl)) ?_
          refine .pl rfl (fun β E W Γ => ev_ldR0 (Γ.k 0 rfl) (b12x.far Γ.A List.not_mem_nil) (Γ.F (_, _) mb5) HNG.out) ?_
          exact .nil
        intro β f47 W47 hf hS hN hA hP hlo hlt hap
        have HB := Lib.hid (HB.out.trans (hA.below (B := w.heap.size) (by intro b hb; simp [oldBlocks] at hb) HB.out.size))
        have X_b2 := Lib.hid (Says.keep b2x b2f b2l (hN (_, _) mb0) hA List.not_mem_nil)
        have X_b3 := Lib.hid (Says.keep b3x b3f b3l (hN (_, _) mb1) hA List.not_mem_nil)
        have X_b4 := Lib.hid (Says.keep b4x b4f b4l (hN (_, _) mb2) hA List.not_mem_nil)
        have X_b5 := Lib.hid (Says.keep b5x b5f b5l (hN (_, _) mb3) hA List.not_mem_nil)
        have X_b6 := Lib.hid (Says.keep b6x b6f b6l (hN (_, _) mb4) hA List.not_mem_nil)
        have X_b12 := Lib.hid (Says.keep b12x b12f b12l (hN (_, _) mb5) hA List.not_mem_nil)
        have X_b15 := Lib.hid (Says.keep b15x b15f b15l (hN (_, _) mb6) hA List.not_mem_nil)
        have X_b18 := Lib.hid (Says.keep b18x b18f b18l (hN (_, _) mb7) hA List.not_mem_nil)
        have X_b21 := Lib.hid (Says.keep b21x b21f b21l (hN (_, _) mb8) hA List.not_mem_nil)
        have p51_47 : f47 51 = .bool false := hf (1, 51) (by simp)
        simp only [fillSlots, p51_47, List.setIfInBounds_toArray, List.set_cons_succ, List.set_cons_zero]
        clear hf hS hN hA hP hlo hlt hap b2x b2m b2f b2l b3x b3m b3f b3l b4x b4m b4f b4l b5x b5m b5f b5l b6x b6m b6f b6l b12x b12m b12f b12l b15x b15m b15f b15l b18x b18m b18f b18l b21x b21m b21f b21l p51_47
        refine hK46.out _ _ ?_; clear hK46
        refine wp_cond_false rfl ?_
        refine wp_skip ?_
        refine hK45.out _ _ ?_; clear hK45
        refine wp_seq_k ?_; intro K48 hK48; replace hK48 := Lib.hid hK48
        obtain ⟨b2v, b2x, b2m, b2f, b2l⟩ := X_b2.out.op rfl
        obtain ⟨b3v, b3x, b3m, b3f, b3l⟩ := X_b3.out.op rfl
        obtain ⟨b4v, b4x, b4m, b4f, b4l⟩ := X_b4.out.op rfl
        obtain ⟨b5v, b5x, b5m, b5f, b5l⟩ := X_b5.out.op rfl
        obtain ⟨b6v, b6x, b6m, b6f, b6l⟩ := X_b6.out.op rfl
        obtain ⟨b12v, b12x, b12m, b12f, b12l⟩ := X_b12.out.op rfl
        obtain ⟨b15v, b15x, b15m, b15f, b15l⟩ := X_b15.out.op rfl
        obtain ⟨b18v, b18x, b18m, b18f, b18l⟩ := X_b18.out.op rfl
        obtain ⟨b21v, b21x, b21m, b21f, b21l⟩ := X_b21.out.op rfl
        clear X_b2 X_b3 X_b4 X_b5 X_b6 X_b12 X_b15 X_b18 X_b21
        refine region_tell (T := [0, 1, 2, 3, 4, 5, 6, 7, 8, 9]) (slots := [57, 58, 59, 60, 61, 56, 62, 63, 13, 14]) (tab := [.is (.pointer (some ⟨b3, 1, none⟩)), .rnum b.natAbs, .is (.pointer (some ⟨b12, 1, none⟩)), .rnum g, .two (.rnum (b.natAbs / g)) (.rnum (b.natAbs % g)), .two (.rnum (b.natAbs / g)) (.rnum (b.natAbs % g)), .rnum (b.natAbs / g), .rnum (b.natAbs % g), .rnum (b.natAbs / g), .rnum (b.natAbs % g)])
            (D := []) (F := [(b2v, .rint a), (b3v, .rint b), (b4v, .rint 0), (b5v, .rint 0), (b6v, .rint 0), (b12v, .rint (g : Int)), (b15v, .rint 0), (b18v, .rint x), (b21v, .rint u)]) List.Pairwise.nil (fc b2m (fc b3m (fc b4m (fc b5m (fc b6m (fc b12m (fc b15m (fc b18m (fc b21m fn))))))))) hn ?_ ?_
        · refine .pl rfl (fun β E W Γ => ev_faR1 (Γ.s rfl)) ?_
          refine .pl rfl (fun β E W Γ => ev_ldR1 (Γ.k 0 rfl) (b3x.far Γ.A List.not_mem_nil) (Γ.F (_, _) mb1) rfl) ?_
          refine .pl rfl (fun β E W Γ => ev_faR1 (Γ.s rfl)) ?_
          refine .pl rfl (fun β E W Γ => ev_ldR1 (Γ.k 2 rfl) (b12x.far Γ.A List.not_mem_nil) (Γ.F (_, _) mb5) (Int.natAbs_natCast g)) ?_
          refine .pl rfl (fun β E W Γ => ev_call2 (Γ.f _) run_rDiv (rDiv_want W _ _ b.natAbs g (by have := SAB.out; omega) HG0.out (Γ.w (d := 58) 1 rfl) (Γ.w (d := 60) 3 rfl))) ?_
          refine .pl rfl (fun β E W Γ => ev_moveM (Γ.w 4 rfl)) ?_
          refine .pl rfl (fun β E W Γ => ev_ex20 (Γ.w 5 rfl)) ?_
          refine .pl rfl (fun β E W Γ => ev_ex21 (Γ.w 5 rfl)) ?_
          refine .pl rfl (fun β E W Γ => ev_assignM (Γ.w 6 rfl)) ?_
          refine .pl rfl (fun β E W Γ => ev_assignM (Γ.w 7 rfl)) ?_
          exact .nil
        intro β f49 W49 hf hS hN hA hP hlo hlt hap
        have HB := Lib.hid (HB.out.trans (hA.below (B := w.heap.size) (by intro b hb; simp [oldBlocks] at hb) HB.out.size))
        have X_b2 := Lib.hid (Says.keep b2x b2f b2l (hN (_, _) mb0) hA List.not_mem_nil)
        have X_b3 := Lib.hid (Says.keep b3x b3f b3l (hN (_, _) mb1) hA List.not_mem_nil)
        have X_b4 := Lib.hid (Says.keep b4x b4f b4l (hN (_, _) mb2) hA List.not_mem_nil)
        have X_b5 := Lib.hid (Says.keep b5x b5f b5l (hN (_, _) mb3) hA List.not_mem_nil)
        have X_b6 := Lib.hid (Says.keep b6x b6f b6l (hN (_, _) mb4) hA List.not_mem_nil)
        have X_b12 := Lib.hid (Says.keep b12x b12f b12l (hN (_, _) mb5) hA List.not_mem_nil)
        have X_b15 := Lib.hid (Says.keep b15x b15f b15l (hN (_, _) mb6) hA List.not_mem_nil)
        have X_b18 := Lib.hid (Says.keep b18x b18f b18l (hN (_, _) mb7) hA List.not_mem_nil)
        have X_b21 := Lib.hid (Says.keep b21x b21f b21l (hN (_, _) mb8) hA List.not_mem_nil)
        have V_13_49 : Hid (Means W49 (.rnum (b.natAbs / g)) (f49 13)) := Lib.hid (hf (8, 13) (by simp))
        simp only [fillSlots, List.setIfInBounds_toArray, List.set_cons_succ, List.set_cons_zero]
        clear hf hS hN hA hP hlo hlt hap b2x b2m b2f b2l b3x b3m b3f b3l b4x b4m b4f b4l b5x b5m b5f b5l b6x b6m b6f b6l b12x b12m b12f b12l b15x b15m b15f b15l b18x b18m b18f b18l b21x b21m b21f b21l
        refine hK48.out _ _ ?_; clear hK48
        refine wp_seq_k ?_; intro K50 hK50; replace hK50 := Lib.hid hK50
        obtain ⟨b2v, b2x, b2m, b2f, b2l⟩ := X_b2.out.op rfl
        obtain ⟨b3v, b3x, b3m, b3f, b3l⟩ := X_b3.out.op rfl
        obtain ⟨b4v, b4x, b4m, b4f, b4l⟩ := X_b4.out.op rfl
        obtain ⟨b5v, b5x, b5m, b5f, b5l⟩ := X_b5.out.op rfl
        obtain ⟨b6v, b6x, b6m, b6f, b6l⟩ := X_b6.out.op rfl
        obtain ⟨b12v, b12x, b12m, b12f, b12l⟩ := X_b12.out.op rfl
        obtain ⟨b15v, b15x, b15m, b15f, b15l⟩ := X_b15.out.op rfl
        obtain ⟨b18v, b18x, b18m, b18f, b18l⟩ := X_b18.out.op rfl
        obtain ⟨b21v, b21x, b21m, b21f, b21l⟩ := X_b21.out.op rfl
        clear X_b2 X_b3 X_b4 X_b5 X_b6 X_b12 X_b15 X_b18 X_b21
        have b2n : b2 ∉ [b18] := by have h := NE.out; simp; omega
        have b3n : b3 ∉ [b18] := by have h := NE.out; simp; omega
        have b4n : b4 ∉ [b18] := by have h := NE.out; simp; omega
        have b5n : b5 ∉ [b18] := by have h := NE.out; simp; omega
        have b6n : b6 ∉ [b18] := by have h := NE.out; simp; omega
        have b12n : b12 ∉ [b18] := by have h := NE.out; simp; omega
        have b15n : b15 ∉ [b18] := by have h := NE.out; simp; omega
        have b21n : b21 ∉ [b18] := by have h := NE.out; simp; omega
        refine region_tell (T := [0, 1, 2, 3, 4, 5, 6]) (slots := [65, 66, 67, 68, 64, 69, 70]) (tab := [.rint x, .rnum (b.natAbs / g), .rint ((b.natAbs / g : Nat) : Int), .two (.rint (qdiv x ((b.natAbs / g : Nat) : Int))) (.rint (qmod x ((b.natAbs / g : Nat) : Int))), .two (.rint (qdiv x ((b.natAbs / g : Nat) : Int))) (.rint (qmod x ((b.natAbs / g : Nat) : Int))), .rint (qdiv x ((b.natAbs / g : Nat) : Int)), .rint (qmod x ((b.natAbs / g : Nat) : Int)), .any])
            (D := [⟨b18, .rint, none, 7, .rint (qmod x ((b.natAbs / g : Nat) : Int)), b18v⟩]) (F := [(b2v, .rint a), (b3v, .rint b), (b4v, .rint 0), (b5v, .rint 0), (b6v, .rint 0), (b12v, .rint (g : Int)), (b15v, .rint 0), (b18v, .rint x), (b21v, .rint u), ((f49 13), .rnum (b.natAbs / g))]) (List.pairwise_singleton _ _) (fc b2m (fc b3m (fc b4m (fc b5m (fc b6m (fc b12m (fc b15m (fc b18m (fc b21m (fc V_13_49.out fn)))))))))) (ho b18x b18f b18l hn) ?_ ?_
        · refine .pl rfl (fun β E W Γ => ev_ldR (Γ.s rfl) (Γ.b1 mb0) (Γ.F (_, _) mb7)) ?_
          refine .pl rfl (fun β E W Γ => ev_moveM (Γ.m rfl mb9)) ?_
          refine .pl rfl (fun β E W Γ => ev_call2 (Γ.f _) run_rI (by rw [Γ.c]; exact rI_gives W _ _ (b.natAbs / g) ((b.natAbs / g : Nat) : Int) rfl (Γ.w (d := 66) 1 rfl))) ?_
          refine .pl rfl (fun β E W Γ => ev_call2 (Γ.f _) run_rIDiv (rIDiv_want W _ _ x ((b.natAbs / g : Nat) : Int) HP0.out SX0.out SPQ.out (Γ.w (d := 65) 0 rfl) (Γ.w (d := 67) 2 rfl))) ?_
          refine .pl rfl (fun β E W Γ => ev_moveM (Γ.w 3 rfl)) ?_
          refine .pl rfl (fun β E W Γ => ev_ex20 (Γ.w 4 rfl)) ?_
          refine .pl rfl (fun β E W Γ => ev_ex21 (Γ.w 4 rfl)) ?_
          refine .st rfl mb0 (fun β E W Γ => ev_stR (Γ.s rfl) (Γ.b1 mb0) (Γ.b2 mb0) (Γ.w 6 rfl)) ?_
          exact .nil
        intro β f51 W51 hf hS hN hA hP hlo hlt hap
        have HB := Lib.hid (HB.out.trans (hA.below (B := w.heap.size) (by have h := NE.out; simp [oldBlocks]; omega) HB.out.size))
        have X_b18 : Hid (Holds W51 b18 .rint (.rint (qmod x ((b.natAbs / g : Nat) : Int)))) := Lib.hid (hS _ mb0)
        have X_b2 := Lib.hid (Says.keep b2x b2f b2l (hN (_, _) mb0) hA b2n)
        have X_b3 := Lib.hid (Says.keep b3x b3f b3l (hN (_, _) mb1) hA b3n)
        have X_b4 := Lib.hid (Says.keep b4x b4f b4l (hN (_, _) mb2) hA b4n)
        have X_b5 := Lib.hid (Says.keep b5x b5f b5l (hN (_, _) mb3) hA b5n)
        have X_b6 := Lib.hid (Says.keep b6x b6f b6l (hN (_, _) mb4) hA b6n)
        have X_b12 := Lib.hid (Says.keep b12x b12f b12l (hN (_, _) mb5) hA b12n)
        have X_b15 := Lib.hid (Says.keep b15x b15f b15l (hN (_, _) mb6) hA b15n)
        have X_b21 := Lib.hid (Says.keep b21x b21f b21l (hN (_, _) mb8) hA b21n)
        simp only [fillSlots, List.setIfInBounds_toArray, List.set_cons_succ, List.set_cons_zero]
        clear hf hS hN hA hP hlo hlt hap b2x b2m b2f b2l b2n b3x b3m b3f b3l b3n b4x b4m b4f b4l b4n b5x b5m b5f b5l b5n b6x b6m b6f b6l b6n b12x b12m b12f b12l b12n b15x b15m b15f b15l b15n b18x b18m b18f b18l b21x b21m b21f b21l b21n
        refine hK50.out _ _ ?_; clear hK50
        refine wp_seq_k ?_; intro K52 hK52; replace hK52 := Lib.hid hK52
        obtain ⟨b2v, b2x, b2m, b2f, b2l⟩ := X_b2.out.op rfl
        obtain ⟨b3v, b3x, b3m, b3f, b3l⟩ := X_b3.out.op rfl
        obtain ⟨b4v, b4x, b4m, b4f, b4l⟩ := X_b4.out.op rfl
        obtain ⟨b5v, b5x, b5m, b5f, b5l⟩ := X_b5.out.op rfl
        obtain ⟨b6v, b6x, b6m, b6f, b6l⟩ := X_b6.out.op rfl
        obtain ⟨b12v, b12x, b12m, b12f, b12l⟩ := X_b12.out.op rfl
        obtain ⟨b15v, b15x, b15m, b15f, b15l⟩ := X_b15.out.op rfl
        obtain ⟨b18v, b18x, b18m, b18f, b18l⟩ := X_b18.out.op rfl
        obtain ⟨b21v, b21x, b21m, b21f, b21l⟩ := X_b21.out.op rfl
        clear X_b2 X_b3 X_b4 X_b5 X_b6 X_b12 X_b15 X_b18 X_b21
        refine region_tell (T := [0, 1, 2, 3, 4, 5, 6, 7, 8, 9, 10, 11]) (slots := [72, 73, 74, 75, 76, 77, 78, 71, 79, 80, 15, 16]) (tab := [.rint (g : Int), .rint a, .rint (qmod x ((b.natAbs / g : Nat) : Int)), .rint (a * (qmod x ((b.natAbs / g : Nat) : Int))), .rint ((g : Int) - (a * (qmod x ((b.natAbs / g : Nat) : Int)))), .rint b, .two (.rint (qdiv ((g : Int) - (a * (qmod x ((b.natAbs / g : Nat) : Int)))) b)) (.rint (qmod ((g : Int) - (a * (qmod x ((b.natAbs / g : Nat) : Int)))) b)), .two (.rint (qdiv ((g : Int) - (a * (qmod x ((b.natAbs / g : Nat) : Int)))) b)) (.rint (qmod ((g : Int) - (a * (qmod x ((b.natAbs / g : Nat) : Int)))) b)), .rint (qdiv ((g : Int) - (a * (qmod x ((b.natAbs / g : Nat) : Int)))) b), .rint (qmod ((g : Int) - (a * (qmod x ((b.natAbs / g : Nat) : Int)))) b), .any, .any, .any, .any])
            (D := [⟨0, .rint, some 10, 12, .rint (qdiv ((g : Int) - (a * (qmod x ((b.natAbs / g : Nat) : Int)))) b), .agg #[.bool false, .slice none 0 0]⟩, ⟨0, .rint, some 11, 13, .rint (qmod ((g : Int) - (a * (qmod x ((b.natAbs / g : Nat) : Int)))) b), .agg #[.bool false, .slice none 0 0]⟩]) (F := [(b2v, .rint a), (b3v, .rint b), (b4v, .rint 0), (b5v, .rint 0), (b6v, .rint 0), (b12v, .rint (g : Int)), (b15v, .rint 0), (b18v, .rint (qmod x ((b.natAbs / g : Nat) : Int))), (b21v, .rint u)]) List.Pairwise.nil (fc b2m (fc b3m (fc b4m (fc b5m (fc b6m (fc b12m (fc b15m (fc b18m (fc b21m fn))))))))) (ha (ha hn)) ?_ ?_
        · refine .pl rfl (fun β E W Γ => ev_ldR (Γ.s rfl) (b12x.far Γ.A List.not_mem_nil) (Γ.F (_, _) mb5)) ?_
          refine .pl rfl (fun β E W Γ => ev_ldR (Γ.s rfl) (b2x.far Γ.A List.not_mem_nil) (Γ.F (_, _) mb0)) ?_
          refine .pl rfl (fun β E W Γ => ev_ldR (Γ.s rfl) (b18x.far Γ.A List.not_mem_nil) (Γ.F (_, _) mb7)) ?_
          refine .pl rfl (fun β E W Γ => ev_call2 (Γ.f _) run_rIMul (rIMul_want W _ _ a (qmod x ((b.natAbs / g : Nat) : Int)) (by have := SAB.out; omega) SXX.out (Γ.w (d := 73) 1 rfl) (Γ.w (d := 74) 2 rfl))) ?_
          refine .pl rfl (fun β E W Γ => ev_call2 (Γ.f _) run_rISub (rISub_want W _ _ (g : Int) (a * (qmod x ((b.natAbs / g : Nat) : Int))) SG.out SAX.out (Γ.w (d := 72) 0 rfl) (Γ.w (d := 75) 3 rfl))) ?_
          refine .pl rfl (fun β E W Γ => ev_ldR (Γ.s rfl) (b3x.far Γ.A List.not_mem_nil) (Γ.F (_, _) mb1)) ?_
          refine .pl rfl (fun β E W Γ => ev_call2 (Γ.f _) run_rIDiv (rIDiv_want W _ _ ((g : Int) - (a * (qmod x ((b.natAbs / g : Nat) : Int)))) b HB0'.out SGA.out (by have := SAB.out; omega) (Γ.w (d := 76) 4 rfl) (Γ.w (d := 77) 5 rfl))) ?_
          refine .pl rfl (fun β E W Γ => ev_moveM (Γ.w 6 rfl)) ?_
          refine .pl rfl (fun β E W Γ => ev_ex20 (Γ.w 7 rfl)) ?_
          refine .pl rfl (fun β E W Γ => ev_ex21 (Γ.w 7 rfl)) ?_
          refine .al rfl mb0 (fun _ _ => ev_alR) ?_
          refine .al rfl mb1 (fun _ _ => ev_alR) ?_
          refine .st rfl mb0 (fun β E W Γ => ev_stR (Γ.q mb0 rfl) (Γ.b1 mb0) (Γ.b2 mb0) (Γ.w 8 rfl)) ?_
          refine .st rfl mb1 (fun β E W Γ => ev_stR (Γ.q mb1 rfl) (Γ.b1 mb1) (Γ.b2 mb1) (Γ.w 9 rfl)) ?_
          exact .nil
        intro β f53 W53 hf hS hN hA hP hlo hlt hap
        have HB0 := HB.out.size
        have HB := Lib.hid (HB.out.trans (hA.below (B := w.heap.size) (by intro b hb; simp [oldBlocks] at hb) HB.out.size))
        obtain ⟨b54, b54e⟩ : ∃ b, b = β 12 := ⟨_, rfl⟩
        have b54p : f53 15 = .pointer (some ⟨b54, 0, none⟩) := b54e ▸ hP _ mb0 (10, 15) (by simp) rfl
        have b54o : W51.heap.size ≤ b54 := b54e ▸ hlo _ mb0 (by intro h; cases h)
        have X_b54 : Hid (Holds W53 b54 .rint (.rint (qdiv ((g : Int) - (a * (qmod x ((b.natAbs / g : Nat) : Int)))) b))) := Lib.hid (b54e ▸ hS _ mb0)
        obtain ⟨b55, b55e⟩ : ∃ b, b = β 13 := ⟨_, rfl⟩
        have b55p : f53 16 = .pointer (some ⟨b55, 0, none⟩) := b55e ▸ hP _ mb1 (11, 16) (by simp) rfl
        have b55o : W51.heap.size ≤ b55 := b55e ▸ hlo _ mb1 (by intro h; cases h)
        have X_b55 : Hid (Holds W53 b55 .rint (.rint (qmod ((g : Int) - (a * (qmod x ((b.natAbs / g : Nat) : Int)))) b))) := Lib.hid (b55e ▸ hS _ mb1)
        have b54b55q : b54 ≠ b55 := by rw [b54e, b55e]; exact hap _ mb0 _ mb1 (by show 12 ≠ 13; decide)
        have NE : Hid (w.heap.size ≤ b2 ∧ w.heap.size ≤ b3 ∧ w.heap.size ≤ b4 ∧ w.heap.size ≤ b5 ∧ w.heap.size ≤ b6 ∧ b2 < b3 ∧ b2 < b4 ∧ b2 < b5 ∧ b2 < b6 ∧ b3 < b4 ∧ b3 < b5 ∧ b3 < b6 ∧ b4 < b5 ∧ b4 < b6 ∧ b5 < b6 ∧ b2 < b12 ∧ b3 < b12 ∧ b4 < b12 ∧ b5 < b12 ∧ b6 < b12 ∧ w.heap.size ≤ b12 ∧ b2 < b15 ∧ b3 < b15 ∧ b4 < b15 ∧ b5 < b15 ∧ b6 < b15 ∧ b12 < b15 ∧ w.heap.size ≤ b15 ∧ b2 < b18 ∧ b3 < b18 ∧ b4 < b18 ∧ b5 < b18 ∧ b6 < b18 ∧ b12 < b18 ∧ b15 < b18 ∧ w.heap.size ≤ b18 ∧ b2 < b21 ∧ b3 < b21 ∧ b4 < b21 ∧ b5 < b21 ∧ b6 < b21 ∧ b12 < b21 ∧ b15 < b21 ∧ b18 < b21 ∧ w.heap.size ≤ b21 ∧ b2 < b54 ∧ b3 < b54 ∧ b4 < b54 ∧ b5 < b54 ∧ b6 < b54 ∧ b12 < b54 ∧ b15 < b54 ∧ b18 < b54 ∧ b21 < b54 ∧ w.heap.size ≤ b54 ∧ b54 ≠ b55 ∧ b2 < b55 ∧ b3 < b55 ∧ b4 < b55 ∧ b5 < b55 ∧ b6 < b55 ∧ b12 < b55 ∧ b15 < b55 ∧ b18 < b55 ∧ b21 < b55 ∧ w.heap.size ≤ b55) := Lib.hid (by have h := NE.out; omega)
        have X_b2 := Lib.hid (Says.keep b2x b2f b2l (hN (_, _) mb0) hA List.not_mem_nil)
        have X_b3 := Lib.hid (Says.keep b3x b3f b3l (hN (_, _) mb1) hA List.not_mem_nil)
        have X_b4 := Lib.hid (Says.keep b4x b4f b4l (hN (_, _) mb2) hA List.not_mem_nil)
        have X_b5 := Lib.hid (Says.keep b5x b5f b5l (hN (_, _) mb3) hA List.not_mem_nil)
        have X_b6 := Lib.hid (Says.keep b6x b6f b6l (hN (_, _) mb4) hA List.not_mem_nil)
        have X_b12 := Lib.hid (Says.keep b12x b12f b12l (hN (_, _) mb5) hA List.not_mem_nil)
        have X_b15 := Lib.hid (Says.keep b15x b15f b15l (hN (_, _) mb6) hA List.not_mem_nil)
        have X_b18 := Lib.hid (Says.keep b18x b18f b18l (hN (_, _) mb7) hA List.not_mem_nil)
        have X_b21 := Lib.hid (Says.keep b21x b21f b21l (hN (_, _) mb8) hA List.not_mem_nil)
        simp only [fillSlots, b54p, b55p, List.setIfInBounds_toArray, List.set_cons_succ, List.set_cons_zero]
        clear hf hS hN hA hP hlo hlt hap b2x b2m b2f b2l b3x b3m b3f b3l b4x b4m b4f b4l b5x b5m b5f b5l b6x b6m b6f b6l b12x b12m b12f b12l b15x b15m b15f b15l b18x b18m b18f b18l b21x b21m b21f b21l b54e b54o b55e b55o b54b55q b54p b55p HB0
        refine hK52.out _ _ ?_; clear hK52
        refine wp_seq_k ?_; intro K56 hK56; replace hK56 := Lib.hid hK56
        clear X_b55
        obtain ⟨b2v, b2x, b2m, b2f, b2l⟩ := X_b2.out.op rfl
        obtain ⟨b3v, b3x, b3m, b3f, b3l⟩ := X_b3.out.op rfl
        obtain ⟨b4v, b4x, b4m, b4f, b4l⟩ := X_b4.out.op rfl
        obtain ⟨b5v, b5x, b5m, b5f, b5l⟩ := X_b5.out.op rfl
        obtain ⟨b6v, b6x, b6m, b6f, b6l⟩ := X_b6.out.op rfl
        obtain ⟨b12v, b12x, b12m, b12f, b12l⟩ := X_b12.out.op rfl
        obtain ⟨b15v, b15x, b15m, b15f, b15l⟩ := X_b15.out.op rfl
        obtain ⟨b18v, b18x, b18m, b18f, b18l⟩ := X_b18.out.op rfl
        obtain ⟨b21v, b21x, b21m, b21f, b21l⟩ := X_b21.out.op rfl
        obtain ⟨b54v, b54x, b54m, b54f, b54l⟩ := X_b54.out.op rfl
        clear X_b2 X_b3 X_b4 X_b5 X_b6 X_b12 X_b15 X_b18 X_b21 X_b54
        have b2n : b2 ∉ [b4, b5, b6] := by have h := NE.out; simp; omega
        have b3n : b3 ∉ [b4, b5, b6] := by have h := NE.out; simp; omega
        have b12n : b12 ∉ [b4, b5, b6] := by have h := NE.out; simp; omega
        have b15n : b15 ∉ [b4, b5, b6] := by have h := NE.out; simp; omega
        have b18n : b18 ∉ [b4, b5, b6] := by have h := NE.out; simp; omega
        have b21n : b21 ∉ [b4, b5, b6] := by have h := NE.out; simp; omega
        have b54n : b54 ∉ [b4, b5, b6] := by have h := NE.out; simp; omega
        refine region_tell (T := [0, 1, 2]) (slots := [81, 82, 83]) (tab := [.rint (g : Int), .rint (qmod x ((b.natAbs / g : Nat) : Int)), .rint (qdiv ((g : Int) - (a * (qmod x ((b.natAbs / g : Nat) : Int)))) b), .any, .any, .any])
            (D := [⟨b4, .rint, none, 3, .rint (g : Int), b4v⟩, ⟨b5, .rint, none, 4, .rint (qmod x ((b.natAbs / g : Nat) : Int)), b5v⟩, ⟨b6, .rint, none, 5, .rint (qdiv ((g : Int) - (a * (qmod x ((b.natAbs / g : Nat) : Int)))) b), b6v⟩]) (F := [(b2v, .rint a), (b3v, .rint b), (b4v, .rint 0), (b5v, .rint 0), (b6v, .rint 0), (b12v, .rint (g : Int)), (b15v, .rint 0), (b18v, .rint (qmod x ((b.natAbs / g : Nat) : Int))), (b21v, .rint u), (b54v, .rint (qdiv ((g : Int) - (a * (qmod x ((b.natAbs / g : Nat) : Int)))) b))]) (by have h := NE.out; show List.Pairwise _ [(⟨b4, .rint, none, 3, .rint (g : Int), b4v⟩ : DBox), (⟨b5, .rint, none, 4, .rint (qmod x ((b.natAbs / g : Nat) : Int)), b5v⟩ : DBox), (⟨b6, .rint, none, 5, .rint (qdiv ((g : Int) - (a * (qmod x ((b.natAbs / g : Nat) : Int)))) b), b6v⟩ : DBox)]; simp; omega) (fc b2m (fc b3m (fc b4m (fc b5m (fc b6m (fc b12m (fc b15m (fc b18m (fc b21m (fc b54m fn)))))))))) (ho b4x b4f b4l (ho b5x b5f b5l (ho b6x b6f b6l hn))) ?_ ?_
        · refine .pl rfl (fun β E W Γ => ev_ldR (Γ.s rfl) (b12x.far Γ.A b12n) (Γ.F (_, _) mb5)) ?_
          refine .pl rfl (fun β E W Γ => ev_ldR (Γ.s rfl) (b18x.far Γ.A b18n) (Γ.F (_, _) mb7)) ?_
          refine .pl rfl (fun β E W Γ => ev_ldR (Γ.s rfl) (b54x.far Γ.A b54n) (Γ.F (_, _) mb9)) ?_
          refine .st rfl mb0 (fun β E W Γ => ev_stR (Γ.s rfl) (Γ.b1 mb0) (Γ.b2 mb0) (Γ.w 0 rfl)) ?_
          refine .st rfl mb1 (fun β E W Γ => ev_stR (Γ.s rfl) (Γ.b1 mb1) (Γ.b2 mb1) (Γ.w 1 rfl)) ?_
          refine .st rfl mb2 (fun β E W Γ => ev_stR (Γ.s rfl) (Γ.b1 mb2) (Γ.b2 mb2) (Γ.w 2 rfl)) ?_
          exact .nil
        intro β f57 W57 hf hS hN hA hP hlo hlt hap
        have HB := Lib.hid (HB.out.trans (hA.below (B := w.heap.size) (by have h := NE.out; simp [oldBlocks]; omega) HB.out.size))
        have X_b4 : Hid (Holds W57 b4 .rint (.rint (g : Int))) := Lib.hid (hS _ mb0)
        have X_b5 : Hid (Holds W57 b5 .rint (.rint (qmod x ((b.natAbs / g : Nat) : Int)))) := Lib.hid (hS _ mb1)
        have X_b6 : Hid (Holds W57 b6 .rint (.rint (qdiv ((g : Int) - (a * (qmod x ((b.natAbs / g : Nat) : Int)))) b))) := Lib.hid (hS _ mb2)
        have X_b2 := Lib.hid (Says.keep b2x b2f b2l (hN (_, _) mb0) hA b2n)
        have X_b3 := Lib.hid (Says.keep b3x b3f b3l (hN (_, _) mb1) hA b3n)
        have X_b12 := Lib.hid (Says.keep b12x b12f b12l (hN (_, _) mb5) hA b12n)
        have X_b15 := Lib.hid (Says.keep b15x b15f b15l (hN (_, _) mb6) hA b15n)
        have X_b18 := Lib.hid (Says.keep b18x b18f b18l (hN (_, _) mb7) hA b18n)
        have X_b21 := Lib.hid (Says.keep b21x b21f b21l (hN (_, _) mb8) hA b21n)
        have X_b54 := Lib.hid (Says.keep b54x b54f b54l (hN (_, _) mb9) hA b54n)
        simp only [fillSlots, List.setIfInBounds_toArray, List.set_cons_succ, List.set_cons_zero]
        clear hf hS hN hA hP hlo hlt hap b2x b2m b2f b2l b2n b3x b3m b3f b3l b3n b4x b4m b4f b4l b5x b5m b5f b5l b6x b6m b6f b6l b12x b12m b12f b12l b12n b15x b15m b15f b15l b15n b18x b18m b18f b18l b18n b21x b21m b21f b21l b21n b54x b54m b54f b54l b54n
        refine hK56.out _ _ ?_; clear hK56
        refine wp_ret ?_
        obtain ⟨⟨u0, hx0, hm0⟩, -⟩ := X_b4.out
        obtain ⟨gr0, pr0, lr0, cr0, rfl, c0_0, c0_1⟩ := hx0.rint
        obtain ⟨⟨u1, hx1, hm1⟩, -⟩ := X_b5.out
        obtain ⟨gr1, pr1, lr1, cr1, rfl, c1_0, c1_1⟩ := hx1.rint
        obtain ⟨⟨u2, hx2, hm2⟩, -⟩ := X_b6.out
        obtain ⟨gr2, pr2, lr2, cr2, rfl, c2_0, c2_1⟩ := hx2.rint
        exact bodyPost_ret (v := .tuple #[.agg #[.bool gr0, .slice pr0 lr0 cr0], .agg #[.bool gr1, .slice pr1 lr1 cr1], .agg #[.bool gr2, .slice pr2 lr2 cr2]]) (by simp [results, Tryz.results19, go_sem, c0_0, c0_1, c1_0, c1_1, c2_0, c2_1]) rfl ⟨_, rfl, ⟨_, _, _, HDG.out, HSPEC.out, _, _, _, rfl, hm0, hm1, hm2⟩, HB.out⟩
    · have HS0 := Lib.hid hs0
      clear hs0
      have HGT : Hid (decide (s.natAbs ≠ 0) = true) := Lib.hid (decide_eq_true (by have := HS0.out; omega))
      have SQ : Hid ((ds (qdiv r s).natAbs).length ≤ 60) := Lib.hid (by have := ds_qdiv r s HS0.out; have := SZ.out; omega)
      have SQU : Hid ((ds (qdiv r s * u).natAbs).length ≤ 60) := Lib.hid (by have := ds_natAbs_mul (qdiv r s) u; have := ds_qdiv r s HS0.out; have := SZ.out; omega)
      refine wp_seq_k ?_; intro K58 hK58; replace hK58 := Lib.hid hK58
      refine wp_seq_k ?_; intro K59 hK59; replace hK59 := Lib.hid hK59
      obtain ⟨b2v, b2x, b2m, b2f, b2l⟩ := X_b2.out.op rfl
      obtain ⟨b3v, b3x, b3m, b3f, b3l⟩ := X_b3.out.op rfl
      obtain ⟨b4v, b4x, b4m, b4f, b4l⟩ := X_b4.out.op rfl
      obtain ⟨b5v, b5x, b5m, b5f, b5l⟩ := X_b5.out.op rfl
      obtain ⟨b6v, b6x, b6m, b6f, b6l⟩ := X_b6.out.op rfl
      obtain ⟨b12v, b12x, b12m, b12f, b12l⟩ := X_b12.out.op rfl
      obtain ⟨b15v, b15x, b15m, b15f, b15l⟩ := X_b15.out.op rfl
      obtain ⟨b18v, b18x, b18m, b18f, b18l⟩ := X_b18.out.op rfl
      obtain ⟨b21v, b21x, b21m, b21f, b21l⟩ := X_b21.out.op rfl
      clear X_b2 X_b3 X_b4 X_b5 X_b6 X_b12 X_b15 X_b18 X_b21
      refine region_tell (T := [0, 1, 2, 3]) (slots := [32, 33, 34, 35]) (tab := [.is (.pointer (some ⟨b15, 1, none⟩)), .rnum s.natAbs, .that (lenS s.natAbs), .is (.bool true)])
          (D := []) (F := [(b2v, .rint a), (b3v, .rint b), (b4v, .rint 0), (b5v, .rint 0), (b6v, .rint 0), (b12v, .rint r), (b15v, .rint s), (b18v, .rint x), (b21v, .rint u)]) List.Pairwise.nil (fc b2m (fc b3m (fc b4m (fc b5m (fc b6m (fc b12m (fc b15m (fc b18m (fc b21m fn))))))))) hn ?_ ?_
      · refine .pl rfl (fun β E W Γ => ev_faR1 (Γ.s rfl)) ?_
        refine .pl rfl (fun β E W Γ => ev_ldR1 (Γ.k 0 rfl) (b15x.far Γ.A List.not_mem_nil) (Γ.F (_, _) mb6) rfl) ?_
        refine .pl rfl (fun β E W Γ => ev_len (Γ.w 1 rfl)) ?_
        refine .pl rfl (fun β E W Γ => ev_lenGtr (Γ.w 2 rfl) HGT.out Γ.c) ?_
        exact .nil
      intro β f60 W60 hf hS hN hA hP hlo hlt hap
      have HB := Lib.hid (HB.out.trans (hA.below (B := w.heap.size) (by intro b hb; simp [oldBlocks] at hb) HB.out.size))
      have X_b2 := Lib.hid (Says.keep b2x b2f b2l (hN (_, _) mb0) hA List.not_mem_nil)
      have X_b3 := Lib.hid (Says.keep b3x b3f b3l (hN (_, _) mb1) hA List.not_mem_nil)
      have X_b4 := Lib.hid (Says.keep b4x b4f b4l (hN (_, _) mb2) hA List.not_mem_nil)
      have X_b5 := Lib.hid (Says.keep b5x b5f b5l (hN (_, _) mb3) hA List.not_mem_nil)
      have X_b6 := Lib.hid (Says.keep b6x b6f b6l (hN (_, _) mb4) hA List.not_mem_nil)
      have X_b12 := Lib.hid (Says.keep b12x b12f b12l (hN (_, _) mb5) hA List.not_mem_nil)
      have X_b15 := Lib.hid (Says.keep b15x b15f b15l (hN (_, _) mb6) hA List.not_mem_nil)
      have X_b18 := Lib.hid (Says.keep b18x b18f b18l (hN (_, _) mb7) hA List.not_mem_nil)
      have X_b21 := Lib.hid (Says.keep b21x b21f b21l (hN (_, _) mb8) hA List.not_mem_nil)
      have p35_60 : f60 35 = .bool true := hf (3, 35) (by simp)
      simp only [fillSlots, p35_60, List.setIfInBounds_toArray, List.set_cons_succ, List.set_cons_zero]
      clear hf hS hN hA hP hlo hlt hap b2x b2m b2f b2l b3x b3m b3f b3l b4x b4m b4f b4l b5x b5m b5f b5l b6x b6m b6f b6l b12x b12m b12f b12l b15x b15m b15f b15l b18x b18m b18f b18l b21x b21m b21f b21l p35_60
      refine hK59.out _ _ ?_; clear hK59
      refine wp_cond_true rfl ?_
      refine wp_skip ?_
      refine hK58.out _ _ ?_; clear hK58
      refine wp_block ?_
      refine wp_seq_k ?_; intro K61 hK61; replace hK61 := Lib.hid hK61
      obtain ⟨b2v, b2x, b2m, b2f, b2l⟩ := X_b2.out.op rfl
      obtain ⟨b3v, b3x, b3m, b3f, b3l⟩ := X_b3.out.op rfl
      obtain ⟨b4v, b4x, b4m, b4f, b4l⟩ := X_b4.out.op rfl
      obtain ⟨b5v, b5x, b5m, b5f, b5l⟩ := X_b5.out.op rfl
      obtain ⟨b6v, b6x, b6m, b6f, b6l⟩ := X_b6.out.op rfl
      obtain ⟨b12v, b12x, b12m, b12f, b12l⟩ := X_b12.out.op rfl
      obtain ⟨b15v, b15x, b15m, b15f, b15l⟩ := X_b15.out.op rfl
      obtain ⟨b18v, b18x, b18m, b18f, b18l⟩ := X_b18.out.op rfl
      obtain ⟨b21v, b21x, b21m, b21f, b21l⟩ := X_b21.out.op rfl
      clear X_b2 X_b3 X_b4 X_b5 X_b6 X_b12 X_b15 X_b18 X_b21
      refine region_tell (T := [0, 1, 2, 3, 4, 5, 6, 7]) (slots := [37, 38, 39, 36, 40, 41, 11, 12]) (tab := [.rint r, .rint s, .two (.rint (qdiv r s)) (.rint (qmod r s)), .two (.rint (qdiv r s)) (.rint (qmod r s)), .rint (qdiv r s), .rint (qmod r s), .any, .any, .any, .any])
          (D := [⟨0, .rint, some 6, 8, .rint (qdiv r s), .agg #[.bool false, .slice none 0 0]⟩, ⟨0, .rint, some 7, 9, .rint (qmod r s), .agg #[.bool false, .slice none 0 0]⟩]) (F := [(b2v, .rint a), (b3v, .rint b), (b4v, .rint 0), (b5v, .rint 0), (b6v, .rint 0), (b12v, .rint r), (b15v, .rint s), (b18v, .rint x), (b21v, .rint u)]) List.Pairwise.nil (fc b2m (fc b3m (fc b4m (fc b5m (fc b6m (fc b12m (fc b15m (fc b18m (fc b21m fn))))))))) (ha (ha hn)) ?_ ?_
      · refine .pl rfl (fun β E W Γ => ev_ldR (Γ.s rfl) (b12x.far Γ.A List.not_mem_nil) (Γ.F (_, _) mb5)) ?_
        refine .pl rfl (fun β E W Γ => ev_ldR (Γ.s rfl) (b15x.far Γ.A List.not_mem_nil) (Γ.F (_, _) mb6)) ?_
        refine .pl rfl (fun β E W Γ => ev_call2 (Γ.f _) run_rIDiv (rIDiv_want W _ _ r s HS0.out (by have := SZ.out; omega) (by have := SZ.out; omega) (Γ.w (d := 37) 0 rfl) (Γ.w (d := 38) 1 rfl))) ?_
        refine .pl rfl (fun β E W Γ => ev_moveM (Γ.w 2 rfl)) ?_
        refine .pl rfl (fun β E W Γ => ev_ex20 (Γ.w 3 rfl)) ?_
        refine .pl rfl (fun β E W Γ => ev_ex21 (Γ.w 3 rfl)) ?_
        refine .al rfl mb0 (fun _ _ => ev_alR) ?_
        refine .al rfl mb1 (fun _ _ => ev_alR) ?_
        refine .st rfl mb0 (fun β E W Γ => ev_stR (Γ.q mb0 rfl) (Γ.b1 mb0) (Γ.b2 mb0) (Γ.w 4 rfl)) ?_
        refine .st rfl mb1 (fun β E W Γ => ev_stR (Γ.q mb1 rfl) (Γ.b1 mb1) (Γ.b2 mb1) (Γ.w 5 rfl)) ?_
        exact .nil
      intro β f62 W62 hf hS hN hA hP hlo hlt hap
      have HB0 := HB.out.size
      have HB := Lib.hid (HB.out.trans (hA.below (B := w.heap.size) (by intro b hb; simp [oldBlocks] at hb) HB.out.size))
      obtain ⟨b63, b63e⟩ : ∃ b, b = β 8 := ⟨_, rfl⟩
      have b63p : f62 11 = .pointer (some ⟨b63, 0, none⟩) := b63e ▸ hP _ mb0 (6, 11) (by simp) rfl
      have b63o : W60.heap.size ≤ b63 := b63e ▸ hlo _ mb0 (by intro h; cases h)
      have X_b63 : Hid (Holds W62 b63 .rint (.rint (qdiv r s))) := Lib.hid (b63e ▸ hS _ mb0)
      obtain ⟨b64, b64e⟩ : ∃ b, b = β 9 := ⟨_, rfl⟩
      have b64p : f62 12 = .pointer (some ⟨b64, 0, none⟩) := b64e ▸ hP _ mb1 (7, 12) (by simp) rfl
      have b64o : W60.heap.size ≤ b64 := b64e ▸ hlo _ mb1 (by intro h; cases h)
      have X_b64 : Hid (Holds W62 b64 .rint (.rint (qmod r s))) := Lib.hid (b64e ▸ hS _ mb1)
      have b63b64q : b63 ≠ b64 := by rw [b63e, b64e]; exact hap _ mb0 _ mb1 (by show 8 ≠ 9; decide)
      have NE : Hid (w.heap.size ≤ b2 ∧ w.heap.size ≤ b3 ∧ w.heap.size ≤ b4 ∧ w.heap.size ≤ b5 ∧ w.heap.size ≤ b6 ∧ b2 < b3 ∧ b2 < b4 ∧ b2 < b5 ∧ b2 < b6 ∧ b3 < b4 ∧ b3 < b5 ∧ b3 < b6 ∧ b4 < b5 ∧ b4 < b6 ∧ b5 < b6 ∧ b2 < b12 ∧ b3 < b12 ∧ b4 < b12 ∧ b5 < b12 ∧ b6 < b12 ∧ w.heap.size ≤ b12 ∧ b2 < b15 ∧ b3 < b15 ∧ b4 < b15 ∧ b5 < b15 ∧ b6 < b15 ∧ b12 < b15 ∧ w.heap.size ≤ b15 ∧ b2 < b18 ∧ b3 < b18 ∧ b4 < b18 ∧ b5 < b18 ∧ b6 < b18 ∧ b12 < b18 ∧ b15 < b18 ∧ w.heap.size ≤ b18 ∧ b2 < b21 ∧ b3 < b21 ∧ b4 < b21 ∧ b5 < b21 ∧ b6 < b21 ∧ b12 < b21 ∧ b15 < b21 ∧ b18 < b21 ∧ w.heap.size ≤ b21 ∧ b2 < b63 ∧ b3 < b63 ∧ b4 < b63 ∧ b5 < b63 ∧ b6 < b63 ∧ b12 < b63 ∧ b15 < b63 ∧ b18 < b63 ∧ b21 < b63 ∧ w.heap.size ≤ b63 ∧ b63 ≠ b64 ∧ b2 < b64 ∧ b3 < b64 ∧ b4 < b64 ∧ b5 < b64 ∧ b6 < b64 ∧ b12 < b64 ∧ b15 < b64 ∧ b18 < b64 ∧ b21 < b64 ∧ w.heap.size ≤ b64) := Lib.hid (by have h := NE.out; omega)
      have X_b2 := Lib.hid (Says.keep b2x b2f b2l (hN (_, _) mb0) hA List.not_mem_nil)
      have X_b3 := Lib.hid (Says.keep b3x b3f b3l (hN (_, _) mb1) hA List.not_mem_nil)
      have X_b4 := Lib.hid (Says.keep b4x b4f b4l (hN (_, _) mb2) hA List.not_mem_nil)
      have X_b5 := Lib.hid (Says.keep b5x b5f b5l (hN (_, _) mb3) hA List.not_mem_nil)
      have X_b6 := Lib.hid (Says.keep b6x b6f b6l (hN (_, _) mb4) hA List.not_mem_nil)
      have X_b12 := Lib.hid (Says.keep b12x b12f b12l (hN (_, _) mb5) hA List.not_mem_nil)
      have X_b15 := Lib.hid (Says.keep b15x b15f b15l (hN (_, _) mb6) hA List.not_mem_nil)
      have X_b18 := Lib.hid (Says.keep b18x b18f b18l (hN (_, _) mb7) hA List.not_mem_nil)
      have X_b21 := Lib.hid (Says.keep b21x b21f b21l (hN (_, _) mb8) hA List.not_mem_nil)
      simp only [fillSlots, b63p, b64p, List.setIfInBounds_toArray, List.set_cons_succ, List.set_cons_zero]
      clear hf hS hN hA hP hlo hlt hap b2x b2m b2f b2l b3x b3m b3f b3l b4x b4m b4f b4l b5x b5m b5f b5l b6x b6m b6f b6l b12x b12m b12f b12l b15x b15m b15f b15l b18x b18m b18f b18l b21x b21m b21f b21l b63e b63o b64e b64o b63b64q b63p b64p HB0
      refine hK61.out _ _ ?_; clear hK61
      refine wp_seq_k ?_; intro K65 hK65; replace hK65 := Lib.hid hK65
      obtain ⟨b2v, b2x, b2m, b2f, b2l⟩ := X_b2.out.op rfl
      obtain ⟨b3v, b3x, b3m, b3f, b3l⟩ := X_b3.out.op rfl
      obtain ⟨b4v, b4x, b4m, b4f, b4l⟩ := X_b4.out.op rfl
      obtain ⟨b5v, b5x, b5m, b5f, b5l⟩ := X_b5.out.op rfl
      obtain ⟨b6v, b6x, b6m, b6f, b6l⟩ := X_b6.out.op rfl
      obtain ⟨b12v, b12x, b12m, b12f, b12l⟩ := X_b12.out.op rfl
      obtain ⟨b15v, b15x, b15m, b15f, b15l⟩ := X_b15.out.op rfl
      obtain ⟨b18v, b18x, b18m, b18f, b18l⟩ := X_b18.out.op rfl
      obtain ⟨b21v, b21x, b21m, b21f, b21l⟩ := X_b21.out.op rfl
      obtain ⟨b63v, b63x, b63m, b63f, b63l⟩ := X_b63.out.op rfl
      obtain ⟨b64v, b64x, b64m, b64f, b64l⟩ := X_b64.out.op rfl
      clear X_b2 X_b3 X_b4 X_b5 X_b6 X_b12 X_b15 X_b18 X_b21 X_b63 X_b64
      have b2n : b2 ∉ [b12] := by have h := NE.out; simp; omega
      have b3n : b3 ∉ [b12] := by have h := NE.out; simp; omega
      have b4n : b4 ∉ [b12] := by have h := NE.out; simp; omega
      have b5n : b5 ∉ [b12] := by have h := NE.out; simp; omega
      have b6n : b6 ∉ [b12] := by have h := NE.out; simp; omega
      have b15n : b15 ∉ [b12] := by have h := NE.out; simp; omega
      have b18n : b18 ∉ [b12] := by have h := NE.out; simp; omega
      have b21n : b21 ∉ [b12] := by have h := NE.out; simp; omega
      have b63n : b63 ∉ [b12] := by have h := NE.out; simp; omega
      have b64n : b64 ∉ [b12] := by have h := NE.out; simp; omega
      refine region_tell (T := [0]) (slots := [42]) (tab := [.rint s, .any])
          (D := [⟨b12, .rint, none, 1, .rint s, b12v⟩]) (F := [(b2v, .rint a), (b3v, .rint b), (b4v, .rint 0), (b5v, .rint 0), (b6v, .rint 0), (b12v, .rint r), (b15v, .rint s), (b18v, .rint x), (b21v, .rint u), (b63v, .rint (qdiv r s)), (b64v, .rint (qmod r s))]) (List.pairwise_singleton _ _) (fc b2m (fc b3m (fc b4m (fc b5m (fc b6m (fc b12m (fc b15m (fc b18m (fc b21m (fc b63m (fc b64m fn))))))))))) (ho b12x b12f b12l hn) ?_ ?_
      · refine .pl rfl (fun β E W Γ => ev_ldR (Γ.s rfl) (b15x.far Γ.A b15n) (Γ.F (_, _) mb6)) ?_
        refine .st rfl mb0 (fun β E W Γ => ev_stR (Γ.s rfl) (Γ.b1 mb0) (Γ.b2 mb0) (Γ.w 0 rfl)) ?_
        exact .nil
      intro β f66 W66 hf hS hN hA hP hlo hlt hap
      have HB := Lib.hid (HB.out.trans (hA.below (B := w.heap.size) (by have h := NE.out; simp [oldBlocks]; omega) HB.out.size))
      have X_b12 : Hid (Holds W66 b12 .rint (.rint s)) := Lib.hid (hS _ mb0)
      have X_b2 := Lib.hid (Says.keep b2x b2f b2l (hN (_, _) mb0) hA b2n)
      have X_b3 := Lib.hid (Says.keep b3x b3f b3l (hN (_, _) mb1) hA b3n)
      have X_b4 := Lib.hid (Says.keep b4x b4f b4l (hN (_, _) mb2) hA b4n)
      have X_b5 := Lib.hid (Says.keep b5x b5f b5l (hN (_, _) mb3) hA b5n)
      have X_b6 := Lib.hid (Says.keep b6x b6f b6l (hN (_, _) mb4) hA b6n)
      have X_b15 := Lib.hid (Says.keep b15x b15f b15l (hN (_, _) mb6) hA b15n)
      have X_b18 := Lib.hid (Says.keep b18x b18f b18l (hN (_, _) mb7) hA b18n)
      have X_b21 := Lib.hid (Says.keep b21x b21f b21l (hN (_, _) mb8) hA b21n)
      have X_b63 := Lib.hid (Says.keep b63x b63f b63l (hN (_, _) mb9) hA b63n)
      have X_b64 := Lib.hid (Says.keep b64x b64f b64l (hN (_, _) mb10) hA b64n)
      simp only [fillSlots, List.setIfInBounds_toArray, List.set_cons_succ, List.set_cons_zero]
      clear hf hS hN hA hP hlo hlt hap b2x b2m b2f b2l b2n b3x b3m b3f b3l b3n b4x b4m b4f b4l b4n b5x b5m b5f b5l b5n b6x b6m b6f b6l b6n b12x b12m b12f b12l b15x b15m b15f b15l b15n b18x b18m b18f b18l b18n b21x b21m b21f b21l b21n b63x b63m b63f b63l b63n b64x b64m b64f b64l b64n
      refine hK65.out _ _ ?_; clear hK65
      refine wp_seq_k ?_; intro K67 hK67; replace hK67 := Lib.hid hK67
      obtain ⟨b2v, b2x, b2m, b2f, b2l⟩ := X_b2.out.op rfl
      obtain ⟨b3v, b3x, b3m, b3f, b3l⟩ := X_b3.out.op rfl
      obtain ⟨b4v, b4x, b4m, b4f, b4l⟩ := X_b4.out.op rfl
      obtain ⟨b5v, b5x, b5m, b5f, b5l⟩ := X_b5.out.op rfl
      obtain ⟨b6v, b6x, b6m, b6f, b6l⟩ := X_b6.out.op rfl
      obtain ⟨b12v, b12x, b12m, b12f, b12l⟩ := X_b12.out.op rfl
      obtain ⟨b15v, b15x, b15m, b15f, b15l⟩ := X_b15.out.op rfl
      obtain ⟨b18v, b18x, b18m, b18f, b18l⟩ := X_b18.out.op rfl
      obtain ⟨b21v, b21x, b21m, b21f, b21l⟩ := X_b21.out.op rfl
      obtain ⟨b63v, b63x, b63m, b63f, b63l⟩ := X_b63.out.op rfl
      obtain ⟨b64v, b64x, b64m, b64f, b64l⟩ := X_b64.out.op rfl
      clear X_b2 X_b3 X_b4 X_b5 X_b6 X_b12 X_b15 X_b18 X_b21 X_b63 X_b64
      have b2n : b2 ∉ [b15] := by have h := NE.out; simp; omega
      have b3n : b3 ∉ [b15] := by have h := NE.out; simp; omega
      have b4n : b4 ∉ [b15] := by have h := NE.out; simp; omega
      have b5n : b5 ∉ [b15] := by have h := NE.out; simp; omega
      have b6n : b6 ∉ [b15] := by have h := NE.out; simp; omega
      have b12n : b12 ∉ [b15] := by have h := NE.out; simp; omega
      have b18n : b18 ∉ [b15] := by have h := NE.out; simp; omega
      have b21n : b21 ∉ [b15] := by have h := NE.out; simp; omega
      have b63n : b63 ∉ [b15] := by have h := NE.out; simp; omega
      have b64n : b64 ∉ [b15] := by have h := NE.out; simp; omega
      refine region_tell (T := [0]) (slots := [43]) (tab := [.rint (qmod r s), .any])
          (D := [⟨b15, .rint, none, 1, .rint (qmod r s), b15v⟩]) (F := [(b2v, .rint a), (b3v, .rint b), (b4v, .rint 0), (b5v, .rint 0), (b6v, .rint 0), (b12v, .rint s), (b15v, .rint s), (b18v, .rint x), (b21v, .rint u), (b63v, .rint (qdiv r s)), (b64v, .rint (qmod r s))]) (List.pairwise_singleton _ _) (fc b2m (fc b3m (fc b4m (fc b5m (fc b6m (fc b12m (fc b15m (fc b18m (fc b21m (fc b63m (fc b64m fn))))))))))) (ho b15x b15f b15l hn) ?_ ?_
      · refine .pl rfl (fun β E W Γ => ev_ldR (Γ.s rfl) (b64x.far Γ.A b64n) (Γ.F (_, _) mb10)) ?_
        refine .st rfl mb0 (fun β E W Γ => ev_stR (Γ.s rfl) (Γ.b1 mb0) (Γ.b2 mb0) (Γ.w 0 rfl)) ?_
        exact .nil
      intro β f68 W68 hf hS hN hA hP hlo hlt hap
      have HB := Lib.hid (HB.out.trans (hA.below (B := w.heap.size) (by have h := NE.out; simp [oldBlocks]; omega) HB.out.size))
      have X_b15 : Hid (Holds W68 b15 .rint (.rint (qmod r s))) := Lib.hid (hS _ mb0)
      have X_b2 := Lib.hid (Says.keep b2x b2f b2l (hN (_, _) mb0) hA b2n)
      have X_b3 := Lib.hid (Says.keep b3x b3f b3l (hN (_, _) mb1) hA b3n)
      have X_b4 := Lib.hid (Says.keep b4x b4f b4l (hN (_, _) mb2) hA b4n)
      have X_b5 := Lib.hid (Says.keep b5x b5f b5l (hN (_, _) mb3) hA b5n)
      have X_b6 := Lib.hid (Says.keep b6x b6f b6l (hN (_, _) mb4) hA b6n)
      have X_b12 := Lib.hid (Says.keep b12x b12f b12l (hN (_, _) mb5) hA b12n)
      have X_b18 := Lib.hid (Says.keep b18x b18f b18l (hN (_, _) mb7) hA b18n)
      have X_b21 := Lib.hid (Says.keep b21x b21f b21l (hN (_, _) mb8) hA b21n)
      have X_b63 := Lib.hid (Says.keep b63x b63f b63l (hN (_, _) mb9) hA b63n)
      have X_b64 := Lib.hid (Says.keep b64x b64f b64l (hN (_, _) mb10) hA b64n)
      simp only [fillSlots, List.setIfInBounds_toArray, List.set_cons_succ, List.set_cons_zero]
      clear hf hS hN hA hP hlo hlt hap b2x b2m b2f b2l b2n b3x b3m b3f b3l b3n b4x b4m b4f b4l b4n b5x b5m b5f b5l b5n b6x b6m b6f b6l b6n b12x b12m b12f b12l b12n b15x b15m b15f b15l b18x b18m b18f b18l b18n b21x b21m b21f b21l b21n b63x b63m b63f b63l b63n b64x b64m b64f b64l b64n
      refine hK67.out _ _ ?_; clear hK67
      clear X_b64
      obtain ⟨b2v, b2x, b2m, b2f, b2l⟩ := X_b2.out.op rfl
      obtain ⟨b3v, b3x, b3m, b3f, b3l⟩ := X_b3.out.op rfl
      obtain ⟨b4v, b4x, b4m, b4f, b4l⟩ := X_b4.out.op rfl
      obtain ⟨b5v, b5x, b5m, b5f, b5l⟩ := X_b5.out.op rfl
      obtain ⟨b6v, b6x, b6m, b6f, b6l⟩ := X_b6.out.op rfl
      obtain ⟨b12v, b12x, b12m, b12f, b12l⟩ := X_b12.out.op rfl
      obtain ⟨b15v, b15x, b15m, b15f, b15l⟩ := X_b15.out.op rfl
      obtain ⟨b18v, b18x, b18m, b18f, b18l⟩ := X_b18.out.op rfl
      obtain ⟨b21v, b21x, b21m, b21f, b21l⟩ := X_b21.out.op rfl
      obtain ⟨b63v, b63x, b63m, b63f, b63l⟩ := X_b63.out.op rfl
      clear X_b2 X_b3 X_b4 X_b5 X_b6 X_b12 X_b15 X_b18 X_b21 X_b63
      have b2n : b2 ∉ [b18, b21] := by have h := NE.out; simp; omega
      have b3n : b3 ∉ [b18, b21] := by have h := NE.out; simp; omega
      have b4n : b4 ∉ [b18, b21] := by have h := NE.out; simp; omega
      have b5n : b5 ∉ [b18, b21] := by have h := NE.out; simp; omega
      have b6n : b6 ∉ [b18, b21] := by have h := NE.out; simp; omega
      have b12n : b12 ∉ [b18, b21] := by have h := NE.out; simp; omega
      have b15n : b15 ∉ [b18, b21] := by have h := NE.out; simp; omega
      have b63n : b63 ∉ [b18, b21] := by have h := NE.out; simp; omega
      refine region_tell (T := [0, 1, 2, 3, 4, 5]) (slots := [44, 45, 46, 47, 48, 49]) (tab := [.rint u, .rint x, .rint (qdiv r s), .rint u, .rint ((qdiv r s) * u), .rint (x - ((qdiv r s) * u)), .any, .any])
          (D := [⟨b18, .rint, none, 6, .rint u, b18v⟩, ⟨b21, .rint, none, 7, .rint (x - ((qdiv r s) * u)), b21v⟩]) (F := [(b2v, .rint a), (b3v, .rint b), (b4v, .rint 0), (b5v, .rint 0), (b6v, .rint 0), (b12v, .rint s), (b15v, .rint (qmod r s)), (b18v, .rint x), (b21v, .rint u), (b63v, .rint (qdiv r s))]) (by have h := NE.out; show List.Pairwise _ [(⟨b18, .rint, none, 6, .rint u, b18v⟩ : DBox), (⟨b21, .rint, none, 7, .rint (x - ((qdiv r s) * u)), b21v⟩ : DBox)]; simp; omega) (fc b2m (fc b3m (fc b4m (fc b5m (fc b6m (fc b12m (fc b15m (fc b18m (fc b21m (fc b63m fn)))))))))) (ho b18x b18f b18l (ho b21x b21f b21l hn)) ?_ ?_
      · refine .pl rfl (fun β E W Γ => ev_ldR (Γ.s rfl) (Γ.b1 mb1) (Γ.F (_, _) mb8)) ?_
        refine .pl rfl (fun β E W Γ => ev_ldR (Γ.s rfl) (Γ.b1 mb0) (Γ.F (_, _) mb7)) ?_
        refine .pl rfl (fun β E W Γ => ev_ldR (Γ.s rfl) (b63x.far Γ.A b63n) (Γ.F (_, _) mb9)) ?_
        refine .pl rfl (fun β E W Γ => ev_ldR (Γ.s rfl) (Γ.b1 mb1) (Γ.F (_, _) mb8)) ?_
        refine .pl rfl (fun β E W Γ => ev_call2 (Γ.f _) run_rIMul (rIMul_want W _ _ (qdiv r s) u SQ.out (by have := SZ.out; omega) (Γ.w (d := 46) 2 rfl) (Γ.w (d := 47) 3 rfl))) ?_
        refine .pl rfl (fun β E W Γ => ev_call2 (Γ.f _) run_rISub (rISub_want W _ _ x ((qdiv r s) * u) (by have := SZ.out; omega) SQU.out (Γ.w (d := 45) 1 rfl) (Γ.w (d := 48) 4 rfl))) ?_
        refine .st rfl mb0 (fun β E W Γ => ev_stR (Γ.s rfl) (Γ.b1 mb0) (Γ.b2 mb0) (Γ.w 0 rfl)) ?_
        refine .st rfl mb1 (fun β E W Γ => ev_stR (Γ.s rfl) (Γ.b1 mb1) (Γ.b2 mb1) (Γ.w 5 rfl)) ?_
        exact .nil
      intro β f69 W69 hf hS hN hA hP hlo hlt hap
      have HB := Lib.hid (HB.out.trans (hA.below (B := w.heap.size) (by have h := NE.out; simp [oldBlocks]; omega) HB.out.size))
      have X_b18 : Hid (Holds W69 b18 .rint (.rint u)) := Lib.hid (hS _ mb0)
      have X_b21 : Hid (Holds W69 b21 .rint (.rint (x - ((qdiv r s) * u)))) := Lib.hid (hS _ mb1)
      have X_b2 := Lib.hid (Says.keep b2x b2f b2l (hN (_, _) mb0) hA b2n)
      have X_b3 := Lib.hid (Says.keep b3x b3f b3l (hN (_, _) mb1) hA b3n)
      have X_b4 := Lib.hid (Says.keep b4x b4f b4l (hN (_, _) mb2) hA b4n)
      have X_b5 := Lib.hid (Says.keep b5x b5f b5l (hN (_, _) mb3) hA b5n)
      have X_b6 := Lib.hid (Says.keep b6x b6f b6l (hN (_, _) mb4) hA b6n)
      have X_b12 := Lib.hid (Says.keep b12x b12f b12l (hN (_, _) mb5) hA b12n)
      have X_b15 := Lib.hid (Says.keep b15x b15f b15l (hN (_, _) mb6) hA b15n)
      have X_b63 := Lib.hid (Says.keep b63x b63f b63l (hN (_, _) mb9) hA b63n)
      simp only [fillSlots, List.setIfInBounds_toArray, List.set_cons_succ, List.set_cons_zero]
      clear hf hS hN hA hP hlo hlt hap b2x b2m b2f b2l b2n b3x b3m b3f b3l b3n b4x b4m b4f b4l b4n b5x b5m b5f b5l b5n b6x b6m b6f b6l b6n b12x b12m b12f b12l b12n b15x b15m b15f b15l b15n b18x b18m b18f b18l b21x b21m b21f b21l b63x b63m b63f b63l b63n
      simp only [Exit.then, Exit.inBlock]
      go_step
      go_roundg (qmod r s).natAbs
      case measure => have h1 := HK.out; have h2 := (qdiv_parts (x := r) HS0.out).2; omega
      case rel => exact ⟨s, qmod r s, u, x - qdiv r s * u, Lib.hid rfl, Lib.hid (HI.out.step HS0.out), X_b2, X_b3, X_b4, X_b5, X_b6, X_b12, X_b15, X_b18, X_b21, HB⟩
end Go.Proofs.YthjeidgmkkkmbaaGreatDoor
