/- The document's Bezout of any two integers. -/
import Derived.Test.YthjeidgmkkkmbaaGreatDoorByt
import Derived.Test.YthjeidgmkkkmbaaGreatDoorRBez
import Derived.Test.YthjeidgmkkkmbaaGreatDoorBezU
namespace Go.Proofs.YthjeidgmkkkmbaaGreatDoor
open Go.RowKit

set_option maxRecDepth 100000 in
set_option maxHeartbeats 8000000 in
theorem rBez_none (w : World) (g1 g2 : Bool) (p1 p2 : Option Addr) (l1 c1 l2 c2 : Nat) (a : Int) (h1 : IsRI w g1 p1 l1 c1 a) (h2 : IsRI w g2 p2 l2 c2 0) :
    Calls Tryz.prog 19 #[.agg #[.bool g1, .slice p1 l1 c1], .agg #[.bool g2, .slice p2 l2 c2]] w (RetRBez w a 0) := by
  have SG : Hid (-9223372036854775808 ≤ cmp3 a 0 ∧ cmp3 a 0 ≤ 9223372036854775807) := Lib.hid (by unfold cmp3; split <;> (try split) <;> omega)
  have H1 := Lib.hid h1; have H2 := Lib.hid h2
  clear h1 h2
  go_enter Tryz.func19, Tryz.ntmps19
  refine wp_seq_k ?_; intro K1 hK1; replace hK1 := Lib.hid hK1
  go_wp2
  obtain ⟨W2, b2, eW2, eb2, sz2, X2, hb2, hc2⟩ := put_box w w .rint (.rint a) [.bool g1, .slice p1 l1 c1] 32 ⟨⟨_, rfl⟩, ⟨_, _, _, rfl⟩, trivial⟩ ⟨_, _, _, _, rfl, H1.out⟩ (Below.refl _ _)
  obtain ⟨W3, b3, eW3, eb3, sz3, X3, hb3, hc3⟩ := put_box w W2 .rint (.rint 0) [.bool g2, .slice p2 l2 c2] 32 ⟨⟨_, rfl⟩, ⟨_, _, _, rfl⟩, trivial⟩ ⟨_, _, _, _, rfl, H2.out⟩ hc2
  obtain ⟨W4, b4, eW4, eb4, sz4, X4, hb4, hc4⟩ := put_box w W3 .rint (.rint 0) [.bool false, .slice none 0 0] 32 ⟨⟨_, rfl⟩, ⟨_, _, _, rfl⟩, trivial⟩ ⟨_, _, _, _, rfl, rfl, by simp [dr_zero], Nat.le_refl _, fun h => absurd rfl h⟩ hc3
  obtain ⟨W5, b5, eW5, eb5, sz5, X5, hb5, hc5⟩ := put_box w W4 .rint (.rint 0) [.bool false, .slice none 0 0] 32 ⟨⟨_, rfl⟩, ⟨_, _, _, rfl⟩, trivial⟩ ⟨_, _, _, _, rfl, rfl, by simp [dr_zero], Nat.le_refl _, fun h => absurd rfl h⟩ hc4
  obtain ⟨W6, b6, eW6, eb6, sz6, X6, hb6, hc6⟩ := put_box w W5 .rint (.rint 0) [.bool false, .slice none 0 0] 32 ⟨⟨_, rfl⟩, ⟨_, _, _, rfl⟩, trivial⟩ ⟨_, _, _, _, rfl, rfl, by simp [dr_zero], Nat.le_refl _, fun h => absurd rfl h⟩ hc5
  rw [sz2] at eb3
  rw [sz3] at eb4
  rw [sz2] at eb4
  rw [sz4] at eb5
  rw [sz3] at eb5
  rw [sz2] at eb5
  rw [sz5] at eb6
  rw [sz4] at eb6
  rw [sz3] at eb6
  rw [sz2] at eb6
  rw [← eW2, ← eW3, ← eW4, ← eW5, ← eW6]
  rw [← eb6, ← eb5, ← eb4, ← eb3, ← eb2]
  have X_b2 := Lib.hid ((((X2.mono hb3).mono hb4).mono hb5).mono hb6)
  have X_b3 := Lib.hid (((X3.mono hb4).mono hb5).mono hb6)
  have X_b4 := Lib.hid ((X4.mono hb5).mono hb6)
  have X_b5 := Lib.hid (X5.mono hb6)
  have X_b6 := Lib.hid X6
  have HB := Lib.hid hc6
  have NE : Hid (w.heap.size ≤ b2 ∧ w.heap.size ≤ b3 ∧ w.heap.size ≤ b4 ∧ w.heap.size ≤ b5 ∧ w.heap.size ≤ b6 ∧ b2 < b3 ∧ b2 < b4 ∧ b2 < b5 ∧ b2 < b6 ∧ b3 < b4 ∧ b3 < b5 ∧ b3 < b6 ∧ b4 < b5 ∧ b4 < b6 ∧ b5 < b6) := Lib.hid (by omega)
  clear eW6 eb6 sz6 X6 hb6 hc6 eW5 eb5 sz5 X5 hb5 hc5 eW4 eb4 sz4 X4 hb4 hc4 eW3 eb3 sz3 X3 hb3 hc3 eW2 eb2 sz2 X2 hb2 hc2
  refine hK1.out _ _ ?_; clear hK1; try clear K1
  refine wp_seq_k ?_; intro K7 hK7; replace hK7 := Lib.hid hK7
  refine wp_seq_k ?_; intro K8 hK8; replace hK8 := Lib.hid hK8
  obtain ⟨b2v, b2x, b2m, b2f, b2l⟩ := X_b2.out.op rfl
  obtain ⟨b3v, b3x, b3m, b3f, b3l⟩ := X_b3.out.op rfl
  obtain ⟨b4v, b4x, b4m, b4f, b4l⟩ := X_b4.out.op rfl
  obtain ⟨b5v, b5x, b5m, b5f, b5l⟩ := X_b5.out.op rfl
  obtain ⟨b6v, b6x, b6m, b6f, b6l⟩ := X_b6.out.op rfl
  clear X_b2 X_b3 X_b4 X_b5 X_b6
  refine region_tell (T := [0, 1, 2, 3]) (slots := [17, 18, 19, 20]) (tab := [.is (.pointer (some ⟨b3, 1, none⟩)), .rnum ((0 : Int).natAbs), .that (lenS ((0 : Int).natAbs)), .is (.bool true)])
      (D := []) (F := [(b2v, .rint a), (b3v, .rint 0), (b4v, .rint 0), (b5v, .rint 0), (b6v, .rint 0)]) List.Pairwise.nil (fc b2m (fc b3m (fc b4m (fc b5m (fc b6m fn))))) hn ?_ ?_
  · refine .pl rfl (fun β E W Γ => ev_faR1 (Γ.s rfl)) ?_
    refine .pl rfl (fun β E W Γ => ev_ldR1 (Γ.k 0 rfl) (b3x.far Γ.A List.not_mem_nil) (Γ.F (_, _) mb1) rfl) ?_
    refine .pl rfl (fun β E W Γ => ev_len (Γ.w 1 rfl)) ?_
    refine .pl rfl (fun β E W Γ => ev_lenEql (Γ.w 2 rfl) rfl Γ.c) ?_
    exact .nil
  intro β f9 W9 hf hS hN hA hP hlo hlt hap
  have HB := Lib.hid (HB.out.trans (hA.below (B := w.heap.size) (by intro b hb; simp [oldBlocks] at hb) HB.out.size))
  have X_b2 := Lib.hid (Says.keep b2x b2f b2l (hN (_, _) mb0) hA List.not_mem_nil)
  have X_b3 := Lib.hid (Says.keep b3x b3f b3l (hN (_, _) mb1) hA List.not_mem_nil)
  have X_b4 := Lib.hid (Says.keep b4x b4f b4l (hN (_, _) mb2) hA List.not_mem_nil)
  have X_b5 := Lib.hid (Says.keep b5x b5f b5l (hN (_, _) mb3) hA List.not_mem_nil)
  have X_b6 := Lib.hid (Says.keep b6x b6f b6l (hN (_, _) mb4) hA List.not_mem_nil)
  have p20_9 : f9 20 = .bool true := hf (3, 20) (by simp)
  simp only [fillSlots, p20_9, List.setIfInBounds_toArray, List.set_cons_succ, List.set_cons_zero]
  clear hf hS hN hA hP hlo hlt hap b2x b2m b2f b2l b3x b3m b3f b3l b4x b4m b4f b4l b5x b5m b5f b5l b6x b6m b6f b6l p20_9
  refine hK8.out _ _ ?_; clear hK8
  refine wp_cond_true rfl ?_
  refine wp_seq_k ?_; intro K10 hK10; replace hK10 := Lib.hid hK10
  obtain ⟨b2v, b2x, b2m, b2f, b2l⟩ := X_b2.out.op rfl
  obtain ⟨b3v, b3x, b3m, b3f, b3l⟩ := X_b3.out.op rfl
  obtain ⟨b4v, b4x, b4m, b4f, b4l⟩ := X_b4.out.op rfl
  obtain ⟨b5v, b5x, b5m, b5f, b5l⟩ := X_b5.out.op rfl
  obtain ⟨b6v, b6x, b6m, b6f, b6l⟩ := X_b6.out.op rfl
  clear X_b2 X_b3 X_b4 X_b5 X_b6
  have b2n : b2 ∉ [b4, b5, b6] := by have h := NE.out; simp; omega
  have b3n : b3 ∉ [b4, b5, b6] := by have h := NE.out; simp; omega
  refine region_tell (T := [0, 1, 2, 3, 4, 5, 6]) (slots := [21, 22, 23, 24, 25, 26, 27]) (tab := [.is (.pointer (some ⟨b2, 1, none⟩)), .rnum a.natAbs, .rint ((a.natAbs : Nat) : Int), .rint a, .is (.int .i64 (cmp3 a 0)), .rint (cmp3 a 0), .rint 0, .any, .any, .any])
      (D := [⟨b4, .rint, none, 7, .rint ((a.natAbs : Nat) : Int), b4v⟩, ⟨b5, .rint, none, 8, .rint (cmp3 a 0), b5v⟩, ⟨b6, .rint, none, 9, .rint 0, b6v⟩]) (F := [(b2v, .rint a), (b3v, .rint 0), (b4v, .rint 0), (b5v, .rint 0), (b6v, .rint 0)]) (by have h := NE.out; show List.Pairwise _ [(⟨b4, .rint, none, 7, .rint ((a.natAbs : Nat) : Int), b4v⟩ : DBox), (⟨b5, .rint, none, 8, .rint (cmp3 a 0), b5v⟩ : DBox), (⟨b6, .rint, none, 9, .rint 0, b6v⟩ : DBox)]; simp; omega) (fc b2m (fc b3m (fc b4m (fc b5m (fc b6m fn))))) (ho b4x b4f b4l (ho b5x b5f b5l (ho b6x b6f b6l hn))) ?_ ?_
  · refine .pl rfl (fun β E W Γ => ev_faR1 (Γ.s rfl)) ?_
    refine .pl rfl (fun β E W Γ => ev_ldR1 (Γ.k 0 rfl) (b2x.far Γ.A b2n) (Γ.F (_, _) mb0) rfl) ?_
    refine .pl rfl (fun β E W Γ => ev_call2 (Γ.f _) run_rI (by rw [Γ.c]; exact rI_gives W _ _ a.natAbs ((a.natAbs : Nat) : Int) rfl (Γ.w (d := 22) 1 rfl))) ?_
    refine .pl rfl (fun β E W Γ => ev_ldR (Γ.s rfl) (b2x.far Γ.A b2n) (Γ.F (_, _) mb0)) ?_
    refine .pl rfl (fun β E W Γ => ev_call1 (Γ.f _) run_rISign (rISign_want W _ a (Γ.w (d := 24) 3 rfl))) ?_
    refine .pl rfl (fun β E W Γ => ev_call1 (Γ.f _) run_rIOf (by rw [(show _ = Value.int .i64 (cmp3 a 0) from (Γ.k (d := 25) 4 rfl))]; exact rIOf_any (cmp3 a 0) W SG.out.1 SG.out.2)) ?_
    refine .pl rfl (fun β E W Γ => ev_zeroR) ?_
    refine .st rfl mb0 (fun β E W Γ => ev_stR (Γ.s rfl) (Γ.b1 mb0) (Γ.b2 mb0) (Γ.w 2 rfl)) ?_
    refine .st rfl mb1 (fun β E W Γ => ev_stR (Γ.s rfl) (Γ.b1 mb1) (Γ.b2 mb1) (Γ.w 5 rfl)) ?_
    refine .st rfl mb2 (fun β E W Γ => ev_stR (Γ.s rfl) (Γ.b1 mb2) (Γ.b2 mb2) (Γ.w 6 rfl)) ?_
    exact .nil
  intro β f11 W11 hf hS hN hA hP hlo hlt hap
  have HB := Lib.hid (HB.out.trans (hA.below (B := w.heap.size) (by have h := NE.out; simp [oldBlocks]; omega) HB.out.size))
  have X_b4 : Hid (Holds W11 b4 .rint (.rint ((a.natAbs : Nat) : Int))) := Lib.hid (hS _ mb0)
  have X_b5 : Hid (Holds W11 b5 .rint (.rint (cmp3 a 0))) := Lib.hid (hS _ mb1)
  have X_b6 : Hid (Holds W11 b6 .rint (.rint 0)) := Lib.hid (hS _ mb2)
  have X_b2 := Lib.hid (Says.keep b2x b2f b2l (hN (_, _) mb0) hA b2n)
  have X_b3 := Lib.hid (Says.keep b3x b3f b3l (hN (_, _) mb1) hA b3n)
  simp only [fillSlots, List.setIfInBounds_toArray, List.set_cons_succ, List.set_cons_zero]
  clear hf hS hN hA hP hlo hlt hap b2x b2m b2f b2l b2n b3x b3m b3f b3l b3n b4x b4m b4f b4l b5x b5m b5f b5l b6x b6m b6f b6l
  refine hK10.out _ _ ?_; clear hK10
  refine wp_ret ?_
  obtain ⟨⟨u0, hx0, hm0⟩, -⟩ := X_b4.out
  obtain ⟨gr0, pr0, lr0, cr0, rfl, c0_0, c0_1⟩ := hx0.rint
  obtain ⟨⟨u1, hx1, hm1⟩, -⟩ := X_b5.out
  obtain ⟨gr1, pr1, lr1, cr1, rfl, c1_0, c1_1⟩ := hx1.rint
  obtain ⟨⟨u2, hx2, hm2⟩, -⟩ := X_b6.out
  obtain ⟨gr2, pr2, lr2, cr2, rfl, c2_0, c2_1⟩ := hx2.rint
  exact bodyPost_ret (v := .tuple #[.agg #[.bool gr0, .slice pr0 lr0 cr0], .agg #[.bool gr1, .slice pr1 lr1 cr1], .agg #[.bool gr2, .slice pr2 lr2 cr2]]) (by simp [results, Tryz.results19, go_sem, c0_0, c0_1, c1_0, c1_1, c2_0, c2_1]) rfl ⟨_, rfl, ⟨_, _, _, (Nat.gcd_zero_right _).symm, ⟨fun _ => ⟨rfl, rfl⟩, fun h => absurd rfl h⟩, _, _, _, rfl, hm0, hm1, hm2⟩, HB.out⟩
theorem rBez_want (w : World) (u v : Value) (a b U V : Int) (hs : BezSpec a b U V) (sa : (ds a.natAbs).length ≤ 9) (sb : (ds b.natAbs).length ≤ 9) (h1 : RINum w u a) (h2 : RINum w v b) :
    Calls Tryz.prog 19 #[u, v] w (Gives w (.three (.rint ((Nat.gcd a.natAbs b.natAbs : Nat) : Int)) (.rint U) (.rint V))) := by
  obtain ⟨g, p, l, c, rfl, h1⟩ := h1
  obtain ⟨f, q, k, d, rfl, h2⟩ := h2
  have key : Calls Tryz.prog 19 #[.agg #[.bool g, .slice p l c], .agg #[.bool f, .slice q k d]] w (RetRBez w a b) := by
    by_cases h0 : b = 0
    · subst h0; exact rBez_none w g f p q l c k d a h1 h2
    · exact rBez_some w g f p q l c k d a b h0 sa sb h1 h2
  refine key.mono fun e w' ⟨v, h, ⟨n, X, Y, hn, hs', hm⟩, hb⟩ => ?_
  obtain ⟨rfl, rfl⟩ := bez_unique hs hs'
  subst hn
  exact ⟨v, h, hm, hb⟩
theorem iBez_want (w : World) (u v : Value) (x y U V : Int) (hs : BezSpec x y U V) (hx : (ds x.natAbs).length ≤ 10) (hy : (ds y.natAbs).length ≤ 10) (h1 : INum w u x) (h2 : INum w v y) :
    Calls Tryz.prog 18 #[u, v] w (Gives w (.three (.int ((Nat.gcd x.natAbs y.natAbs : Nat) : Int)) (.int U) (.int V))) := by
  obtain ⟨g, s, p, l, c, rfl, h1⟩ := h1
  obtain ⟨f, t, q, k, d, rfl, h2⟩ := h2
  refine (bezout_any x y g f s t p q l c k d w hx hy h1 h2).mono fun e w' ⟨X, Y, _, _, _, _, _, _, _, _, _, _, _, _, _, _, _, h, hs', a, b, c, hb⟩ => ?_
  obtain ⟨rfl, rfl⟩ := bez_unique hs hs'
  exact ⟨_, h, ⟨_, _, _, rfl, ⟨_, _, _, _, _, rfl, a⟩, ⟨_, _, _, _, _, rfl, b⟩, ⟨_, _, _, _, _, rfl, c⟩⟩, hb⟩
end Go.Proofs.YthjeidgmkkkmbaaGreatDoor
