/- The document's fractions: sums, products, quotients, signs, order; is a fraction the document's. -/
import Derived.Test.YtjhjlecnjkjbbaaGreatDoorOne3
namespace Go.Proofs.YtjhjlecnjkjbbaaGreatDoor
open Go.RowKit

theorem run_hOut : RowKit.Hid (∀ (a : Array Value) (w : World), Sem.run Tryz.prog (callFunc 50 a) w = .ok (.enter 50 a) w) := fun a w => by go_simp
theorem run_hOutInt : RowKit.Hid (∀ (a : Array Value) (w : World), Sem.run Tryz.prog (callFunc 104 a) w = .ok (.enter 104 a) w) := fun a w => by go_simp
theorem run_hOutNat : RowKit.Hid (∀ (a : Array Value) (w : World), Sem.run Tryz.prog (callFunc 105 a) w = .ok (.enter 105 a) w) := fun a w => by go_simp
theorem run_qNum : RowKit.Hid (∀ (a : Array Value) (w : World), Sem.run Tryz.prog (callFunc 27 a) w = .ok (.enter 27 a) w) := fun a w => by go_simp
theorem run_rCmp : RowKit.Hid (∀ (a : Array Value) (w : World), Sem.run Tryz.prog (callFunc 52 a) w = .ok (.enter 52 a) w) := fun a w => by go_simp
theorem run_rMul : RowKit.Hid (∀ (a : Array Value) (w : World), Sem.run Tryz.prog (callFunc 65 a) w = .ok (.enter 65 a) w) := fun a w => by go_simp
theorem run_rQAdd : RowKit.Hid (∀ (a : Array Value) (w : World), Sem.run Tryz.prog (callFunc 12 a) w = .ok (.enter 12 a) w) := fun a w => by go_simp
theorem run_rQDen : RowKit.Hid (∀ (a : Array Value) (w : World), Sem.run Tryz.prog (callFunc 64 a) w = .ok (.enter 64 a) w) := fun a w => by go_simp
theorem run_rQNeg : RowKit.Hid (∀ (a : Array Value) (w : World), Sem.run Tryz.prog (callFunc 22 a) w = .ok (.enter 22 a) w) := fun a w => by go_simp
theorem madeOf_divInt (n d : Int) : MadeOf n d (Rat.divInt n d) := by
  refine ⟨fun h => ?_, fun h => ?_⟩
  · obtain ⟨k, rfl⟩ := Int.eq_ofNat_of_zero_le (Int.le_of_lt h)
    rfl
  · cases d with
    | ofNat k => exact absurd h (by simp)
    | negSucc k => exact Rat.normalize_eq_mkRat (Nat.succ_ne_zero _)
theorem div_made (X Y : Rat) : MadeOf (X.num * ((Y.den : Nat) : Int)) (((X.den : Nat) : Int) * Y.num) (X / Y) := by
  have h : X / Y = Rat.divInt (X.num * (Y.den : Int)) ((X.den : Int) * Y.num) := by
    rw [Rat.div_def, Rat.inv_def, ← Rat.divInt_mul_divInt, Rat.num_divInt_den]
  rw [h]
  exact madeOf_divInt _ _
theorem qbRs {X : Rat} (h : QB X 600) : (ds X.num.natAbs).length ≤ 60 ∧ (ds ((X.den : Nat) : Int).natAbs).length ≤ 60 ∧ (ds X.den).length ≤ 1000 := by
  rw [Int.natAbs_natCast]; have := h.ds; omega
theorem qbRp {X Y : Rat} (hx : QB X 600) (hy : QB Y 600) : (ds (X.num * ((Y.den : Nat) : Int)).natAbs).length ≤ 60 ∧ (ds (((X.den : Nat) : Int) * Y.num).natAbs).length ≤ 60 ∧ (ds (X.num * Y.num).natAbs).length ≤ 60 ∧ (ds (((X.den * Y.den : Nat) : Int)).natAbs).length ≤ 60 := by
  have h1 := ds_natAbs_mul X.num ((Y.den : Nat) : Int); have h2 := ds_natAbs_mul ((X.den : Nat) : Int) Y.num; have h3 := ds_natAbs_mul X.num Y.num; have h4 := ds_mul X.den Y.den
  rw [Int.natAbs_natCast] at h1 h2 ⊢
  have := hx.ds; have := hy.ds; omega
theorem qbRa {X Y : Rat} (hx : QB X 600) (hy : QB Y 600) : (ds (X.num * ((Y.den : Nat) : Int) + Y.num * ((X.den : Nat) : Int)).natAbs).length ≤ 400 := by
  have h1 := (qbRp hx hy).1; have h2 := (qbRp hy hx).1
  have h3 := ds_mono (Int.natAbs_add_le (X.num * ((Y.den : Nat) : Int)) (Y.num * ((X.den : Nat) : Int)))
  have h4 := ds_add (X.num * ((Y.den : Nat) : Int)).natAbs (Y.num * ((X.den : Nat) : Int)).natAbs
  omega
theorem den_mul_pos (X Y : Rat) : 0 < X.den * Y.den := Nat.mul_pos X.den_pos Y.den_pos
theorem rMul_gives (w : World) (u v : Value) (m n : Nat) (hm : (ds m).length ≤ 1000) (hn : (ds n).length ≤ 1000) (h1 : RNum w u m) (h2 : RNum w v n) : Calls Tryz.prog 65 #[u, v] w (Gives w (.rnum (m * n))) := by
  obtain ⟨p, l, c, rfl, h1⟩ := h1
  obtain ⟨q, k, d, rfl, h2⟩ := h2
  have := h1.short hm; have := h2.short hn
  exact (rMul_any p q l c k d m n w (by omega) (by omega) h1 h2).mono fun _ _ h => (RetR.want h)
section
variable {E : Operand → Value} {w : World} {d : Option Tmp} {ty : TypeId} {pos : String} {af : Array Edge} {gd : Option (Nat × Bool)}
theorem ev_ldP1 {x : Operand} {b : Nat} {X : Rat} (h : E x = .pointer (some ⟨b, 1, none⟩)) (hs : Says w b .rfrac (.that (rfracS X))) : Does Tryz.prog ⟨d, .load 26 x, ty, pos, af, gd⟩ E w fun v' w' => Means w' (.rnum X.num.natAbs) v' ∧ Below w.heap.size w w' := by
  obtain ⟨v, hb, hm⟩ := hs
  obtain ⟨g, p, l, c, q, k, d, rfl, q0, q1, q2⟩ := hb.rfrac
  obtain ⟨_, _, _, _, _, _, _, e, h1, h2⟩ := hm
  cases e
  exact Does.value (v := .slice p l c) (w' := w) (by go_simp) ⟨⟨_, _, _, rfl, h1.2⟩, Below.refl _ _⟩
theorem ev_ldPb {x : Operand} {b : Nat} {X : Rat} (h : E x = .pointer (some ⟨b, 0, none⟩)) (hs : Says w b .rfrac (.that (rfracS X))) : Does Tryz.prog ⟨d, .load 4 x, ty, pos, af, gd⟩ E w fun v' w' => Means w' (.is (.bool (decide (X.num < 0)))) v' ∧ Below w.heap.size w w' := by
  obtain ⟨v, hb, hm⟩ := hs
  obtain ⟨g, p, l, c, q, k, d, rfl, q0, q1, q2⟩ := hb.rfrac
  obtain ⟨_, _, _, _, _, _, _, e, h1, h2⟩ := hm
  cases e
  exact Does.value (v := .bool g) (w' := w) (by go_simp) ⟨congrArg Value.bool h1.1, Below.refl _ _⟩
theorem ev_eqlB {x y : Operand} {a b : Bool} (h1 : E x = .bool a) (h2 : E y = .bool b) {v : Bool} (hv : (a == b) = v) : Does Tryz.prog ⟨d, .binOp .eql 4 x y 4, ty, pos, af, gd⟩ E w fun v' w' => v' = .bool v ∧ Below w.heap.size w w' :=
  Does.value (w' := w) (by go_simp) ⟨congrArg Value.bool hv, Below.refl _ _⟩
end
set_option maxRecDepth 100000 in
set_option maxHeartbeats 4000000 in
theorem rQDen_val (w : World) (u1 : Value) (X : Rat) (h1 : Means w (.that (rfracS X)) u1) :
    Calls Tryz.prog 64 #[u1] w (Gives w (.rint ((X.den : Nat) : Int))) := by
  obtain ⟨g1, p1, l1, c1, q1, k1, d1, rfl, h1⟩ := h1
  have H1 := Lib.hid h1; clear h1
  go_enter Tryz.func64, Tryz.ntmps64
  have J := Frm.start (w := w) (V := []) fn
  refine wp_seq_h ?_; intro K1 hK1; go_wp2
  obtain ⟨W2, b2, eW2, eb2, sz2, J⟩ := Frm.putP J rfl H1.out
  obtain ⟨W3, b3, eW3, eb3, sz3, J⟩ := Frm.putR0 J sz2
  rw [← eW2, ← eW3, ← eb3, ← eb2]
  clear eW2 eb2 sz2 eW3 eb3 sz3
  refine hK1.out _ _ ?_; clear hK1
  refine region_c [4, 5, 6, 0] [.is (.pointer (some ⟨b2, 2, none⟩)), .rnum X.den, .rint ((X.den : Nat) : Int), .any] [none, some (3, .rint ((X.den : Nat) : Int))] [] [] J ?_ ?_
  · refine .pl rfl (fun _ _ W Γ => ev_faP1 (Γ.s rfl)) ?_
    refine .pl rfl (fun _ _ W Γ => ev_ldP2 (Γ.k 0 rfl) (Γ.l 0 rfl)) ?_
    refine .pl rfl (fun _ _ W Γ => ev_call2 (Γ.f _) run_rI (by rw [Γ.c]; exact rI_gives W _ _ (X.den) _ rfl (Γ.w (d := 4) 1 rfl))) ?_
    refine .st 1 rfl rfl rfl (fun _ _ W Γ => ev_stR (Γ.s rfl) (Γ.u 1 rfl rfl) (Γ.w 2 rfl)) ?_
    exact .nil
  clear J; intro K4 hK4; simp only [fx]; intro _ f4 W4 J; refine hK4.out _ _ ?_; clear hK4
  refine wp_ret ?_
  obtain ⟨u0, hx0, hm0⟩ := J.out.get 1 rfl
  obtain ⟨gr0, pr0, lr0, cr0, rfl, c0_0, c0_1⟩ := hx0.rint
  exact bodyPost_ret (v := .agg #[.bool gr0, .slice pr0 lr0 cr0]) (by simp [results, Tryz.results64, go_sem, c0_0, c0_1]) rfl ⟨_, rfl, hm0, J.out.be⟩
set_option maxRecDepth 100000 in
set_option maxHeartbeats 4000000 in
theorem rQAdd_val (w : World) (u1 u2 : Value) (X Y : Rat) (hx : QB X 600) (hy : QB Y 600) (h1 : Means w (.that (rfracS X)) u1) (h2 : Means w (.that (rfracS Y)) u2) :
    Calls Tryz.prog 12 #[u1, u2] w (Gives w (.that (rfracS (X + Y)))) := by
  obtain ⟨g1, p1, l1, c1, q1, k1, d1, rfl, h1⟩ := h1
  obtain ⟨g2, p2, l2, c2, q2, k2, d2, rfl, h2⟩ := h2
  have H1 := Lib.hid h1; clear h1
  have H2 := Lib.hid h2; clear h2
  have SX := Lib.hid (qbRs hx); have SY := Lib.hid (qbRs hy)
  have SA : Hid (_ ∧ _) := Lib.hid (And.intro (Nat.le_trans (qbRp hx hy).1 (show 60 ≤ 400 by omega)) (Nat.le_trans (qbRp hy hx).1 (show 60 ≤ 400 by omega)))
  have HM : Hid (MadeOf (X.num * ((Y.den : Nat) : Int) + Y.num * ((X.den : Nat) : Int)) ((X.den * Y.den : Nat) : Int) (X + Y)) := Lib.hid (madeOf_den (Rat.add_def' X Y) (den_mul_pos X Y))
  have HD0 : Hid (((X.den * Y.den : Nat) : Int) ≠ 0) := Lib.hid (by have := den_mul_pos X Y; omega)
  have HS := Lib.hid (And.intro (qbRa hx hy) (Nat.le_trans (qbRp hx hy).2.2.2 (show 60 ≤ 400 by omega)))
  clear hx hy
  go_enter Tryz.func12, Tryz.ntmps12
  have J := Frm.start (w := w) (V := []) fn
  refine wp_seq_h ?_; intro K1 hK1; go_wp2
  obtain ⟨W2, b2, eW2, eb2, sz2, J⟩ := Frm.putP J rfl H1.out
  obtain ⟨W3, b3, eW3, eb3, sz3, J⟩ := Frm.putP J sz2 H2.out
  obtain ⟨W4, b4, eW4, eb4, sz4, J⟩ := Frm.putP0 J sz3
  rw [← eW2, ← eW3, ← eW4, ← eb4, ← eb3, ← eb2]
  clear eW2 eb2 sz2 eW3 eb3 sz3 eW4 eb4 sz4
  refine hK1.out _ _ ?_; clear hK1
  refine region_c [6, 7, 8, 9, 10, 11, 12, 13, 14, 15, 16, 17, 18, 19, 20, 21, 22, 23, 0] [.is (.pointer (some ⟨b2, 0, none⟩)), .rint X.num, .that (rfracS Y), .rint ((Y.den : Nat) : Int), .rint (X.num * ((Y.den : Nat) : Int)), .is (.pointer (some ⟨b3, 0, none⟩)), .rint Y.num, .that (rfracS X), .rint ((X.den : Nat) : Int), .rint (Y.num * ((X.den : Nat) : Int)), .rint (X.num * ((Y.den : Nat) : Int) + Y.num * ((X.den : Nat) : Int)), .is (.pointer (some ⟨b2, 2, none⟩)), .rnum X.den, .is (.pointer (some ⟨b3, 2, none⟩)), .rnum Y.den, .rnum (X.den * Y.den), .rint ((X.den * Y.den : Nat) : Int), .that (rfracS (X + Y)), .any] [none, none, some (18, .that (rfracS (X + Y)))] [] [] J ?_ ?_
  · refine .pl rfl (fun _ _ W Γ => ev_faP0 (Γ.s rfl)) ?_
    refine .pl rfl (fun _ _ W Γ => ev_ldP0 (Γ.k 0 rfl) (Γ.l 0 rfl)) ?_
    refine .pl rfl (fun _ _ W Γ => ev_ldP (Γ.s rfl) (Γ.l 1 rfl)) ?_
    refine .pl rfl (fun _ _ W Γ => ev_call1 (Γ.f _) run_rQDen (rQDen_val W _ Y (Γ.w (d := 7) 2 rfl))) ?_
    refine .pl rfl (fun _ _ W Γ => ev_call2 (Γ.f _) run_rIMul (rIMul_want W _ _ (X.num) (((Y.den : Nat) : Int)) SX.out.1 SY.out.2.1 (Γ.w (d := 6) 1 rfl) (Γ.w (d := 8) 3 rfl))) ?_
    refine .pl rfl (fun _ _ W Γ => ev_faP0 (Γ.s rfl)) ?_
    refine .pl rfl (fun _ _ W Γ => ev_ldP0 (Γ.k 5 rfl) (Γ.l 1 rfl)) ?_
    refine .pl rfl (fun _ _ W Γ => ev_ldP (Γ.s rfl) (Γ.l 0 rfl)) ?_
    refine .pl rfl (fun _ _ W Γ => ev_call1 (Γ.f _) run_rQDen (rQDen_val W _ X (Γ.w (d := 12) 7 rfl))) ?_
    refine .pl rfl (fun _ _ W Γ => ev_call2 (Γ.f _) run_rIMul (rIMul_want W _ _ (Y.num) (((X.den : Nat) : Int)) SY.out.1 SX.out.2.1 (Γ.w (d := 11) 6 rfl) (Γ.w (d := 13) 8 rfl))) ?_
    refine .pl rfl (fun _ _ W Γ => ev_call2 (Γ.f _) run_rIAdd (rIAdd_want W _ _ (X.num * ((Y.den : Nat) : Int)) (Y.num * ((X.den : Nat) : Int)) SA.out.1 SA.out.2 (Γ.w (d := 9) 4 rfl) (Γ.w (d := 14) 9 rfl))) ?_
    refine .pl rfl (fun _ _ W Γ => ev_faP1 (Γ.s rfl)) ?_
    refine .pl rfl (fun _ _ W Γ => ev_ldP2 (Γ.k 11 rfl) (Γ.l 0 rfl)) ?_
    refine .pl rfl (fun _ _ W Γ => ev_faP1 (Γ.s rfl)) ?_
    refine .pl rfl (fun _ _ W Γ => ev_ldP2 (Γ.k 13 rfl) (Γ.l 1 rfl)) ?_
    refine .pl rfl (fun _ _ W Γ => ev_call2 (Γ.f _) run_rMul (rMul_gives W _ _ (X.den) (Y.den) SX.out.2.2 SY.out.2.2 (Γ.w (d := 17) 12 rfl) (Γ.w (d := 19) 14 rfl))) ?_
    refine .pl rfl (fun _ _ W Γ => ev_call2 (Γ.f _) run_rI (by rw [Γ.c]; exact rI_gives W _ _ (X.den * Y.den) _ rfl (Γ.w (d := 20) 15 rfl))) ?_
    refine .pl rfl (fun _ _ W Γ => ev_call2 (Γ.f _) run_rQMake (rQMake_val W _ _ (X.num * ((Y.den : Nat) : Int) + Y.num * ((X.den : Nat) : Int)) (((X.den * Y.den : Nat) : Int)) (X + Y) HM.out HD0.out HS.out.1 HS.out.2 (Γ.w (d := 15) 10 rfl) (Γ.w (d := 21) 16 rfl))) ?_
    refine .st 2 rfl rfl rfl (fun _ _ W Γ => ev_stP (Γ.s rfl) (Γ.u 2 rfl rfl) (Γ.w 17 rfl)) ?_
    exact .nil
  clear J; intro K5 hK5; simp only [fx]; intro _ f5 W5 J; refine hK5.out _ _ ?_; clear hK5
  refine wp_ret ?_
  obtain ⟨u0, hx0, hm0⟩ := J.out.get 2 rfl
  obtain ⟨gr0, pr0, lr0, cr0, qr0, kr0, dr0, rfl, c0_0, c0_1, c0_2⟩ := hx0.rfrac
  exact bodyPost_ret (v := .agg #[.bool gr0, .slice pr0 lr0 cr0, .slice qr0 kr0 dr0]) (by simp [results, Tryz.results12, go_sem, c0_0, c0_1, c0_2]) rfl ⟨_, rfl, hm0, J.out.be⟩
set_option maxRecDepth 100000 in
set_option maxHeartbeats 4000000 in
theorem rQMul_val (w : World) (u1 u2 : Value) (X Y : Rat) (hx : QB X 600) (hy : QB Y 600) (h1 : Means w (.that (rfracS X)) u1) (h2 : Means w (.that (rfracS Y)) u2) :
    Calls Tryz.prog 16 #[u1, u2] w (Gives w (.that (rfracS (X * Y)))) := by
  obtain ⟨g1, p1, l1, c1, q1, k1, d1, rfl, h1⟩ := h1
  obtain ⟨g2, p2, l2, c2, q2, k2, d2, rfl, h2⟩ := h2
  have H1 := Lib.hid h1; clear h1
  have H2 := Lib.hid h2; clear h2
  have SX := Lib.hid (qbRs hx); have SY := Lib.hid (qbRs hy)
  have HM : Hid (MadeOf (X.num * Y.num) ((X.den * Y.den : Nat) : Int) (X * Y)) := Lib.hid (madeOf_den (Rat.mul_def' X Y) (den_mul_pos X Y))
  have HD0 : Hid (((X.den * Y.den : Nat) : Int) ≠ 0) := Lib.hid (by have := den_mul_pos X Y; omega)
  have HS := Lib.hid (And.intro (Nat.le_trans (qbRp hx hy).2.2.1 (show 60 ≤ 400 by omega)) (Nat.le_trans (qbRp hx hy).2.2.2 (show 60 ≤ 400 by omega)))
  clear hx hy
  go_enter Tryz.func16, Tryz.ntmps16
  have J := Frm.start (w := w) (V := []) fn
  refine wp_seq_h ?_; intro K1 hK1; go_wp2
  obtain ⟨W2, b2, eW2, eb2, sz2, J⟩ := Frm.putP J rfl H1.out
  obtain ⟨W3, b3, eW3, eb3, sz3, J⟩ := Frm.putP J sz2 H2.out
  obtain ⟨W4, b4, eW4, eb4, sz4, J⟩ := Frm.putP0 J sz3
  rw [← eW2, ← eW3, ← eW4, ← eb4, ← eb3, ← eb2]
  clear eW2 eb2 sz2 eW3 eb3 sz3 eW4 eb4 sz4
  refine hK1.out _ _ ?_; clear hK1
  refine region_c [6, 7, 8, 9, 10, 11, 12, 13, 14, 15, 16, 17, 0] [.is (.pointer (some ⟨b2, 0, none⟩)), .rint X.num, .is (.pointer (some ⟨b3, 0, none⟩)), .rint Y.num, .rint (X.num * Y.num), .is (.pointer (some ⟨b2, 2, none⟩)), .rnum X.den, .is (.pointer (some ⟨b3, 2, none⟩)), .rnum Y.den, .rnum (X.den * Y.den), .rint ((X.den * Y.den : Nat) : Int), .that (rfracS (X * Y)), .any] [none, none, some (12, .that (rfracS (X * Y)))] [] [] J ?_ ?_
  · refine .pl rfl (fun _ _ W Γ => ev_faP0 (Γ.s rfl)) ?_
    refine .pl rfl (fun _ _ W Γ => ev_ldP0 (Γ.k 0 rfl) (Γ.l 0 rfl)) ?_
    refine .pl rfl (fun _ _ W Γ => ev_faP0 (Γ.s rfl)) ?_
    refine .pl rfl (fun _ _ W Γ => ev_ldP0 (Γ.k 2 rfl) (Γ.l 1 rfl)) ?_
    refine .pl rfl (fun _ _ W Γ => ev_call2 (Γ.f _) run_rIMul (rIMul_want W _ _ (X.num) (Y.num) SX.out.1 SY.out.1 (Γ.w (d := 6) 1 rfl) (Γ.w (d := 8) 3 rfl))) ?_
    refine .pl rfl (fun _ _ W Γ => ev_faP1 (Γ.s rfl)) ?_
    refine .pl rfl (fun _ _ W Γ => ev_ldP2 (Γ.k 5 rfl) (Γ.l 0 rfl)) ?_
    refine .pl rfl (fun _ _ W Γ => ev_faP1 (Γ.s rfl)) ?_
    refine .pl rfl (fun _ _ W Γ => ev_ldP2 (Γ.k 7 rfl) (Γ.l 1 rfl)) ?_
    refine .pl rfl (fun _ _ W Γ => ev_call2 (Γ.f _) run_rMul (rMul_gives W _ _ (X.den) (Y.den) SX.out.2.2 SY.out.2.2 (Γ.w (d := 11) 6 rfl) (Γ.w (d := 13) 8 rfl))) ?_
    refine .pl rfl (fun _ _ W Γ => ev_call2 (Γ.f _) run_rI (by rw [Γ.c]; exact rI_gives W _ _ (X.den * Y.den) _ rfl (Γ.w (d := 14) 9 rfl))) ?_
    refine .pl rfl (fun _ _ W Γ => ev_call2 (Γ.f _) run_rQMake (rQMake_val W _ _ (X.num * Y.num) (((X.den * Y.den : Nat) : Int)) (X * Y) HM.out HD0.out HS.out.1 HS.out.2 (Γ.w (d := 9) 4 rfl) (Γ.w (d := 15) 10 rfl))) ?_
    refine .st 2 rfl rfl rfl (fun _ _ W Γ => ev_stP (Γ.s rfl) (Γ.u 2 rfl rfl) (Γ.w 11 rfl)) ?_
    exact .nil
  clear J; intro K5 hK5; simp only [fx]; intro _ f5 W5 J; refine hK5.out _ _ ?_; clear hK5
  refine wp_ret ?_
  obtain ⟨u0, hx0, hm0⟩ := J.out.get 2 rfl
  obtain ⟨gr0, pr0, lr0, cr0, qr0, kr0, dr0, rfl, c0_0, c0_1, c0_2⟩ := hx0.rfrac
  exact bodyPost_ret (v := .agg #[.bool gr0, .slice pr0 lr0 cr0, .slice qr0 kr0 dr0]) (by simp [results, Tryz.results16, go_sem, c0_0, c0_1, c0_2]) rfl ⟨_, rfl, hm0, J.out.be⟩
set_option maxRecDepth 100000 in
set_option maxHeartbeats 4000000 in
theorem rQDiv_val (w : World) (u1 u2 : Value) (X Y : Rat) (hx : QB X 600) (hy : QB Y 600) (h0 : Y.num ≠ 0) (h1 : Means w (.that (rfracS X)) u1) (h2 : Means w (.that (rfracS Y)) u2) :
    Calls Tryz.prog 25 #[u1, u2] w (Gives w (.that (rfracS (X / Y)))) := by
  obtain ⟨g1, p1, l1, c1, q1, k1, d1, rfl, h1⟩ := h1
  obtain ⟨g2, p2, l2, c2, q2, k2, d2, rfl, h2⟩ := h2
  have H1 := Lib.hid h1; clear h1
  have H2 := Lib.hid h2; clear h2
  have SX := Lib.hid (qbRs hx); have SY := Lib.hid (qbRs hy)
  have HM := Lib.hid (div_made X Y)
  have HD0 : Hid (((X.den : Nat) : Int) * Y.num ≠ 0) := Lib.hid (Int.mul_ne_zero (by have := X.den_pos; omega) h0)
  have HS := Lib.hid (And.intro (Nat.le_trans (qbRp hx hy).1 (show 60 ≤ 400 by omega)) (Nat.le_trans (qbRp hx hy).2.1 (show 60 ≤ 400 by omega)))
  clear hx hy h0
  go_enter Tryz.func25, Tryz.ntmps25
  have J := Frm.start (w := w) (V := []) fn
  refine wp_seq_h ?_; intro K1 hK1; go_wp2
  obtain ⟨W2, b2, eW2, eb2, sz2, J⟩ := Frm.putP J rfl H1.out
  obtain ⟨W3, b3, eW3, eb3, sz3, J⟩ := Frm.putP J sz2 H2.out
  obtain ⟨W4, b4, eW4, eb4, sz4, J⟩ := Frm.putP0 J sz3
  rw [← eW2, ← eW3, ← eW4, ← eb4, ← eb3, ← eb2]
  clear eW2 eb2 sz2 eW3 eb3 sz3 eW4 eb4 sz4
  refine hK1.out _ _ ?_; clear hK1
  refine region_c [6, 7, 8, 9, 10, 11, 12, 13, 14, 15, 16, 0] [.is (.pointer (some ⟨b2, 0, none⟩)), .rint X.num, .that (rfracS Y), .rint ((Y.den : Nat) : Int), .rint (X.num * ((Y.den : Nat) : Int)), .that (rfracS X), .rint ((X.den : Nat) : Int), .is (.pointer (some ⟨b3, 0, none⟩)), .rint Y.num, .rint (((X.den : Nat) : Int) * Y.num), .that (rfracS (X / Y)), .any] [none, none, some (11, .that (rfracS (X / Y)))] [] [] J ?_ ?_
  · refine .pl rfl (fun _ _ W Γ => ev_faP0 (Γ.s rfl)) ?_
    refine .pl rfl (fun _ _ W Γ => ev_ldP0 (Γ.k 0 rfl) (Γ.l 0 rfl)) ?_
    refine .pl rfl (fun _ _ W Γ => ev_ldP (Γ.s rfl) (Γ.l 1 rfl)) ?_
    refine .pl rfl (fun _ _ W Γ => ev_call1 (Γ.f _) run_rQDen (rQDen_val W _ Y (Γ.w (d := 7) 2 rfl))) ?_
    refine .pl rfl (fun _ _ W Γ => ev_call2 (Γ.f _) run_rIMul (rIMul_want W _ _ (X.num) (((Y.den : Nat) : Int)) SX.out.1 SY.out.2.1 (Γ.w (d := 6) 1 rfl) (Γ.w (d := 8) 3 rfl))) ?_
    refine .pl rfl (fun _ _ W Γ => ev_ldP (Γ.s rfl) (Γ.l 0 rfl)) ?_
    refine .pl rfl (fun _ _ W Γ => ev_call1 (Γ.f _) run_rQDen (rQDen_val W _ X (Γ.w (d := 10) 5 rfl))) ?_
    refine .pl rfl (fun _ _ W Γ => ev_faP0 (Γ.s rfl)) ?_
    refine .pl rfl (fun _ _ W Γ => ev_ldP0 (Γ.k 7 rfl) (Γ.l 1 rfl)) ?_
    refine .pl rfl (fun _ _ W Γ => ev_call2 (Γ.f _) run_rIMul (rIMul_want W _ _ (((X.den : Nat) : Int)) (Y.num) SX.out.2.1 SY.out.1 (Γ.w (d := 11) 6 rfl) (Γ.w (d := 13) 8 rfl))) ?_
    refine .pl rfl (fun _ _ W Γ => ev_call2 (Γ.f _) run_rQMake (rQMake_val W _ _ (X.num * ((Y.den : Nat) : Int)) (((X.den : Nat) : Int) * Y.num) (X / Y) HM.out HD0.out HS.out.1 HS.out.2 (Γ.w (d := 9) 4 rfl) (Γ.w (d := 14) 9 rfl))) ?_
    refine .st 2 rfl rfl rfl (fun _ _ W Γ => ev_stP (Γ.s rfl) (Γ.u 2 rfl rfl) (Γ.w 10 rfl)) ?_
    exact .nil
  clear J; intro K5 hK5; simp only [fx]; intro _ f5 W5 J; refine hK5.out _ _ ?_; clear hK5
  refine wp_ret ?_
  obtain ⟨u0, hx0, hm0⟩ := J.out.get 2 rfl
  obtain ⟨gr0, pr0, lr0, cr0, qr0, kr0, dr0, rfl, c0_0, c0_1, c0_2⟩ := hx0.rfrac
  exact bodyPost_ret (v := .agg #[.bool gr0, .slice pr0 lr0 cr0, .slice qr0 kr0 dr0]) (by simp [results, Tryz.results25, go_sem, c0_0, c0_1, c0_2]) rfl ⟨_, rfl, hm0, J.out.be⟩
set_option maxRecDepth 100000 in
set_option maxHeartbeats 4000000 in
theorem rQCmp_val (w : World) (u1 u2 : Value) (X Y : Rat) (hx : QB X 600) (hy : QB Y 600) (h1 : Means w (.that (rfracS X)) u1) (h2 : Means w (.that (rfracS Y)) u2) :
    Calls Tryz.prog 18 #[u1, u2] w (Gives w (.is (.int .i64 (qcmp X Y)))) := by
  obtain ⟨g1, p1, l1, c1, q1, k1, d1, rfl, h1⟩ := h1
  obtain ⟨g2, p2, l2, c2, q2, k2, d2, rfl, h2⟩ := h2
  have H1 := Lib.hid h1; clear h1
  have H2 := Lib.hid h2; clear h2
  have SX := Lib.hid (qbRs hx); have SY := Lib.hid (qbRs hy)
  have SA := Lib.hid (And.intro (qbRp hx hy).1 (qbRp hy hx).1)
  clear hx hy
  go_enter Tryz.func18, Tryz.ntmps18
  have J := Frm.start (w := w) (V := []) fn
  refine wp_seq_h ?_; intro K1 hK1; go_wp2
  obtain ⟨W2, b2, eW2, eb2, sz2, J⟩ := Frm.putP J rfl H1.out
  obtain ⟨W3, b3, eW3, eb3, sz3, J⟩ := Frm.putP J sz2 H2.out
  rw [← eW2, ← eW3, ← eb3, ← eb2]
  clear eW2 eb2 sz2 eW3 eb3 sz3
  refine hK1.out _ _ ?_; clear hK1
  refine region_c [6, 7, 8, 9, 10, 11, 12, 13, 14, 15, 16, 5] [.is (.pointer (some ⟨b2, 0, none⟩)), .rint X.num, .that (rfracS Y), .rint ((Y.den : Nat) : Int), .rint (X.num * ((Y.den : Nat) : Int)), .is (.pointer (some ⟨b3, 0, none⟩)), .rint Y.num, .that (rfracS X), .rint ((X.den : Nat) : Int), .rint (Y.num * ((X.den : Nat) : Int)), .is (.int .i64 (qcmp X Y)), .is (.int .i64 (qcmp X Y))] [] [] [] J ?_ ?_
  · refine .pl rfl (fun _ _ W Γ => ev_faP0 (Γ.s rfl)) ?_
    refine .pl rfl (fun _ _ W Γ => ev_ldP0 (Γ.k 0 rfl) (Γ.l 0 rfl)) ?_
    refine .pl rfl (fun _ _ W Γ => ev_ldP (Γ.s rfl) (Γ.l 1 rfl)) ?_
    refine .pl rfl (fun _ _ W Γ => ev_call1 (Γ.f _) run_rQDen (rQDen_val W _ Y (Γ.w (d := 7) 2 rfl))) ?_
    refine .pl rfl (fun _ _ W Γ => ev_call2 (Γ.f _) run_rIMul (rIMul_want W _ _ (X.num) (((Y.den : Nat) : Int)) SX.out.1 SY.out.2.1 (Γ.w (d := 6) 1 rfl) (Γ.w (d := 8) 3 rfl))) ?_
    refine .pl rfl (fun _ _ W Γ => ev_faP0 (Γ.s rfl)) ?_
    refine .pl rfl (fun _ _ W Γ => ev_ldP0 (Γ.k 5 rfl) (Γ.l 1 rfl)) ?_
    refine .pl rfl (fun _ _ W Γ => ev_ldP (Γ.s rfl) (Γ.l 0 rfl)) ?_
    refine .pl rfl (fun _ _ W Γ => ev_call1 (Γ.f _) run_rQDen (rQDen_val W _ X (Γ.w (d := 12) 7 rfl))) ?_
    refine .pl rfl (fun _ _ W Γ => ev_call2 (Γ.f _) run_rIMul (rIMul_want W _ _ (Y.num) (((X.den : Nat) : Int)) SY.out.1 SX.out.2.1 (Γ.w (d := 11) 6 rfl) (Γ.w (d := 13) 8 rfl))) ?_
    refine .pl rfl (fun _ _ W Γ => ev_call2 (Γ.f _) run_rICmp (show Calls Tryz.prog 68 #[_, _] W (Gives W (.is (.int .i64 (qcmp X Y)))) from rICmp_want W _ _ (X.num * ((Y.den : Nat) : Int)) (Y.num * ((X.den : Nat) : Int)) SA.out.1 SA.out.2 (Γ.w (d := 9) 4 rfl) (Γ.w (d := 14) 9 rfl))) ?_
    refine .pl rfl (fun _ _ W Γ => ev_assign _ (Γ.k 10 rfl)) ?_
    exact .nil
  clear J; intro K4 hK4; simp only [fx]; intro _ f4 W4 J; refine hK4.out _ _ ?_; clear hK4
  refine wp_ret ?_
  exact bodyPost_ret (v := .int .i64 (qcmp X Y)) (by simp [results, Tryz.results18, go_sem]) rfl ⟨_, rfl, rfl, J.out.be⟩
set_option maxRecDepth 100000 in
set_option maxHeartbeats 4000000 in
theorem rQSign_val (w : World) (u1 : Value) (X : Rat) (h1 : Means w (.that (rfracS X)) u1) :
    Calls Tryz.prog 20 #[u1] w (Gives w (.is (.int .i64 (cmp3 X.num 0)))) := by
  obtain ⟨g1, p1, l1, c1, q1, k1, d1, rfl, h1⟩ := h1
  have H1 := Lib.hid h1; clear h1
  go_enter Tryz.func20, Tryz.ntmps20
  have J := Frm.start (w := w) (V := []) fn
  refine wp_seq_h ?_; intro K1 hK1; go_wp2
  obtain ⟨W2, b2, eW2, eb2, sz2, J⟩ := Frm.putP J rfl H1.out
  rw [← eW2, ← eb2]
  clear eW2 eb2 sz2
  refine hK1.out _ _ ?_; clear hK1
  refine region_c [4, 5, 6, 3] [.is (.pointer (some ⟨b2, 0, none⟩)), .rint X.num, .is (.int .i64 (cmp3 X.num 0)), .is (.int .i64 (cmp3 X.num 0))] [] [] [] J ?_ ?_
  · refine .pl rfl (fun _ _ W Γ => ev_faP0 (Γ.s rfl)) ?_
    refine .pl rfl (fun _ _ W Γ => ev_ldP0 (Γ.k 0 rfl) (Γ.l 0 rfl)) ?_
    refine .pl rfl (fun _ _ W Γ => ev_call1 (Γ.f _) run_rISign (rISign_want W _ X.num (Γ.w (d := 4) 1 rfl))) ?_
    refine .pl rfl (fun _ _ W Γ => ev_assign _ (Γ.k 2 rfl)) ?_
    exact .nil
  clear J; intro K3 hK3; simp only [fx]; intro _ f3 W3 J; refine hK3.out _ _ ?_; clear hK3
  refine wp_ret ?_
  exact bodyPost_ret (v := .int .i64 (cmp3 X.num 0)) (by simp [results, Tryz.results20, go_sem]) rfl ⟨_, rfl, rfl, J.out.be⟩
set_option maxRecDepth 100000 in
set_option maxHeartbeats 4000000 in
theorem rQNeg_val (w : World) (u1 : Value) (X : Rat) (h1 : Means w (.that (rfracS X)) u1) :
    Calls Tryz.prog 22 #[u1] w (Gives w (.that (rfracS (-X)))) := by
  obtain ⟨g1, p1, l1, c1, q1, k1, d1, rfl, h1⟩ := h1
  have H1 := Lib.hid h1; clear h1
  go_enter Tryz.func22, Tryz.ntmps22
  have J := Frm.start (w := w) (V := []) fn
  refine wp_seq_h ?_; intro K1 hK1; go_wp2
  obtain ⟨W2, b2, eW2, eb2, sz2, J⟩ := Frm.putP J rfl H1.out
  obtain ⟨W3, b3, eW3, eb3, sz3, J⟩ := Frm.putP0 J sz2
  rw [← eW2, ← eW3, ← eb3, ← eb2]
  clear eW2 eb2 sz2 eW3 eb3 sz3
  refine hK1.out _ _ ?_; clear hK1
  refine region_c [4, 5, 6, 7, 8, 9, 0] [.is (.pointer (some ⟨b2, 0, none⟩)), .rint X.num, .rint (-X.num), .is (.pointer (some ⟨b2, 2, none⟩)), .rnum X.den, .that (rfracS (-X)), .any] [none, some (6, .that (rfracS (-X)))] [] [] J ?_ ?_
  · refine .pl rfl (fun _ _ W Γ => ev_faP0 (Γ.s rfl)) ?_
    refine .pl rfl (fun _ _ W Γ => ev_ldP0 (Γ.k 0 rfl) (Γ.l 0 rfl)) ?_
    refine .pl rfl (fun _ _ W Γ => ev_call1 (Γ.f _) run_rINeg (rINeg_want W _ X.num (Γ.w (d := 4) 1 rfl))) ?_
    refine .pl rfl (fun _ _ W Γ => ev_faP1 (Γ.s rfl)) ?_
    refine .pl rfl (fun _ _ W Γ => ev_ldP2 (Γ.k 3 rfl) (Γ.l 0 rfl)) ?_
    refine .pl rfl (fun _ _ W Γ => ev_mkP (Γ.w 2 rfl) (Γ.w 4 rfl) rfl rfl) ?_
    refine .st 1 rfl rfl rfl (fun _ _ W Γ => ev_stP (Γ.s rfl) (Γ.u 1 rfl rfl) (Γ.w 5 rfl)) ?_
    exact .nil
  clear J; intro K4 hK4; simp only [fx]; intro _ f4 W4 J; refine hK4.out _ _ ?_; clear hK4
  refine wp_ret ?_
  obtain ⟨u0, hx0, hm0⟩ := J.out.get 1 rfl
  obtain ⟨gr0, pr0, lr0, cr0, qr0, kr0, dr0, rfl, c0_0, c0_1, c0_2⟩ := hx0.rfrac
  exact bodyPost_ret (v := .agg #[.bool gr0, .slice pr0 lr0 cr0, .slice qr0 kr0 dr0]) (by simp [results, Tryz.results22, go_sem, c0_0, c0_1, c0_2]) rfl ⟨_, rfl, hm0, J.out.be⟩
set_option maxRecDepth 100000 in
set_option maxHeartbeats 4000000 in
theorem rQAbs_val (w : World) (u1 : Value) (X : Rat) (h1 : Means w (.that (rfracS X)) u1) :
    Calls Tryz.prog 24 #[u1] w (Gives w (.that (rfracS (qabs X)))) := by
  obtain ⟨g1, p1, l1, c1, q1, k1, d1, rfl, h1⟩ := h1
  have H1 := Lib.hid h1; clear h1
  go_enter Tryz.func24, Tryz.ntmps24
  have J := Frm.start (w := w) (V := []) fn
  refine wp_seq_h ?_; intro K1 hK1; go_wp2
  obtain ⟨W2, b2, eW2, eb2, sz2, J⟩ := Frm.putP J rfl H1.out
  obtain ⟨W3, b3, eW3, eb3, sz3, J⟩ := Frm.putP0 J sz2
  rw [← eW2, ← eW3, ← eb3, ← eb2]
  clear eW2 eb2 sz2 eW3 eb3 sz3
  refine hK1.out _ _ ?_; clear hK1
  refine region_c [4, 5, 6, 7, 8, 9, 10, 0] [.is (.pointer (some ⟨b2, 0, none⟩)), .is (.pointer (some ⟨b2, 1, none⟩)), .rnum X.num.natAbs, .rint ((X.num.natAbs : Nat) : Int), .is (.pointer (some ⟨b2, 2, none⟩)), .rnum X.den, .that (rfracS (qabs X)), .any] [none, some (7, .that (rfracS (qabs X)))] [] [] J ?_ ?_
  · refine .pl rfl (fun _ _ W Γ => ev_faP0 (Γ.s rfl)) ?_
    refine .pl rfl (fun _ _ W Γ => ev_faR1 (Γ.k 0 rfl)) ?_
    refine .pl rfl (fun _ _ W Γ => ev_ldP1 (Γ.k 1 rfl) (Γ.l 0 rfl)) ?_
    refine .pl rfl (fun _ _ W Γ => ev_call2 (Γ.f _) run_rI (by rw [Γ.c]; exact rI_gives W _ _ (X.num.natAbs) _ rfl (Γ.w (d := 5) 2 rfl))) ?_
    refine .pl rfl (fun _ _ W Γ => ev_faP1 (Γ.s rfl)) ?_
    refine .pl rfl (fun _ _ W Γ => ev_ldP2 (Γ.k 4 rfl) (Γ.l 0 rfl)) ?_
    refine .pl rfl (fun _ _ W Γ => ev_mkP (Γ.w 3 rfl) (Γ.w 5 rfl) (qabs_num X) (qabs_den X)) ?_
    refine .st 1 rfl rfl rfl (fun _ _ W Γ => ev_stP (Γ.s rfl) (Γ.u 1 rfl rfl) (Γ.w 6 rfl)) ?_
    exact .nil
  clear J; intro K4 hK4; simp only [fx]; intro _ f4 W4 J; refine hK4.out _ _ ?_; clear hK4
  refine wp_ret ?_
  obtain ⟨u0, hx0, hm0⟩ := J.out.get 1 rfl
  obtain ⟨gr0, pr0, lr0, cr0, qr0, kr0, dr0, rfl, c0_0, c0_1, c0_2⟩ := hx0.rfrac
  exact bodyPost_ret (v := .agg #[.bool gr0, .slice pr0 lr0 cr0, .slice qr0 kr0 dr0]) (by simp [results, Tryz.results24, go_sem, c0_0, c0_1, c0_2]) rfl ⟨_, rfl, hm0, J.out.be⟩
theorem QB.neg' {X : Rat} {k : Nat} (h : QB X k) : QB (-X) k := ⟨by rw [Rat.neg_num, Int.natAbs_neg]; exact h.1, h.2⟩
set_option maxRecDepth 100000 in
set_option maxHeartbeats 4000000 in
theorem rQSub_val (w : World) (u1 u2 : Value) (X Y : Rat) (hx : QB X 600) (hy : QB Y 600) (h1 : Means w (.that (rfracS X)) u1) (h2 : Means w (.that (rfracS Y)) u2) :
    Calls Tryz.prog 14 #[u1, u2] w (Gives w (.that (rfracS (X - Y)))) := by
  obtain ⟨g1, p1, l1, c1, q1, k1, d1, rfl, h1⟩ := h1
  obtain ⟨g2, p2, l2, c2, q2, k2, d2, rfl, h2⟩ := h2
  have H1 := Lib.hid h1; clear h1
  have H2 := Lib.hid h2; clear h2
  have SB := Lib.hid (And.intro hx hy.neg')
  clear hx hy
  go_enter Tryz.func14, Tryz.ntmps14
  have J := Frm.start (w := w) (V := []) fn
  refine wp_seq_h ?_; intro K1 hK1; go_wp2
  obtain ⟨W2, b2, eW2, eb2, sz2, J⟩ := Frm.putP J rfl H1.out
  obtain ⟨W3, b3, eW3, eb3, sz3, J⟩ := Frm.putP J sz2 H2.out
  obtain ⟨W4, b4, eW4, eb4, sz4, J⟩ := Frm.putP0 J sz3
  rw [← eW2, ← eW3, ← eW4, ← eb4, ← eb3, ← eb2]
  clear eW2 eb2 sz2 eW3 eb3 sz3 eW4 eb4 sz4
  refine hK1.out _ _ ?_; clear hK1
  refine region_c [6, 7, 8, 9, 0] [.that (rfracS X), .that (rfracS Y), .that (rfracS (-Y)), .that (rfracS (X - Y)), .any] [none, none, some (4, .that (rfracS (X - Y)))] [] [] J ?_ ?_
  · refine .pl rfl (fun _ _ W Γ => ev_ldP (Γ.s rfl) (Γ.l 0 rfl)) ?_
    refine .pl rfl (fun _ _ W Γ => ev_ldP (Γ.s rfl) (Γ.l 1 rfl)) ?_
    refine .pl rfl (fun _ _ W Γ => ev_call1 (Γ.f _) run_rQNeg (rQNeg_val W _ Y (Γ.w (d := 6) 1 rfl))) ?_
    refine .pl rfl (fun _ _ W Γ => ev_call2 (Γ.f _) run_rQAdd (show Calls Tryz.prog 12 #[_, _] W (Gives W (.that (rfracS (X - Y)))) from by have := rQAdd_val W _ _ X (-Y) SB.out.1 SB.out.2 (Γ.w (d := 5) 0 rfl) (Γ.w (d := 7) 2 rfl); rwa [← Rat.sub_eq_add_neg] at this)) ?_
    refine .st 2 rfl rfl rfl (fun _ _ W Γ => ev_stP (Γ.s rfl) (Γ.u 2 rfl rfl) (Γ.w 3 rfl)) ?_
    exact .nil
  clear J; intro K5 hK5; simp only [fx]; intro _ f5 W5 J; refine hK5.out _ _ ?_; clear hK5
  refine wp_ret ?_
  obtain ⟨u0, hx0, hm0⟩ := J.out.get 2 rfl
  obtain ⟨gr0, pr0, lr0, cr0, qr0, kr0, dr0, rfl, c0_0, c0_1, c0_2⟩ := hx0.rfrac
  exact bodyPost_ret (v := .agg #[.bool gr0, .slice pr0 lr0 cr0, .slice qr0 kr0 dr0]) (by simp [results, Tryz.results14, go_sem, c0_0, c0_1, c0_2]) rfl ⟨_, rfl, hm0, J.out.be⟩
set_option maxRecDepth 100000 in
set_option maxHeartbeats 4000000 in
theorem hOut_val (w : World) (u1 : Value) (X : Rat) (hx : (ds X.num.natAbs).length ≤ 400 ∧ (ds X.den).length ≤ 400) (h1 : Means w (.that (fracS X)) u1) :
    Calls Tryz.prog 50 #[u1] w (Gives w (.that (rfracS X))) := by
  obtain ⟨g1, s1, p1, l1, c1, t1, q1, k1, d1, rfl, h1⟩ := h1
  have H1 := Lib.hid h1; clear h1
  have HS := Lib.hid hx; clear hx
  go_enter Tryz.func50, Tryz.ntmps50
  have J := Frm.start (w := w) (V := []) fn
  refine wp_seq_h ?_; intro K1 hK1; go_wp2
  obtain ⟨W2, b2, eW2, eb2, sz2, J⟩ := Frm.putQ J rfl H1.out
  obtain ⟨W3, b3, eW3, eb3, sz3, J⟩ := Frm.putP0 J sz2
  rw [← eW2, ← eW3, ← eb3, ← eb2]
  clear eW2 eb2 sz2 eW3 eb3 sz3
  refine hK1.out _ _ ?_; clear hK1
  refine region_c [4, 5, 6, 7, 8, 9, 10, 0] [.that (fracS X), .int X.num, .rint X.num, .that (fracS X), .num X.den, .rnum X.den, .that (rfracS X), .any] [none, some (7, .that (rfracS X))] [] [] J ?_ ?_
  · refine .pl rfl (fun _ _ W Γ => ev_ldQ (Γ.s rfl) (Γ.l 0 rfl)) ?_
    refine .pl rfl (fun _ _ W Γ => ev_call1 (Γ.f _) run_qNum (qNum_val W _ X (Γ.w (d := 3) 0 rfl))) ?_
    refine .pl rfl (fun _ _ W Γ => ev_call1 (Γ.f _) run_hOutInt (hOutInt_want W _ X.num HS.out.1 (Γ.w (d := 4) 1 rfl))) ?_
    refine .pl rfl (fun _ _ W Γ => ev_ldQ (Γ.s rfl) (Γ.l 0 rfl)) ?_
    refine .pl rfl (fun _ _ W Γ => ev_call1 (Γ.f _) run_qDen (qDen_val W _ X _ rfl (Γ.w (d := 6) 3 rfl))) ?_
    refine .pl rfl (fun _ _ W Γ => ev_call1 (Γ.f _) run_hOutNat (hOutNat_want W _ X.den HS.out.2 (Γ.w (d := 7) 4 rfl))) ?_
    refine .pl rfl (fun _ _ W Γ => ev_mkP (Γ.w 2 rfl) (Γ.w 5 rfl) rfl rfl) ?_
    refine .st 1 rfl rfl rfl (fun _ _ W Γ => ev_stP (Γ.s rfl) (Γ.u 1 rfl rfl) (Γ.w 6 rfl)) ?_
    exact .nil
  clear J; intro K4 hK4; simp only [fx]; intro _ f4 W4 J; refine hK4.out _ _ ?_; clear hK4
  refine wp_ret ?_
  obtain ⟨u0, hx0, hm0⟩ := J.out.get 1 rfl
  obtain ⟨gr0, pr0, lr0, cr0, qr0, kr0, dr0, rfl, c0_0, c0_1, c0_2⟩ := hx0.rfrac
  exact bodyPost_ret (v := .agg #[.bool gr0, .slice pr0 lr0 cr0, .slice qr0 kr0 dr0]) (by simp [results, Tryz.results50, go_sem, c0_0, c0_1, c0_2]) rfl ⟨_, rfl, hm0, J.out.be⟩
set_option maxRecDepth 100000 in
set_option maxHeartbeats 4000000 in
theorem hSame_val (w : World) (u1 u2 : Value) (X : Rat) (hx : (ds X.num.natAbs).length ≤ 400 ∧ (ds X.den).length ≤ 400) (h1 : Means w (.that (fracS X)) u1) (h2 : Means w (.that (rfracS X)) u2) :
    Calls Tryz.prog 10 #[u1, u2] w (Gives w (.is (.bool true))) := by
  obtain ⟨g1, s1, p1, l1, c1, t1, q1, k1, d1, rfl, h1⟩ := h1
  obtain ⟨g2, p2, l2, c2, q2, k2, d2, rfl, h2⟩ := h2
  have H1 := Lib.hid h1; clear h1
  have H2 := Lib.hid h2; clear h2
  have HS := Lib.hid hx; have HD0 : Hid (X.den ≠ 0) := Lib.hid (by have := X.den_pos; omega); clear hx
  go_enter Tryz.func10, Tryz.ntmps10
  have J := Frm.start (w := w) (V := []) fn
  refine wp_seq_h ?_; intro K1 hK1; go_wp2
  obtain ⟨W2, b2, eW2, eb2, sz2, J⟩ := Frm.putQ J rfl H1.out
  obtain ⟨W3, b3, eW3, eb3, sz3, J⟩ := Frm.putP J sz2 H2.out
  rw [← eW2, ← eW3, ← eb3, ← eb2]
  clear eW2 eb2 sz2 eW3 eb3 sz3
  refine hK1.out _ _ ?_; clear hK1
  refine region_c [7, 8, 6, 0] [.that (fracS X), .that (rfracS X), .any, .any] [] [⟨.rfrac, 2, 3, .that (rfracS X), .agg #[.bool false, .slice none 0 0, .slice none 0 0]⟩] [] J ?_ ?_
  · refine .pl rfl (fun _ _ W Γ => ev_ldQ (Γ.s rfl) (Γ.l 0 rfl)) ?_
    refine .pl rfl (fun _ _ W Γ => ev_call1 (Γ.f _) run_hOut (hOut_val W _ X HS.out (Γ.w (d := 6) 0 rfl))) ?_
    refine .al 0 rfl rfl (fun _ _ => ev_alP) ?_
    refine .sn 0 rfl rfl (fun _ _ W Γ => ev_stP (Γ.q 0 rfl) (Γ.un 0 rfl) (Γ.w 1 rfl)) ?_
    exact .nil
  clear J; intro K4 hK4; simp only [fx]; intro β4 f4 W4 J; refine hK4.out _ _ ?_; clear hK4
  refine wp_seq_h ?_; intro K5 hK5
  refine region_c [9, 10, 11, 12] [.is (.pointer (some ⟨b3, 2, none⟩)), .rnum X.den, .that (lenS X.den), .is (.bool false)] [] [] [] J ?_ ?_
  · refine .pl rfl (fun _ _ W Γ => ev_faP1 (Γ.s rfl)) ?_
    refine .pl rfl (fun _ _ W Γ => ev_ldP2 (Γ.k 0 rfl) (Γ.l 1 rfl)) ?_
    refine .pl rfl (fun _ _ W Γ => ev_len (Γ.w 1 rfl)) ?_
    refine .pl rfl (fun _ _ W Γ => ev_lenEql (Γ.w 2 rfl) (decide_eq_false HD0.out) Γ.c) ?_
    exact .nil
  clear J; intro K6 hK6; simp only [fx]; intro _ f6 W6 J; refine hK6.out _ _ ?_; clear hK6
  refine wp_cond_false rfl ?_
  refine wp_skip ?_
  refine hK5.out _ _ ?_; clear hK5
  refine region_c [14, 15, 16, 17, 18, 19, 20, 21, 22, 23, 24, 25, 26, 27, 28, 29, 30, 31, 32, 33, 34, 35, 36, 37, 38, 5] [.is (.pointer (some ⟨(β4 3), 0, none⟩)), .is (.pointer (some ⟨(β4 3), 1, none⟩)), .rnum X.num.natAbs, .is (.pointer (some ⟨b3, 0, none⟩)), .is (.pointer (some ⟨b3, 1, none⟩)), .rnum X.num.natAbs, .is (.int .i64 0), .is (.bool true), .is (.bool true), .is (.pointer (some ⟨(β4 3), 0, none⟩)), .is (.pointer (some ⟨(β4 3), 0, none⟩)), .is (.bool (decide (X.num < 0))), .is (.pointer (some ⟨b3, 0, none⟩)), .is (.pointer (some ⟨b3, 0, none⟩)), .is (.bool (decide (X.num < 0))), .is (.bool true), .is (.bool true), .is (.bool true), .is (.pointer (some ⟨(β4 3), 2, none⟩)), .rnum X.den, .is (.pointer (some ⟨b3, 2, none⟩)), .rnum X.den, .is (.int .i64 0), .is (.bool true), .is (.bool true), .is (.bool true)] [] [] [] J ?_ ?_
  · refine .pl rfl (fun _ _ W Γ => ev_faP0 (Γ.s rfl)) ?_
    refine .pl rfl (fun _ _ W Γ => ev_faR1 (Γ.k 0 rfl)) ?_
    refine .pl rfl (fun _ _ W Γ => ev_ldP1 (Γ.k 1 rfl) (Γ.l 2 rfl)) ?_
    refine .pl rfl (fun _ _ W Γ => ev_faP0 (Γ.s rfl)) ?_
    refine .pl rfl (fun _ _ W Γ => ev_faR1 (Γ.k 3 rfl)) ?_
    refine .pl rfl (fun _ _ W Γ => ev_ldP1 (Γ.k 4 rfl) (Γ.l 1 rfl)) ?_
    refine .pl rfl (fun _ _ W Γ => ev_call2 (Γ.f _) run_rCmp (rCmp_gives W _ _ (X.num.natAbs) (X.num.natAbs) 0 (cmp3_eq _) (by have := HS.out; omega) (Γ.w (d := 15) 2 rfl) (Γ.w (d := 18) 5 rfl))) ?_
    refine .pl rfl (fun _ E W Γ => by
      have e1 : E (.tmp 19) = .int .i64 0 := (Γ.k 6 rfl)
      have hc := Γ.c
      exact Does.value (w' := W) (by go_simp <;> first | rfl | (rw [IntKind.wrap_i64]; omega)) ⟨rfl, Below.refl _ _⟩) ?_
    refine .pl rfl (fun _ _ W Γ => ev_move _ (Γ.k 7 rfl)) ?_
    refine .gu rfl rfl rfl rfl (fun _ _ W Γ => ev_faP0 (Γ.s rfl)) ?_
    refine .gu rfl rfl rfl rfl (fun _ _ W Γ => ev_faR0 (Γ.k 9 rfl)) ?_
    refine .gu rfl rfl rfl rfl (fun _ _ W Γ => ev_ldPb (Γ.k 10 rfl) (Γ.l 2 rfl)) ?_
    refine .gu rfl rfl rfl rfl (fun _ _ W Γ => ev_faP0 (Γ.s rfl)) ?_
    refine .gu rfl rfl rfl rfl (fun _ _ W Γ => ev_faR0 (Γ.k 12 rfl)) ?_
    refine .gu rfl rfl rfl rfl (fun _ _ W Γ => ev_ldPb (Γ.k 13 rfl) (Γ.l 1 rfl)) ?_
    refine .gu rfl rfl rfl rfl (fun _ _ W Γ => ev_eqlB (Γ.k 11 rfl) (Γ.k 14 rfl) (beq_self_eq_true _)) ?_
    refine .pl rfl (fun _ _ W Γ => ev_pick (Γ.k 8 rfl) (Γ.k 15 rfl)) ?_
    refine .pl rfl (fun _ _ W Γ => ev_move _ (Γ.k 16 rfl)) ?_
    refine .gu rfl rfl rfl rfl (fun _ _ W Γ => ev_faP1 (Γ.s rfl)) ?_
    refine .gu rfl rfl rfl rfl (fun _ _ W Γ => ev_ldP2 (Γ.k 18 rfl) (Γ.l 2 rfl)) ?_
    refine .gu rfl rfl rfl rfl (fun _ _ W Γ => ev_faP1 (Γ.s rfl)) ?_
    refine .gu rfl rfl rfl rfl (fun _ _ W Γ => ev_ldP2 (Γ.k 20 rfl) (Γ.l 1 rfl)) ?_
    refine .gu rfl rfl rfl rfl (fun _ _ W Γ => ev_call2 (Γ.f _) run_rCmp (rCmp_gives W _ _ (X.den) (X.den) 0 (cmp3_eq _) (by have := HS.out; omega) (Γ.w (d := 32) 19 rfl) (Γ.w (d := 34) 21 rfl))) ?_
    refine .gu rfl rfl rfl rfl (fun _ E W Γ => by
      have e1 : E (.tmp 35) = .int .i64 0 := (Γ.k 22 rfl)
      have hc := Γ.c
      exact Does.value (w' := W) (by go_simp <;> first | rfl | (rw [IntKind.wrap_i64]; omega)) ⟨rfl, Below.refl _ _⟩) ?_
    refine .pl rfl (fun _ _ W Γ => ev_pick (Γ.k 17 rfl) (Γ.k 23 rfl)) ?_
    refine .pl rfl (fun _ _ W Γ => ev_assign _ (Γ.k 24 rfl)) ?_
    exact .nil
  clear J; intro K7 hK7; simp only [fx]; intro _ f7 W7 J; refine hK7.out _ _ ?_; clear hK7
  refine wp_ret ?_
  exact bodyPost_ret (v := .bool true) (by simp [results, Tryz.results10, go_sem]) rfl ⟨_, rfl, rfl, J.out.be⟩
end Go.Proofs.YtjhjlecnjkjbbaaGreatDoor
