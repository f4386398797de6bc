/- Rows of bytes and quadruples, through stores to boxes; a raw number as a place in a slice, the same in every world. -/
import Derived.Test.YtjhjlecnjkjbbaaGreatDoorRIntDiv
import Derived.Test.YtjhjlecnjkjbbaaGreatDoorCut
import Derived.Test.YtjhjlecnjkjbbaaGreatDoorPKit
namespace Go.Proofs.YtjhjlecnjkjbbaaGreatDoor
open Go.RowKit

theorem setAll_far {b : Nat} {a : Addr} : ∀ (w : World) (i : Nat) (vs : List Value), (∀ j, j < vs.length → (⟨b, i + j, none⟩ : Addr) ≠ a) → (setAll w b i vs).cell? a = w.cell? a
  | _, _, [], _ => rfl
  | w, i, v :: vs, h => by
    rw [setAll, setAll_far _ _ _ (fun j hj => by have := h (j + 1) (by simp; omega); rwa [show i + (j + 1) = i + 1 + j by omega] at this)]
    exact World.cell?_setCell_other _ _ _ _ (h 0 (by simp))
theorem u8_stored {w w' : World} {b : Nat} {k : BK} {u v : Value} (hb : BoxHas w b k u) (hs : Stored w w' b k v) {a : Addr} {x : Int} (h : w.cell? a = some (.int .u8 x)) : w'.cell? a = some (.int .u8 x) := by
  obtain ⟨cs, rfl, hfit, rfl⟩ := hs
  rw [setAll_far]
  · exact h
  · intro j hj e
    subst e
    rw [Nat.zero_add] at h
    have hl := hfit.length
    obtain ⟨t, ht⟩ : ∃ t, k.shape[j]? = some t := ⟨_, List.getElem?_eq_getElem (by omega)⟩
    obtain ⟨y, hy, hok⟩ := hb.cellAt ht
    rw [h] at hy
    injection hy with hy
    subst hy
    cases t <;> simp [CT.ok] at hok
theorem IsB.stored {w w' : World} {b : Nat} {k : BK} {u v : Value} {p : Option Addr} {l c : Nat} {bs : List Nat} (h : IsB w p l c bs) (hb : BoxHas w b k u) (hs : Stored w w' b k v) : IsB w' p l c bs := by
  obtain ⟨h1, h2, h3 | ⟨b', off, sp, h3, h4, h5⟩⟩ := h
  · exact ⟨h1, h2, Or.inl h3⟩
  · exact ⟨h1, h2, Or.inr ⟨b', off, sp, h3, h4, fun i hi => u8_stored hb hs (h5 i hi)⟩⟩
def bytesS (xs : List Nat) : Stable where
  says w v := ∃ p l c, v = .slice p l c ∧ IsB w p l c xs
  mono _ _ _ hb := fun ⟨p, l, c, h1, h2⟩ => ⟨p, l, c, h1, h2.mono hb⟩
  stored _ _ _ _ _ _ _ hb hs := fun ⟨p, l, c, h1, h2⟩ => ⟨p, l, c, h1, h2.stored hb hs⟩
def rowS (xs : List Nat) : Stable where
  says w v := (∀ x ∈ xs, x < 256) ∧ RowOf w v .u8 xs
  mono _ _ _ hb := fun ⟨h0, h⟩ => ⟨h0, h.mono hb⟩
  stored _ _ _ _ _ _ _ hb hs := fun ⟨h0, b, off, c, h1, h2, h3⟩ => ⟨h0, b, off, c, h1, h2, fun i hi => u8_stored hb hs (h3 i hi)⟩
section
variable {P : Program} {E : Operand → Value} {w : World} {d : Option Tmp} {ty : TypeId} {pos : String} {af : Array Edge} {gd : Option (Nat × Bool)} {x : Operand} {X Y Z T : Want} {hs : (X.safe && Y.safe && Z.safe && T.safe) = true}
end

theorem few_want (w : World) (u : Value) (bs : List Nat) (n : Nat) (hn : n ≤ 1000000000) (h : Means w (.that (bytesS bs)) u) :
    Calls Tryz.prog 39 #[u, .int .i64 (n : Int)] w (Gives w (.that (rowS (bs.take n)))) := by
  obtain ⟨p, l, c, rfl, h⟩ := h
  exact (few_any p l c n bs w hn h).mono fun _ _ ⟨b, off, c, h1, h2, _, h3, _, hb⟩ => ⟨_, h1, ⟨fun x hx => h.2.1 x (List.mem_of_mem_take hx), b, off, c, rfl, h2, h3⟩, hb⟩
theorem rFrom_want (w : World) (u : Value) (bs : List Nat) (n : Nat) (hn : nb bs = n) (hl : bs.length ≤ 1000000) (h : Means w (.that (rowS bs)) u) :
    Calls Tryz.prog 38 #[u] w (Gives w (.rnum n)) := by
  obtain ⟨h0, b, off, c, rfl, h1, h2⟩ := h
  subst hn
  exact (rFrom_any b off c _ bs w rfl hl h2 h0).mono fun _ _ h => h.want
theorem hInt_want (w : World) (u : Value) (z : Int) (hz : (ds z.natAbs).length ≤ 60) (h : RINum w u z) : Calls Tryz.prog 43 #[u] w (Gives w (.int z)) := by
  obtain ⟨g, p, l, c, rfl, h⟩ := h
  exact (hInt_any z g p l c w hz h).mono fun _ _ h => h.want
end Go.Proofs.YtjhjlecnjkjbbaaGreatDoor

/- The document's fractions: what Make makes; the program's fraction of one. -/
namespace Go.Proofs.YtjhjlecnjkjbbaaGreatDoor
open Go.RowKit

theorem run_hInt : RowKit.Hid (∀ (a : Array Value) (w : World), Sem.run Tryz.prog (callFunc 43 a) w = .ok (.enter 43 a) w) := fun a w => by go_simp
theorem run_hNat : RowKit.Hid (∀ (a : Array Value) (w : World), Sem.run Tryz.prog (callFunc 44 a) w = .ok (.enter 44 a) w) := fun a w => by go_simp
theorem run_qMake : RowKit.Hid (∀ (a : Array Value) (w : World), Sem.run Tryz.prog (callFunc 32 a) w = .ok (.enter 32 a) w) := fun a w => by go_simp
theorem run_rGcd : RowKit.Hid (∀ (a : Array Value) (w : World), Sem.run Tryz.prog (callFunc 94 a) w = .ok (.enter 94 a) w) := fun a w => by go_simp
theorem run_rQMake : RowKit.Hid (∀ (a : Array Value) (w : World), Sem.run Tryz.prog (callFunc 41 a) w = .ok (.enter 41 a) w) := fun a w => by go_simp
theorem neg_mul_pos {k : Int} {g : Nat} (hg : 0 < g) : (g : Int) * k < 0 ↔ k < 0 := by
  constructor
  · intro h
    rcases Int.lt_or_le k 0 with h1 | h1
    · exact h1
    · have := Int.mul_nonneg (show (0 : Int) ≤ g by omega) h1; omega
  · intro h
    have := Int.mul_pos (show (0 : Int) < g by omega) (show 0 < -k by omega)
    rw [Int.mul_neg] at this; omega
theorem sgn_xor {n d : Int} (h0 : d ≠ 0) {X : Rat} (hX : MadeOf n d X) {g : Nat} (hg : Nat.gcd n.natAbs d.natAbs = g) : sgn (decide (n < 0) != decide (d < 0)) (n.natAbs / g) = X.num ∧ d.natAbs / g = X.den := by
  have hg0 : 0 < g := by rw [← hg]; exact Nat.gcd_pos_of_pos_right _ (by omega)
  obtain ⟨k, hk⟩ : ((g : Nat) : Int) ∣ n := Int.ofNat_dvd_left.2 (by rw [← hg]; exact Nat.gcd_dvd_left _ _)
  have e2 : n.natAbs / g = k.natAbs := by rw [hk, Int.natAbs_mul, Int.natAbs_natCast]; exact Nat.mul_div_cancel_left _ hg0
  have e3 : decide (n < 0) = decide (k < 0) := by rw [decide_eq_decide, hk]; exact neg_mul_pos hg0
  rw [e2, e3]
  rcases (show 0 < d ∨ d < 0 by omega) with h | h
  · have e := hX.1 h
    obtain ⟨p1, p2⟩ := make_parts n (d := d.natAbs) (by omega) hg
    have e1 : n / (g : Int) = k := by rw [hk]; exact Int.mul_ediv_cancel_left k (by omega)
    rw [e, ← p1, ← p2, e1, decide_eq_false (show ¬ d < 0 by omega)]
    refine ⟨?_, rfl⟩
    unfold sgn
    by_cases hk0 : k < 0
    · simp [hk0]; omega
    · simp [hk0]; omega
  · have e := hX.2 h
    obtain ⟨p1, p2⟩ := make_parts (-n) (d := d.natAbs) (g := g) (by omega) (by rw [Int.natAbs_neg]; exact hg)
    have e1 : -n / (g : Int) = -k := by rw [hk, ← Int.mul_neg]; exact Int.mul_ediv_cancel_left (-k) (by omega)
    rw [e, ← p1, ← p2, e1, decide_eq_true h]
    refine ⟨?_, rfl⟩
    unfold sgn
    by_cases hk0 : k < 0
    · simp [hk0]; omega
    · simp [hk0]; omega
theorem madeOf_den {n : Int} {d : Nat} {X : Rat} (h : X = mkRat n d) (h0 : 0 < d) : MadeOf n (d : Int) X := ⟨fun _ => by rw [Int.natAbs_natCast]; exact h, fun h => by omega⟩
theorem madeOf_self (X : Rat) : MadeOf X.num (X.den : Int) X := madeOf_den (Rat.mkRat_self X).symm X.den_pos
set_option maxRecDepth 100000 in
set_option maxHeartbeats 4000000 in
theorem rQMake_val (w : World) (u1 u2 : Value) (n d : Int) (X : Rat) (hX : MadeOf n d X) (hd0 : d ≠ 0) (hn : (ds n.natAbs).length ≤ 400) (hd : (ds d.natAbs).length ≤ 400) (h1 : Means w (.rint n) u1) (h2 : Means w (.rint d) u2) :
    Calls Tryz.prog 41 #[u1, u2] w (Gives w (.that (rfracS X))) := by
  obtain ⟨g1, p1, l1, c1, rfl, h1⟩ := h1
  obtain ⟨g2, p2, l2, c2, rfl, h2⟩ := h2
  have H1 := Lib.hid h1; clear h1
  have H2 := Lib.hid h2; clear h2
  obtain ⟨g, hg⟩ : ∃ g, Nat.gcd n.natAbs d.natAbs = g := ⟨_, rfl⟩
  have HG := Lib.hid hg; have HG0 : Hid (0 < g) := Lib.hid (by rw [← hg]; exact Nat.gcd_pos_of_pos_right _ (by omega))
  have HP : Hid (sgn (decide (n < 0) != decide (d < 0)) (n.natAbs / g) = X.num ∧ d.natAbs / g = X.den) := Lib.hid (sgn_xor hd0 hX hg)
  have HS : Hid ((ds n.natAbs).length ≤ 1000 ∧ (ds d.natAbs).length ≤ 1000) := Lib.hid (by omega); have HS5 : Hid ((ds n.natAbs).length ≤ 500 ∧ (ds d.natAbs).length ≤ 500) := Lib.hid (by omega)
  clear hX hn hd hg hd0
  go_enter Tryz.func41, Tryz.ntmps41
  have J := Frm.start (w := w) (V := []) fn
  refine wp_seq_h ?_; intro K1 hK1; go_wp2
  obtain ⟨W2, b2, eW2, eb2, sz2, J⟩ := Frm.putR J rfl H1.out
  obtain ⟨W3, b3, eW3, eb3, sz3, J⟩ := Frm.putR J sz2 H2.out
  obtain ⟨W4, b4, eW4, eb4, sz4, J⟩ := Frm.putP0 J sz3
  rw [← eW2, ← eW3, ← eW4, ← eb4, ← eb3, ← eb2]
  clear eW2 eb2 sz2 eW3 eb3 sz3 eW4 eb4 sz4
  refine hK1.out _ _ ?_; clear hK1
  refine region_c [11, 12, 13, 14, 15, 6] [.is (.pointer (some ⟨b2, 1, none⟩)), .rnum n.natAbs, .is (.pointer (some ⟨b3, 1, none⟩)), .rnum d.natAbs, .rnum g, .rnum g] [] [] [(5, 5)] J ?_ ?_
  · refine .pl rfl (fun _ _ W Γ => ev_faR1 (Γ.s rfl)) ?_
    refine .pl rfl (fun _ _ W Γ => ev_ldR1 (Γ.k 0 rfl) (Γ.l 0 rfl) rfl) ?_
    refine .pl rfl (fun _ _ W Γ => ev_faR1 (Γ.s rfl)) ?_
    refine .pl rfl (fun _ _ W Γ => ev_ldR1 (Γ.k 2 rfl) (Γ.l 1 rfl) rfl) ?_
    refine .pl rfl (fun _ _ W Γ => ev_call2 (Γ.f _) run_rGcd (show Calls Tryz.prog 94 #[_, _] W (Gives W (.rnum g)) from by have := rGcd_want W _ _ n.natAbs d.natAbs HS5.out.1 HS5.out.2 (Γ.w (d := 11) 1 rfl) (Γ.w (d := 13) 3 rfl); rw [HG.out] at this; exact this)) ?_
    refine .pl rfl (fun _ _ W Γ => ev_assignM (Γ.w 4 rfl)) ?_
    exact .nil
  clear J; intro K5 hK5; simp only [fx]; intro _ f5 W5 J; refine hK5.out _ _ ?_; clear hK5
  refine region_c [17, 18, 19, 20, 16, 21, 22, 7, 8] [.is (.pointer (some ⟨b2, 1, none⟩)), .rnum n.natAbs, .rnum g, .two (.rnum (n.natAbs / g)) (.rnum (n.natAbs % g)), .two (.rnum (n.natAbs / g)) (.rnum (n.natAbs % g)), .rnum (n.natAbs / g), .rnum (n.natAbs % g), .rnum (n.natAbs / g), .rnum (n.natAbs % g)] [] [] [(7, 6)] J ?_ ?_
  · refine .pl rfl (fun _ _ W Γ => ev_faR1 (Γ.s rfl)) ?_
    refine .pl rfl (fun _ _ W Γ => ev_ldR1 (Γ.k 0 rfl) (Γ.l 0 rfl) rfl) ?_
    refine .pl rfl (fun _ _ W Γ => ev_moveM (Γ.m 0 rfl rfl)) ?_
    refine .pl rfl (fun _ _ W Γ => ev_call2 (Γ.f _) run_rDiv (rDiv_want W _ _ n.natAbs g HS.out.1 HG0.out (Γ.w (d := 17) 1 rfl) (Γ.w (d := 18) 2 rfl))) ?_
    refine .pl rfl (fun _ _ W Γ => ev_moveM (Γ.w 3 rfl)) ?_
    refine .pl rfl (fun _ _ W Γ => ev_ex20 (Γ.w 4 rfl)) ?_
    refine .pl rfl (fun _ _ W Γ => ev_ex21 (Γ.w 4 rfl)) ?_
    refine .pl rfl (fun _ _ W Γ => ev_assignM (Γ.w 5 rfl)) ?_
    refine .pl rfl (fun _ _ W Γ => ev_assignM (Γ.w 6 rfl)) ?_
    exact .nil
  clear J; intro K6 hK6; simp only [fx]; intro _ f6 W6 J; refine hK6.out _ _ ?_; clear hK6
  refine region_c [24, 25, 26, 27, 23, 28, 29, 9, 10] [.is (.pointer (some ⟨b3, 1, none⟩)), .rnum d.natAbs, .rnum g, .two (.rnum X.den) (.rnum (d.natAbs % g)), .two (.rnum X.den) (.rnum (d.natAbs % g)), .rnum X.den, .rnum (d.natAbs % g), .rnum X.den, .rnum (d.natAbs % g)] [] [] [(7, 8)] J ?_ ?_
  · refine .pl rfl (fun _ _ W Γ => ev_faR1 (Γ.s rfl)) ?_
    refine .pl rfl (fun _ _ W Γ => ev_ldR1 (Γ.k 0 rfl) (Γ.l 1 rfl) rfl) ?_
    refine .pl rfl (fun _ _ W Γ => ev_moveM (Γ.m 1 rfl rfl)) ?_
    refine .pl rfl (fun _ _ W Γ => ev_call2 (Γ.f _) run_rDiv (show Calls Tryz.prog 95 #[_, _] W (Gives W (.two (.rnum X.den) (.rnum (d.natAbs % g)))) from by have := rDiv_want W _ _ d.natAbs g HS.out.2 HG0.out (Γ.w (d := 24) 1 rfl) (Γ.w (d := 25) 2 rfl); rw [HP.out.2] at this; exact this)) ?_
    refine .pl rfl (fun _ _ W Γ => ev_moveM (Γ.w 3 rfl)) ?_
    refine .pl rfl (fun _ _ W Γ => ev_ex20 (Γ.w 4 rfl)) ?_
    refine .pl rfl (fun _ _ W Γ => ev_ex21 (Γ.w 4 rfl)) ?_
    refine .pl rfl (fun _ _ W Γ => ev_assignM (Γ.w 5 rfl)) ?_
    refine .pl rfl (fun _ _ W Γ => ev_assignM (Γ.w 6 rfl)) ?_
    exact .nil
  clear J; intro K7 hK7; simp only [fx]; intro _ f7 W7 J; refine hK7.out _ _ ?_; clear hK7
  refine region_c [30, 31, 32, 33, 34, 35, 36, 37, 38, 0] [.is (.pointer (some ⟨b2, 0, none⟩)), .is (.bool (decide (n < 0))), .is (.pointer (some ⟨b3, 0, none⟩)), .is (.bool (decide (d < 0))), .is (.bool (decide (n < 0) != decide (d < 0))), .rnum (n.natAbs / g), .rint X.num, .rnum X.den, .that (rfracS X), .any] [none, none, some (9, .that (rfracS X))] [] [] J ?_ ?_
  · refine .pl rfl (fun _ _ W Γ => ev_faR0 (Γ.s rfl)) ?_
    refine .pl rfl (fun _ _ W Γ => ev_ldR0 (Γ.k 0 rfl) (Γ.l 0 rfl) rfl) ?_
    refine .pl rfl (fun _ _ W Γ => ev_faR0 (Γ.s rfl)) ?_
    refine .pl rfl (fun _ _ W Γ => ev_ldR0 (Γ.k 2 rfl) (Γ.l 1 rfl) rfl) ?_
    refine .pl rfl (fun _ _ W Γ => ev_neqB (Γ.k 1 rfl) (Γ.k 3 rfl) rfl) ?_
    refine .pl rfl (fun _ _ W Γ => ev_moveM (Γ.m 1 rfl rfl)) ?_
    refine .pl rfl (fun _ _ W Γ => ev_call2 (Γ.f _) run_rI (by rw [(show _ = Value.bool (decide (n < 0) != decide (d < 0)) from (Γ.k (d := 33) 4 rfl))]; exact rI_gives W _ _ (n.natAbs / g) X.num HP.out.1 (Γ.w (d := 34) 5 rfl))) ?_
    refine .pl rfl (fun _ _ W Γ => ev_moveM (Γ.m 0 rfl rfl)) ?_
    refine .pl rfl (fun _ _ W Γ => ev_mkP (Γ.w 6 rfl) (Γ.w 7 rfl) rfl rfl) ?_
    refine .st 2 rfl rfl rfl (fun _ _ W Γ => ev_stP (Γ.s rfl) (Γ.u 2 rfl rfl) (Γ.w 8 rfl)) ?_
    exact .nil
  clear J; intro K8 hK8; simp only [fx]; intro _ f8 W8 J; refine hK8.out _ _ ?_; clear hK8
  refine wp_ret ?_
  obtain ⟨u0, hx0, hm0⟩ := J.out.get 2 rfl
  obtain ⟨gr0, pr0, lr0, cr0, qr0, kr0, dr0, rfl, c0_0, c0_1, c0_2⟩ := hx0.rfrac
  exact bodyPost_ret (v := .agg #[.bool gr0, .slice pr0 lr0 cr0, .slice qr0 kr0 dr0]) (by simp [results, Tryz.results41, go_sem, c0_0, c0_1, c0_2]) rfl ⟨_, rfl, hm0, J.out.be⟩
set_option maxRecDepth 100000 in
set_option maxHeartbeats 4000000 in
theorem rQOver_val (w : World) (n d : Int) (X : Rat) (hX : MadeOf n d X) (hd0 : d ≠ 0) (hn1 : -9223372036854775808 ≤ n) (hn2 : n ≤ 9223372036854775807) (hd1 : -9223372036854775808 ≤ d) (hd2 : d ≤ 9223372036854775807)  :
    Calls Tryz.prog 92 #[.int .i64 n, .int .i64 d] w (Gives w (.that (rfracS X))) := by
  have HX := Lib.hid hX; have HD0 := Lib.hid hd0; have HRn := Lib.hid (And.intro hn1 hn2); have HRd := Lib.hid (And.intro hd1 hd2)
  have HS : Hid ((ds n.natAbs).length ≤ 400 ∧ (ds d.natAbs).length ≤ 400) := Lib.hid ⟨by rw [ds_one (by omega)]; omega, by rw [ds_one (by omega)]; omega⟩
  clear hX hd0 hn1 hn2 hd1 hd2
  go_enter Tryz.func92, Tryz.ntmps92
  have J := Frm.start (w := w) (V := []) fn
  refine wp_seq_h ?_; intro K1 hK1; go_wp2
  obtain ⟨W2, b2, eW2, eb2, sz2, J⟩ := Frm.putP0 J rfl
  rw [← eW2, ← eb2]
  clear eW2 eb2 sz2
  refine hK1.out _ _ ?_; clear hK1
  refine region_c [6, 7, 8, 9, 10, 0] [.is (.int .i64 n), .rint n, .is (.int .i64 d), .rint d, .that (rfracS X), .any] [some (5, .that (rfracS X))] [] [] J ?_ ?_
  · refine .pl rfl (fun _ _ W Γ => ev_move _ (Γ.s rfl)) ?_
    refine .pl rfl (fun _ _ W Γ => ev_call1 (Γ.f _) run_rIOf (by rw [(show _ = Value.int .i64 n from (Γ.k (d := 5) 0 rfl))]; exact rIOf_any n W HRn.out.1 HRn.out.2)) ?_
    refine .pl rfl (fun _ _ W Γ => ev_move _ (Γ.s rfl)) ?_
    refine .pl rfl (fun _ _ W Γ => ev_call1 (Γ.f _) run_rIOf (by rw [(show _ = Value.int .i64 d from (Γ.k (d := 7) 2 rfl))]; exact rIOf_any d W HRd.out.1 HRd.out.2)) ?_
    refine .pl rfl (fun _ _ W Γ => ev_call2 (Γ.f _) run_rQMake (rQMake_val W _ _ n d X HX.out HD0.out HS.out.1 HS.out.2 (Γ.w (d := 6) 1 rfl) (Γ.w (d := 8) 3 rfl))) ?_
    refine .st 0 rfl rfl rfl (fun _ _ W Γ => ev_stP (Γ.s rfl) (Γ.u 0 rfl rfl) (Γ.w 4 rfl)) ?_
    exact .nil
  clear J; intro K3 hK3; simp only [fx]; intro _ f3 W3 J; refine hK3.out _ _ ?_; clear hK3
  refine wp_ret ?_
  obtain ⟨u0, hx0, hm0⟩ := J.out.get 0 rfl
  obtain ⟨gr0, pr0, lr0, cr0, qr0, kr0, dr0, rfl, c0_0, c0_1, c0_2⟩ := hx0.rfrac
  exact bodyPost_ret (v := .agg #[.bool gr0, .slice pr0 lr0 cr0, .slice qr0 kr0 dr0]) (by simp [results, Tryz.results92, go_sem, c0_0, c0_1, c0_2]) rfl ⟨_, rfl, hm0, J.out.be⟩

theorem hNat_gives (w : World) (u : Value) (n : Nat) (hn : (ds n).length ≤ 60) (h : RNum w u n) : Calls Tryz.prog 44 #[u] w (Gives w (.num n)) := by
  obtain ⟨p, l, c, rfl, h⟩ := h
  exact (hNat_any n p l c w h (by have := dr_ds n; omega)).mono fun _ _ ⟨_, _, _, _, h, hi, hb⟩ => ⟨_, h, ⟨_, _, _, _, rfl, hi⟩, hb⟩
set_option maxRecDepth 100000 in
set_option maxHeartbeats 4000000 in
theorem hIn_val (w : World) (u1 : Value) (X : Rat) (hx : QB X 600) (hT : Tab64 w) (h1 : Means w (.that (rfracS X)) u1) :
    Calls Tryz.prog 7 #[u1] w (Gives w (.that (fracS X))) := by
  obtain ⟨g1, p1, l1, c1, q1, k1, d1, rfl, h1⟩ := h1
  have H1 := Lib.hid h1; clear h1
  have hxs := hx.ds
  have HS : Hid ((ds X.num.natAbs).length ≤ 60 ∧ (ds X.den).length ≤ 60) := Lib.hid (by omega); have HS40 : Hid ((ds X.num.natAbs).length ≤ 40 ∧ (ds ((X.den : Nat) : Int).natAbs).length ≤ 40) := Lib.hid (by rw [Int.natAbs_natCast]; omega); have HD0 : Hid (((X.den : Nat) : Int) ≠ 0) := Lib.hid (by have := X.den_pos; omega)
  have TB := Lib.hid hT; clear hT
  clear hx hxs
  go_enter Tryz.func7, Tryz.ntmps7
  have J := Frm.start (w := w) (V := []) fn
  refine wp_seq_h ?_; intro K1 hK1; go_wp2
  obtain ⟨W2, b2, eW2, eb2, sz2, J⟩ := Frm.putP J rfl H1.out
  obtain ⟨W3, b3, eW3, eb3, sz3, J⟩ := Frm.putQ0 J sz2
  rw [← eW2, ← eW3, ← eb3, ← eb2]
  clear eW2 eb2 sz2 eW3 eb3 sz3
  refine hK1.out _ _ ?_; clear hK1
  refine region_c [7, 8, 9, 10, 11, 12, 13, 14, 6, 15, 16, 4, 0, 5] [.is (.pointer (some ⟨b2, 0, none⟩)), .rint X.num, .int X.num, .is (.pointer (some ⟨b2, 2, none⟩)), .rnum X.den, .num X.den, .int ((X.den : Nat) : Int), .two (.that (fracS X)) (.is (.bool true)), .two (.that (fracS X)) (.is (.bool true)), .that (fracS X), .is (.bool true), .any, .any, .is (.bool true)] [] [⟨.frac, 11, 12, .that (fracS X), .agg #[.bool false, .int .u64 0, .slice none 0 0, .int .u64 0, .slice none 0 0]⟩] [] J ?_ ?_
  · refine .pl rfl (fun _ _ W Γ => ev_faP0 (Γ.s rfl)) ?_
    refine .pl rfl (fun _ _ W Γ => ev_ldP0 (Γ.k 0 rfl) (Γ.l 0 rfl)) ?_
    refine .pl rfl (fun _ _ W Γ => ev_call1 (Γ.f _) run_hInt (hInt_want W _ X.num HS.out.1 (Γ.w (d := 7) 1 rfl))) ?_
    refine .pl rfl (fun _ _ W Γ => ev_faP1 (Γ.s rfl)) ?_
    refine .pl rfl (fun _ _ W Γ => ev_ldP2 (Γ.k 3 rfl) (Γ.l 0 rfl)) ?_
    refine .pl rfl (fun _ _ W Γ => ev_call1 (Γ.f _) run_hNat (hNat_gives W _ X.den HS.out.2 (Γ.w (d := 10) 4 rfl))) ?_
    refine .pl rfl (fun _ _ W Γ => ev_call2 (Γ.f _) run_iFrom (by rw [Γ.c]; exact iFrom_val W _ X.den (Γ.w (d := 11) 5 rfl))) ?_
    refine .pl rfl (fun _ _ W Γ => ev_call2 (Γ.f _) run_qMake (qMake_val W _ _ X.num ((X.den : Nat) : Int) X (madeOf_self X) HD0.out HS40.out.1 HS40.out.2 (TB.out.mono Γ.be) (Γ.w (d := 8) 2 rfl) (Γ.w (d := 12) 6 rfl))) ?_
    refine .pl rfl (fun _ _ W Γ => ev_moveM (Γ.w 7 rfl)) ?_
    refine .pl rfl (fun _ _ W Γ => ev_ex20 (Γ.w 8 rfl)) ?_
    refine .pl rfl (fun _ _ W Γ => ev_ex21 (Γ.w 8 rfl)) ?_
    refine .al 0 rfl rfl (fun _ _ => ev_alQ) ?_
    refine .sn 0 rfl rfl (fun _ _ W Γ => ev_stQ (Γ.q 0 rfl) (Γ.un 0 rfl) (Γ.w 9 rfl)) ?_
    refine .pl rfl (fun _ _ W Γ => ev_assign _ (Γ.k 10 rfl)) ?_
    exact .nil
  clear J; intro K4 hK4; simp only [fx]; intro β4 f4 W4 J; refine hK4.out _ _ ?_; clear hK4
  refine region_c [17, 0] [.that (fracS X), .any] [none, some (1, .that (fracS X))] [] [] J ?_ ?_
  · refine .pl rfl (fun _ _ W Γ => ev_ldQ (Γ.s rfl) (Γ.l 2 rfl)) ?_
    refine .st 1 rfl rfl rfl (fun _ _ W Γ => ev_stQ (Γ.s rfl) (Γ.u 1 rfl rfl) (Γ.w 0 rfl)) ?_
    exact .nil
  clear J; intro K5 hK5; simp only [fx]; intro _ f5 W5 J; refine hK5.out _ _ ?_; clear hK5
  refine wp_ret ?_
  obtain ⟨u0, hx0, hm0⟩ := J.out.get 1 rfl
  obtain ⟨gr0, sr0, pr0, lr0, cr0, tr0, qr0, kr0, dr0, rfl, c0_0, c0_1, c0_2, c0_3, c0_4⟩ := hx0.frac
  exact bodyPost_ret (v := .agg #[.bool gr0, .int .u64 sr0, .slice pr0 lr0 cr0, .int .u64 tr0, .slice qr0 kr0 dr0]) (by simp [results, Tryz.results7, go_sem, c0_0, c0_1, c0_2, c0_3, c0_4]) rfl ⟨_, rfl, hm0, J.out.be⟩
end Go.Proofs.YtjhjlecnjkjbbaaGreatDoor

/- The raw fraction of the statements of chapter 3: its record, boxes of it. -/
namespace Go.Proofs.YtjhjlecnjkjbbaaGreatDoor
open Go.RowKit

abbrev BK.raw3 : BK := .gen [.num, .s, .s, .b] rfl
def rawS (n : Int) (xs ys : List Nat) (g : Bool) : Stable where
  says w v := ∃ p l c q k d, v = .agg #[.int .i64 n, .slice p l c, .slice q k d, .bool g] ∧ IsB w p l c xs ∧ IsB w q k d ys
  mono _ _ _ hb := fun ⟨p, l, c, q, k, d, h, h1, h2⟩ => ⟨p, l, c, q, k, d, h, h1.mono hb, h2.mono hb⟩
  stored _ _ _ _ _ _ _ hb hs := fun ⟨p, l, c, q, k, d, h, h1, h2⟩ => ⟨p, l, c, q, k, d, h, h1.stored hb hs, h2.stored hb hs⟩
theorem BoxHas.raw3 {w : World} {b : Nat} {v : Value} {n : Int} {xs ys : List Nat} {g : Bool} (h : BoxHas w b .raw3 v) (hm : Means w (.that (rawS n xs ys g)) v) : ∃ p l c q k d, v = .agg #[.int .i64 n, .slice p l c, .slice q k d, .bool g] ∧ IsB w p l c xs ∧ IsB w q k d ys ∧ w.cell? ⟨b, 0, none⟩ = some (.int .i64 n) ∧ w.cell? ⟨b, 1, none⟩ = some (.slice p l c) ∧ w.cell? ⟨b, 2, none⟩ = some (.slice q k d) ∧ w.cell? ⟨b, 3, none⟩ = some (.bool g) := by
  obtain ⟨p, l, c, q, k, d, rfl, h1, h2⟩ := hm
  obtain ⟨cs, e, -, hc⟩ := h
  have e' : cs = [.int .i64 n, .slice p l c, .slice q k d, .bool g] := by
    have := Value.agg.inj e
    exact (congrArg Array.toList this).symm
  subst e'
  exact ⟨_, _, _, _, _, _, rfl, h1, h2, hc 0 _ rfl, hc 1 _ rfl, hc 2 _ rfl, hc 3 _ rfl⟩
section
variable {P : Program} {E : Operand → Value} {w : World} {d : Option Tmp} {ty : TypeId} {pos : String} {af : Array Edge} {gd : Option (Nat × Bool)}
set_option maxRecDepth 100000 in
theorem ev_faW0 {x : Operand} {b : Nat} (h : E x = .pointer (some ⟨b, 0, none⟩)) : Does Tryz.prog ⟨d, .fieldAddr 24 x 0, ty, pos, af, gd⟩ E w fun v' w' => Means w' (.is (.pointer (some ⟨b, 0, none⟩))) v' ∧ Below w.heap.size w w' := by
  exact Does.value (v := .pointer (some ⟨b, 0, none⟩)) (w' := w) (by go_simp) ⟨rfl, Below.refl _ _⟩
set_option maxRecDepth 100000 in
theorem ev_faW1 {x : Operand} {b : Nat} (h : E x = .pointer (some ⟨b, 0, none⟩)) : Does Tryz.prog ⟨d, .fieldAddr 24 x 1, ty, pos, af, gd⟩ E w fun v' w' => Means w' (.is (.pointer (some ⟨b, 1, none⟩))) v' ∧ Below w.heap.size w w' := by
  exact Does.value (v := .pointer (some ⟨b, 1, none⟩)) (w' := w) (by go_simp) ⟨rfl, Below.refl _ _⟩
set_option maxRecDepth 100000 in
theorem ev_faW2 {x : Operand} {b : Nat} (h : E x = .pointer (some ⟨b, 0, none⟩)) : Does Tryz.prog ⟨d, .fieldAddr 24 x 2, ty, pos, af, gd⟩ E w fun v' w' => Means w' (.is (.pointer (some ⟨b, 2, none⟩))) v' ∧ Below w.heap.size w w' := by
  exact Does.value (v := .pointer (some ⟨b, 2, none⟩)) (w' := w) (by go_simp) ⟨rfl, Below.refl _ _⟩
set_option maxRecDepth 100000 in
theorem ev_faW3 {x : Operand} {b : Nat} (h : E x = .pointer (some ⟨b, 0, none⟩)) : Does Tryz.prog ⟨d, .fieldAddr 24 x 3, ty, pos, af, gd⟩ E w fun v' w' => Means w' (.is (.pointer (some ⟨b, 3, none⟩))) v' ∧ Below w.heap.size w w' := by
  exact Does.value (v := .pointer (some ⟨b, 3, none⟩)) (w' := w) (by go_simp) ⟨rfl, Below.refl _ _⟩
set_option maxRecDepth 100000 in
theorem ev_ldW0 {x : Operand} {b : Nat} {n : Int} {xs ys : List Nat} {g : Bool} (h : E x = .pointer (some ⟨b, 0, none⟩)) (hs : Says w b .raw3 (.that (rawS n xs ys g))) : Does Tryz.prog ⟨d, .load 3 x, ty, pos, af, gd⟩ E w fun v' w' => Means w' (.is (.int .i64 n)) v' ∧ Below w.heap.size w w' := by
  obtain ⟨v, hb, hm⟩ := hs
  obtain ⟨p, l, c, q, k, d, rfl, h1, h2, q0, q1, q2, q3⟩ := hb.raw3 hm
  exact Does.value (w' := w) (by go_simp) ⟨rfl, Below.refl _ _⟩
theorem ev_ldW1 {x : Operand} {b : Nat} {n : Int} {xs ys : List Nat} {g : Bool} (h : E x = .pointer (some ⟨b, 1, none⟩)) (hs : Says w b .raw3 (.that (rawS n xs ys g))) : Does Tryz.prog ⟨d, .load 22 x, ty, pos, af, gd⟩ E w fun v' w' => Means w' (.that (bytesS xs)) v' ∧ Below w.heap.size w w' := by
  obtain ⟨v, hb, hm⟩ := hs
  obtain ⟨p, l, c, q, k, d, rfl, h1, h2, q0, q1, q2, q3⟩ := hb.raw3 hm
  exact Does.value (v := .slice p l c) (w' := w) (by go_simp) ⟨⟨_, _, _, rfl, h1⟩, Below.refl _ _⟩
theorem ev_ldW2 {x : Operand} {b : Nat} {n : Int} {xs ys : List Nat} {g : Bool} (h : E x = .pointer (some ⟨b, 2, none⟩)) (hs : Says w b .raw3 (.that (rawS n xs ys g))) : Does Tryz.prog ⟨d, .load 22 x, ty, pos, af, gd⟩ E w fun v' w' => Means w' (.that (bytesS ys)) v' ∧ Below w.heap.size w w' := by
  obtain ⟨v, hb, hm⟩ := hs
  obtain ⟨p, l, c, q, k, d, rfl, h1, h2, q0, q1, q2, q3⟩ := hb.raw3 hm
  exact Does.value (v := .slice q k d) (w' := w) (by go_simp) ⟨⟨_, _, _, rfl, h2⟩, Below.refl _ _⟩
theorem ev_ldW3 {x : Operand} {b : Nat} {n : Int} {xs ys : List Nat} {g : Bool} (h : E x = .pointer (some ⟨b, 3, none⟩)) (hs : Says w b .raw3 (.that (rawS n xs ys g))) : Does Tryz.prog ⟨d, .load 4 x, ty, pos, af, gd⟩ E w fun v' w' => Means w' (.is (.bool g)) v' ∧ Below w.heap.size w w' := by
  obtain ⟨v, hb, hm⟩ := hs
  obtain ⟨p, l, c, q, k, d, rfl, h1, h2, q0, q1, q2, q3⟩ := hb.raw3 hm
  exact Does.value (w' := w) (by go_simp) ⟨rfl, Below.refl _ _⟩
theorem ev_ldW {x : Operand} {b : Nat} {n : Int} {xs ys : List Nat} {g : Bool} (h : E x = .pointer (some ⟨b, 0, none⟩)) (hs : Says w b .raw3 (.that (rawS n xs ys g))) : Does Tryz.prog ⟨d, .load 24 x, ty, pos, af, gd⟩ E w fun v' w' => Means w' (.that (rawS n xs ys g)) v' ∧ Below w.heap.size w w' := by
  obtain ⟨v, hb, hm⟩ := hs
  obtain ⟨p, l, c, q, k, d, rfl, h1, h2, q0, q1, q2, q3⟩ := hb.raw3 hm
  exact Does.value (v := .agg #[.int .i64 n, .slice p l c, .slice q k d, .bool g]) (w' := w) (by go_simp) ⟨hm, Below.refl _ _⟩
theorem ev_lenB {x : Operand} {xs : List Nat} (h : Means w (.that (bytesS xs)) (E x)) : Does Tryz.prog ⟨d, .call ⟨.builtin .len, #[x], #[22]⟩, 3, pos, af, gd⟩ E w fun v' w' => Means w' (.is (.int .i64 (xs.length : Int))) v' ∧ Below w.heap.size w w' := by
  obtain ⟨p, l, c, e, hI⟩ := h
  have := hI.1
  subst this
  exact Does.value (w' := w) (by go_simp) ⟨rfl, Below.refl _ _⟩
end
theorem Frm.putW {w W : World} {L : List Bx} {V : List (Value × Want)} (J : Hid (Frm w W L V)) {m : Nat} (hm : W.heap.size = m) {n : Int} {p : Option Addr} {l c : Nat} {q : Option Addr} {k d : Nat} {g : Bool} {xs ys : List Nat} (h : IsB w p l c xs ∧ IsB w q k d ys) :
    ∃ W' b, W' = W.alloc (.cells #[.int .i64 n, .slice p l c, .slice q k d, .bool g] 24) ∧ b = m ∧ W'.heap.size = m + 1 ∧ Hid (Frm w W' (L ++ [⟨b, .raw3, .that (rawS n xs ys g)⟩]) V) :=
  Frm.put J hm (x := .that (rawS n xs ys g)) (cs := [_, _, _, _]) _ ⟨⟨_, rfl⟩, ⟨_, _, _, rfl⟩, ⟨_, _, _, rfl⟩, ⟨_, rfl⟩, trivial⟩ rfl (Means.mono (x := .that (rawS n xs ys g)) ⟨_, _, _, _, _, _, rfl, h⟩ J.out.be)
end Go.Proofs.YtjhjlecnjkjbbaaGreatDoor

/- The raw fractions of the statements of chapter 3. -/
namespace Go.Proofs.YtjhjlecnjkjbbaaGreatDoor
open Go.RowKit

theorem run_Few : RowKit.Hid (∀ (a : Array Value) (w : World), Sem.run Tryz.prog (callFunc 39 a) w = .ok (.enter 39 a) w) := fun a w => by go_simp
theorem run_Pick : RowKit.Hid (∀ (a : Array Value) (w : World), Sem.run Tryz.prog (callFunc 31 a) w = .ok (.enter 31 a) w) := fun a w => by go_simp
theorem run_hR : RowKit.Hid (∀ (a : Array Value) (w : World), Sem.run Tryz.prog (callFunc 37 a) w = .ok (.enter 37 a) w) := fun a w => by go_simp
theorem run_rFrom : RowKit.Hid (∀ (a : Array Value) (w : World), Sem.run Tryz.prog (callFunc 38 a) w = .ok (.enter 38 a) w) := fun a w => by go_simp
theorem run_rOf : RowKit.Hid (∀ (a : Array Value) (w : World), Sem.run Tryz.prog (callFunc 40 a) w = .ok (.enter 40 a) w) := fun a w => by go_simp
theorem run_rQOver : RowKit.Hid (∀ (a : Array Value) (w : World), Sem.run Tryz.prog (callFunc 92 a) w = .ok (.enter 92 a) w) := fun a w => by go_simp
def rDen : Int → Int
  | 0 => 1 | 1 => 1 | 2 => 1 | 3 => 2 | 4 => 3 | _ => 4
def rQ (n : Int) : Rat := mkRat (n % 41 - 20) (rDen (n.tdiv 41 % 6)).natAbs
def oneQ (n : Int) (xs ys : List Nat) (g : Bool) : Rat := if xs = [] then rQ n else mkRat (sgn g (nb (xs.take 12))) (if nb (ys.take 12) = 0 then 1 else nb (ys.take 12))
theorem rDen_pos (k : Int) : 0 < rDen k ∧ rDen k ≤ 4 := by unfold rDen; split <;> omega
theorem rQ_bits (n : Int) : QB (rQ n) 100 := by
  have := rDen_pos (n.tdiv 41 % 6)
  refine mkRat_bits (bitLen_lt_pow.1 ?_) (bitLen_lt_pow.1 ?_) (by omega)
  · exact Nat.lt_of_lt_of_le (show (n % 41 - 20).natAbs < 2 ^ 6 by omega) (Nat.pow_le_pow_right (by omega) (by omega))
  · exact Nat.lt_of_lt_of_le (show (rDen (n.tdiv 41 % 6)).natAbs < 2 ^ 6 by omega) (Nat.pow_le_pow_right (by omega) (by omega))
theorem nb12_bits (xs : List Nat) (hx : ∀ x ∈ xs, x < 256) : bitLen (nb (xs.take 12)) ≤ 100 := by
  have := nb_lt (xs.take 12) 12 (fun x h => hx x (List.mem_of_mem_take h)) (by rw [List.length_take]; omega)
  rw [show (256 : Nat) ^ 12 = 2 ^ 96 by decide] at this
  exact Nat.le_trans (bitLen_lt_pow.1 this) (by omega)
theorem oneQ_bits (n : Int) (xs ys : List Nat) (g : Bool) (hx : ∀ x ∈ xs, x < 256) (hy : ∀ x ∈ ys, x < 256) : QB (oneQ n xs ys g) 100 := by
  unfold oneQ
  split
  · exact rQ_bits n
  · refine mkRat_bits (by rw [sgn_abs]; exact nb12_bits xs hx) ?_ (by omega)
    split
    · have h2 : bitLen 1 = 1 := by decide
      omega
    · exact nb12_bits ys hy
theorem pick_gives (n : Int) (m : Nat) (w : World) (h1 : -9223372036854775808 ≤ n) (h2 : n ≤ 9223372036854775807) (hm : 0 < m) (hm2 : m ≤ 4611686018427387904) :
    Calls Tryz.prog 31 #[.int .i64 n, .int .i64 (m : Int)] w (Gives w (.is (.int .i64 (n % (m : Int))))) := (pick_any n m w h1 h2 hm hm2).mono fun _ _ ⟨h, e⟩ => ⟨_, e, rfl, by rw [h]; exact Below.refl _ _⟩
theorem tdiv_range {n : Int} (h1 : -9223372036854775808 ≤ n) (h2 : n ≤ 9223372036854775807) : -9223372036854775808 ≤ n.tdiv 41 ∧ n.tdiv 41 ≤ 9223372036854775807 := by
  have := Int.natAbs_tdiv_le_natAbs n 41
  rcases Int.lt_or_le n 0 with h | h
  · have e : n.tdiv 41 = -((-n).tdiv 41) := by rw [Int.neg_tdiv, Int.neg_neg]
    have := Int.tdiv_nonneg (show 0 ≤ -n by omega) (show (0 : Int) ≤ 41 by omega)
    omega
  · have := Int.tdiv_nonneg h (show (0 : Int) ≤ 41 by omega); omega
set_option maxRecDepth 100000 in
set_option maxHeartbeats 4000000 in
theorem hR_val (w : World) (n : Int) (h1 : -9223372036854775808 ≤ n) (h2 : n ≤ 9223372036854775807)  :
    Calls Tryz.prog 37 #[.int .i64 n] w (Gives w (.that (rfracS (rQ n)))) := by
  have HR := Lib.hid (And.intro h1 h2); have HT := Lib.hid (tdiv_range h1 h2)
  have ht := tdiv_range h1 h2
  have wq : IntKind.i64.wrap (n.tdiv 41) = n.tdiv 41 := by rw [IntKind.wrap_i64]; omega
  clear ht
  have HQ : Hid (MadeOf (n % 41 - 20) (rDen (n.tdiv 41 % 6)) (rQ n)) := Lib.hid ⟨fun _ => rfl, fun h => absurd h (by have := (rDen_pos (n.tdiv 41 % 6)).1; omega)⟩
  have HD := Lib.hid (rDen_pos (n.tdiv 41 % 6))
  have b1 : 0 ≤ n % 41 := by omega
  have b2 : n % 41 < 41 := by omega
  have HC : Hid (n.tdiv 41 % 6 = 0 ∨ n.tdiv 41 % 6 = 1 ∨ n.tdiv 41 % 6 = 2 ∨ n.tdiv 41 % 6 = 3 ∨ n.tdiv 41 % 6 = 4 ∨ n.tdiv 41 % 6 = 5) := Lib.hid (by omega)
  go_enter Tryz.func37, Tryz.ntmps37
  have J := Frm.start (w := w) (V := []) fn
  refine wp_seq_h ?_; intro K1 hK1; go_wp2
  obtain ⟨W2, b2, eW2, eb2, sz2, J⟩ := Frm.putP0 J rfl
  rw [← eW2, ← eb2]
  clear eW2 eb2 sz2
  refine hK1.out _ _ ?_; clear hK1
  refine region_c [4, 5, 6, 7, 8, 9, 10, 11, 12, 0] [.is (.int .i64 n), .is (.int .i64 (n % 41)), .is (.int .i64 (n % 41 - 20)), .is (.agg #[.int .i64 1, .int .i64 1, .int .i64 1, .int .i64 2, .int .i64 3, .int .i64 4]), .is (.int .i64 n), .is (.int .i64 (n.tdiv 41)), .is (.int .i64 (n.tdiv 41 % 6)), .is (.int .i64 (rDen (n.tdiv 41 % 6))), .that (rfracS (rQ n)), .any] [some (9, .that (rfracS (rQ n)))] [] [] J ?_ ?_
  · refine .pl rfl (fun _ _ W Γ => ev_move _ (Γ.s rfl)) ?_
    refine .pl rfl (fun _ _ W Γ => ev_call2 (Γ.f _) run_Pick (by rw [Γ.c, (show _ = Value.int .i64 n from (Γ.k (d := 3) 0 rfl))]; exact pick_gives n 41 W HR.out.1 HR.out.2 (by omega) (by omega))) ?_
    refine .pl rfl (fun _ E W Γ => by
      have e1 : E (.tmp 4) = .int .i64 (n % 41) := (Γ.k 1 rfl)
      have hc := Γ.c
      exact Does.value (w' := W) (by go_simp <;> first | rfl | (rw [IntKind.wrap_i64]; omega)) ⟨rfl, Below.refl _ _⟩) ?_
    refine .pl rfl (fun _ _ W Γ => by
      have hq := Γ.c
      exact Does.value (w' := W) (by go_simp <;> rfl) ⟨rfl, Below.refl _ _⟩) ?_
    refine .pl rfl (fun _ _ W Γ => ev_move _ (Γ.s rfl)) ?_
    refine .pl rfl (fun _ E W Γ => by
      have e1 : E (.tmp 7) = .int .i64 n := (Γ.k 4 rfl)
      have hc := Γ.c
      exact Does.value (w' := W) (by go_simp <;> first | rfl | (rw [IntKind.wrap_i64]; omega)) ⟨rfl, Below.refl _ _⟩) ?_
    refine .pl rfl (fun _ _ W Γ => ev_call2 (Γ.f _) run_Pick (by rw [Γ.c, (show _ = Value.int .i64 (n.tdiv 41) from (Γ.k (d := 8) 5 rfl))]; exact show Calls Tryz.prog 31 #[.int .i64 (n.tdiv 41), .int .i64 6] W (Gives W (.is (.int .i64 (n.tdiv 41 % 6)))) from pick_gives (n.tdiv 41) 6 W HT.out.1 HT.out.2 (by omega) (by omega))) ?_
    refine .pl rfl (fun _ E W Γ => by
      have e1 : E (.tmp 6) = .agg #[.int .i64 1, .int .i64 1, .int .i64 1, .int .i64 2, .int .i64 3, .int .i64 4] := (Γ.k 3 rfl)
      have e2 : E (.tmp 9) = .int .i64 (n.tdiv 41 % 6) := (Γ.k 6 rfl)
      have hc := Γ.c
      rcases HC.out with h | h | h | h | h | h <;> (rw [h] at e2 ⊢; exact Does.value (w' := W) (by go_simp <;> rfl) ⟨rfl, Below.refl _ _⟩)) ?_
    refine .pl rfl (fun _ _ W Γ => ev_call2 (Γ.f _) run_rQOver (by rw [(show _ = Value.int .i64 (n % 41 - 20) from (Γ.k (d := 5) 2 rfl)), (show _ = Value.int .i64 (rDen (n.tdiv 41 % 6)) from (Γ.k (d := 10) 7 rfl))]; exact rQOver_val W (n % 41 - 20) (rDen (n.tdiv 41 % 6)) (rQ n) HQ.out (by have := HD.out; omega) (by omega) (by omega) (by have := HD.out; omega) (by have := HD.out; omega))) ?_
    refine .st 0 rfl rfl rfl (fun _ _ W Γ => ev_stP (Γ.s rfl) (Γ.u 0 rfl rfl) (Γ.w 8 rfl)) ?_
    exact .nil
  clear J; intro K3 hK3; simp only [fx]; intro _ f3 W3 J; refine hK3.out _ _ ?_; clear hK3
  refine wp_ret ?_
  obtain ⟨u0, hx0, hm0⟩ := J.out.get 0 rfl
  obtain ⟨gr0, pr0, lr0, cr0, qr0, kr0, dr0, rfl, c0_0, c0_1, c0_2⟩ := hx0.rfrac
  exact bodyPost_ret (v := .agg #[.bool gr0, .slice pr0 lr0 cr0, .slice qr0 kr0 dr0]) (by simp [results, Tryz.results37, go_sem, c0_0, c0_1, c0_2]) rfl ⟨_, rfl, hm0, J.out.be⟩
set_option maxRecDepth 100000 in
set_option maxHeartbeats 4000000 in
theorem one3_small (w : World) (u1 : Value) (n : Int) (xs ys : List Nat) (g : Bool) (h1r : -9223372036854775808 ≤ n) (h2r : n ≤ 9223372036854775807) (_hx : ∀ x ∈ xs, x < 256) (_hy : ∀ x ∈ ys, x < 256) (h0 : xs = []) (h1 : Means w (.that (rawS n xs ys g)) u1) :
    Calls Tryz.prog 6 #[u1] w (Gives w (.that (rfracS (oneQ n xs ys g)))) := by
  obtain ⟨p1, l1, c1, q1, k1, d1, rfl, h1⟩ := h1
  have H1 := Lib.hid h1; clear h1
  have HR := Lib.hid (And.intro h1r h2r); clear h1r h2r
  have HQ : Hid (oneQ n xs ys g = rQ n) := Lib.hid (by unfold oneQ; rw [if_pos h0])
  have HE : Hid (((xs.length : Int) == 0) = true) := Lib.hid (by rw [h0]; rfl)
  clear h0 _hx _hy
  go_enter Tryz.func6, Tryz.ntmps6
  have J := Frm.start (w := w) (V := []) fn
  refine wp_seq_h ?_; intro K1 hK1; go_wp2
  obtain ⟨W2, b2, eW2, eb2, sz2, J⟩ := Frm.putW J rfl H1.out
  obtain ⟨W3, b3, eW3, eb3, sz3, J⟩ := Frm.putP0 J sz2
  rw [← eW2, ← eW3, ← eb3, ← eb2]
  clear eW2 eb2 sz2 eW3 eb3 sz3
  refine hK1.out _ _ ?_; clear hK1
  refine wp_seq_h ?_; intro K4 hK4
  refine region_c [5, 6, 7, 8] [.is (.pointer (some ⟨b2, 1, none⟩)), .that (bytesS xs), .is (.int .i64 (xs.length : Int)), .is (.bool true)] [] [] [] J ?_ ?_
  · refine .pl rfl (fun _ _ W Γ => ev_faW1 (Γ.s rfl)) ?_
    refine .pl rfl (fun _ _ W Γ => ev_ldW1 (Γ.k 0 rfl) (Γ.l 0 rfl)) ?_
    refine .pl rfl (fun _ _ W Γ => ev_lenB (Γ.w 1 rfl)) ?_
    refine .pl rfl (fun _ _ W Γ => ev_eql (Γ.k 2 rfl) (Γ.c _) HE.out) ?_
    exact .nil
  clear J; intro K5 hK5; simp only [fx]; intro _ f5 W5 J; refine hK5.out _ _ ?_; clear hK5
  refine wp_cond_true rfl ?_
  refine region_c [9, 10, 11, 0] [.is (.pointer (some ⟨b2, 0, none⟩)), .is (.int .i64 n), .that (rfracS (oneQ n xs ys g)), .any] [none, some (3, .that (rfracS (oneQ n xs ys g)))] [] [] J ?_ ?_
  · refine .pl rfl (fun _ _ W Γ => ev_faW0 (Γ.s rfl)) ?_
    refine .pl rfl (fun _ _ W Γ => ev_ldW0 (Γ.k 0 rfl) (Γ.l 0 rfl)) ?_
    refine .pl rfl (fun _ _ W Γ => ev_call1 (Γ.f _) run_hR (by rw [(show _ = Value.int .i64 n from (Γ.k (d := 9) 1 rfl))]; exact show Calls Tryz.prog 37 #[_] W (Gives W (.that (rfracS (oneQ n xs ys g)))) from by rw [HQ.out]; exact hR_val W n HR.out.1 HR.out.2)) ?_
    refine .st 1 rfl rfl rfl (fun _ _ W Γ => ev_stP (Γ.s rfl) (Γ.u 1 rfl rfl) (Γ.w 2 rfl)) ?_
    exact .nil
  clear J; intro K6 hK6; simp only [fx]; intro _ f6 W6 J; refine hK6.out _ _ ?_; clear hK6
  refine wp_ret ?_
  obtain ⟨u0, hx0, hm0⟩ := J.out.get 1 rfl
  obtain ⟨gr0, pr0, lr0, cr0, qr0, kr0, dr0, rfl, c0_0, c0_1, c0_2⟩ := hx0.rfrac
  exact bodyPost_ret (v := .agg #[.bool gr0, .slice pr0 lr0 cr0, .slice qr0 kr0 dr0]) (by simp [results, Tryz.results6, go_sem, c0_0, c0_1, c0_2]) rfl ⟨_, rfl, hm0, J.out.be⟩
set_option maxRecDepth 100000 in
set_option maxHeartbeats 4000000 in
theorem one3_one (w : World) (u1 : Value) (n : Int) (xs ys : List Nat) (g : Bool) (h1r : -9223372036854775808 ≤ n) (h2r : n ≤ 9223372036854775807) (hx : ∀ x ∈ xs, x < 256) (_hy : ∀ x ∈ ys, x < 256) (h0 : xs ≠ []) (hz : nb (ys.take 12) = 0) (h1 : Means w (.that (rawS n xs ys g)) u1) :
    Calls Tryz.prog 6 #[u1] w (Gives w (.that (rfracS (oneQ n xs ys g)))) := by
  obtain ⟨p1, l1, c1, q1, k1, d1, rfl, h1⟩ := h1
  have H1 := Lib.hid h1; clear h1
  have HR := Lib.hid (And.intro h1r h2r); clear h1r h2r
  have HE : Hid (((xs.length : Int) == 0) = false) := Lib.hid (beq_eq_false_iff_ne.2 (fun e => h0 (List.eq_nil_of_length_eq_zero (by omega))))
  have HZ : Hid (decide (nb (ys.take 12) = 0) = true) := Lib.hid (decide_eq_true hz)
  have HM : Hid (MadeOf (sgn g (nb (xs.take 12))) ((1 : Nat) : Int) (oneQ n xs ys g)) := Lib.hid (madeOf_den (by unfold oneQ; rw [if_neg h0, if_pos hz]) (by omega))
  have HD0 : Hid (((1 : Nat) : Int) ≠ 0) := Lib.hid (by omega)
  have HS : Hid ((ds (sgn g (nb (xs.take 12))).natAbs).length ≤ 400 ∧ (ds ((1 : Nat) : Int).natAbs).length ≤ 400) := Lib.hid ⟨by rw [sgn_abs]; exact Nat.le_trans (ds_bl (k := 2) (by omega) (Nat.le_trans (nb12_bits xs hx) (by omega))) (by omega), by rw [Int.natAbs_natCast]; exact by rw [ds_one (by decide)]; omega⟩
  clear h0 hz hx _hy
  go_enter Tryz.func6, Tryz.ntmps6
  have J := Frm.start (w := w) (V := []) fn
  refine wp_seq_h ?_; intro K1 hK1; go_wp2
  obtain ⟨W2, b2, eW2, eb2, sz2, J⟩ := Frm.putW J rfl H1.out
  obtain ⟨W3, b3, eW3, eb3, sz3, J⟩ := Frm.putP0 J sz2
  rw [← eW2, ← eW3, ← eb3, ← eb2]
  clear eW2 eb2 sz2 eW3 eb3 sz3
  refine hK1.out _ _ ?_; clear hK1
  refine wp_seq_h ?_; intro K4 hK4
  refine region_c [5, 6, 7, 8] [.is (.pointer (some ⟨b2, 1, none⟩)), .that (bytesS xs), .is (.int .i64 (xs.length : Int)), .is (.bool false)] [] [] [] J ?_ ?_
  · refine .pl rfl (fun _ _ W Γ => ev_faW1 (Γ.s rfl)) ?_
    refine .pl rfl (fun _ _ W Γ => ev_ldW1 (Γ.k 0 rfl) (Γ.l 0 rfl)) ?_
    refine .pl rfl (fun _ _ W Γ => ev_lenB (Γ.w 1 rfl)) ?_
    refine .pl rfl (fun _ _ W Γ => ev_eql (Γ.k 2 rfl) (Γ.c _) HE.out) ?_
    exact .nil
  clear J; intro K5 hK5; simp only [fx]; intro _ f5 W5 J; refine hK5.out _ _ ?_; clear hK5
  refine wp_cond_false rfl ?_
  refine wp_skip ?_
  refine hK4.out _ _ ?_; clear hK4
  refine region_c [12, 13, 14, 15, 4] [.is (.pointer (some ⟨b2, 2, none⟩)), .that (bytesS ys), .that (rowS (ys.take 12)), .rnum (nb (ys.take 12)), .rnum (nb (ys.take 12))] [] [] [(4, 3)] J ?_ ?_
  · refine .pl rfl (fun _ _ W Γ => ev_faW2 (Γ.s rfl)) ?_
    refine .pl rfl (fun _ _ W Γ => ev_ldW2 (Γ.k 0 rfl) (Γ.l 0 rfl)) ?_
    refine .pl rfl (fun _ _ W Γ => ev_call2 (Γ.f _) run_Few (by rw [Γ.c]; exact few_want W _ ys 12 (by omega) (Γ.w (d := 12) 1 rfl))) ?_
    refine .pl rfl (fun _ _ W Γ => ev_call1 (Γ.f _) run_rFrom (rFrom_want W _ (ys.take 12) _ rfl (by rw [List.length_take]; omega) (Γ.w (d := 13) 2 rfl))) ?_
    refine .pl rfl (fun _ _ W Γ => ev_assignM (Γ.w 3 rfl)) ?_
    exact .nil
  clear J; intro K6 hK6; simp only [fx]; intro _ f6 W6 J; refine hK6.out _ _ ?_; clear hK6
  refine wp_seq_h ?_; intro K7 hK7
  refine region_c [16, 17, 18] [.rnum (nb (ys.take 12)), .that (lenS (nb (ys.take 12))), .is (.bool true)] [] [] [] J ?_ ?_
  · refine .pl rfl (fun _ _ W Γ => ev_moveM (Γ.m 0 rfl rfl)) ?_
    refine .pl rfl (fun _ _ W Γ => ev_len (Γ.w 0 rfl)) ?_
    refine .pl rfl (fun _ _ W Γ => ev_lenEql (Γ.w 1 rfl) HZ.out Γ.c) ?_
    exact .nil
  clear J; intro K8 hK8; simp only [fx]; intro _ f8 W8 J; refine hK8.out _ _ ?_; clear hK8
  refine wp_cond_true rfl ?_
  refine region_f [19, 4] [.rnum 1, .rnum 1] [] [] [(1, 3)] J ?_ ?_
  · refine .pl rfl (fun _ _ W Γ => ev_call1 (Γ.f _) run_rOf (by rw [Γ.c]; exact rOf_gives 1 (by decide) W)) ?_
    refine .pl rfl (fun _ _ W Γ => ev_assignM (Γ.w 0 rfl)) ?_
    exact .nil
  clear J; simp only [fx]; intro _ f9 W9 J
  refine hK7.out _ _ ?_; clear hK7
  refine region_c [20, 21, 22, 23, 24, 25, 26, 27, 28, 29, 0] [.is (.pointer (some ⟨b2, 3, none⟩)), .is (.bool g), .is (.pointer (some ⟨b2, 1, none⟩)), .that (bytesS xs), .that (rowS (xs.take 12)), .rnum (nb (xs.take 12)), .rint (sgn g (nb (xs.take 12))), .rnum 1, .rint ((1 : Nat) : Int), .that (rfracS (oneQ n xs ys g)), .any] [none, some (10, .that (rfracS (oneQ n xs ys g)))] [] [] J ?_ ?_
  · refine .pl rfl (fun _ _ W Γ => ev_faW3 (Γ.s rfl)) ?_
    refine .pl rfl (fun _ _ W Γ => ev_ldW3 (Γ.k 0 rfl) (Γ.l 0 rfl)) ?_
    refine .pl rfl (fun _ _ W Γ => ev_faW1 (Γ.s rfl)) ?_
    refine .pl rfl (fun _ _ W Γ => ev_ldW1 (Γ.k 2 rfl) (Γ.l 0 rfl)) ?_
    refine .pl rfl (fun _ _ W Γ => ev_call2 (Γ.f _) run_Few (by rw [Γ.c]; exact few_want W _ xs 12 (by omega) (Γ.w (d := 22) 3 rfl))) ?_
    refine .pl rfl (fun _ _ W Γ => ev_call1 (Γ.f _) run_rFrom (rFrom_want W _ (xs.take 12) _ rfl (by rw [List.length_take]; omega) (Γ.w (d := 23) 4 rfl))) ?_
    refine .pl rfl (fun _ _ W Γ => ev_call2 (Γ.f _) run_rI (by rw [(show _ = Value.bool g from (Γ.k (d := 20) 1 rfl))]; exact rI_gives W g _ (nb (xs.take 12)) _ rfl (Γ.w (d := 24) 5 rfl))) ?_
    refine .pl rfl (fun _ _ W Γ => ev_moveM (Γ.m 0 rfl rfl)) ?_
    refine .pl rfl (fun _ _ W Γ => ev_call2 (Γ.f _) run_rI (by rw [Γ.c]; exact rI_gives W _ _ 1 _ rfl (Γ.w (d := 26) 7 rfl))) ?_
    refine .pl rfl (fun _ _ W Γ => ev_call2 (Γ.f _) run_rQMake (rQMake_val W _ _ (sgn g (nb (xs.take 12))) ((1 : Nat) : Int) (oneQ n xs ys g) HM.out HD0.out HS.out.1 HS.out.2 (Γ.w (d := 25) 6 rfl) (Γ.w (d := 27) 8 rfl))) ?_
    refine .st 1 rfl rfl rfl (fun _ _ W Γ => ev_stP (Γ.s rfl) (Γ.u 1 rfl rfl) (Γ.w 9 rfl)) ?_
    exact .nil
  clear J; intro K10 hK10; simp only [fx]; intro _ f10 W10 J; refine hK10.out _ _ ?_; clear hK10
  refine wp_ret ?_
  obtain ⟨u0, hx0, hm0⟩ := J.out.get 1 rfl
  obtain ⟨gr0, pr0, lr0, cr0, qr0, kr0, dr0, rfl, c0_0, c0_1, c0_2⟩ := hx0.rfrac
  exact bodyPost_ret (v := .agg #[.bool gr0, .slice pr0 lr0 cr0, .slice qr0 kr0 dr0]) (by simp [results, Tryz.results6, go_sem, c0_0, c0_1, c0_2]) rfl ⟨_, rfl, hm0, J.out.be⟩
set_option maxRecDepth 100000 in
set_option maxHeartbeats 4000000 in
theorem one3_any (w : World) (u1 : Value) (n : Int) (xs ys : List Nat) (g : Bool) (h1r : -9223372036854775808 ≤ n) (h2r : n ≤ 9223372036854775807) (hx : ∀ x ∈ xs, x < 256) (hy : ∀ x ∈ ys, x < 256) (h0 : xs ≠ []) (hz : nb (ys.take 12) ≠ 0) (h1 : Means w (.that (rawS n xs ys g)) u1) :
    Calls Tryz.prog 6 #[u1] w (Gives w (.that (rfracS (oneQ n xs ys g)))) := by
  obtain ⟨p1, l1, c1, q1, k1, d1, rfl, h1⟩ := h1
  have H1 := Lib.hid h1; clear h1
  have HR := Lib.hid (And.intro h1r h2r); clear h1r h2r
  have HE : Hid (((xs.length : Int) == 0) = false) := Lib.hid (beq_eq_false_iff_ne.2 (fun e => h0 (List.eq_nil_of_length_eq_zero (by omega))))
  have HZ : Hid (decide (nb (ys.take 12) = 0) = false) := Lib.hid (decide_eq_false hz)
  have HM : Hid (MadeOf (sgn g (nb (xs.take 12))) ((nb (ys.take 12) : Nat) : Int) (oneQ n xs ys g)) := Lib.hid (madeOf_den (by unfold oneQ; rw [if_neg h0, if_neg hz]) (by omega))
  have HD0 : Hid (((nb (ys.take 12) : Nat) : Int) ≠ 0) := Lib.hid (by omega)
  have HS : Hid ((ds (sgn g (nb (xs.take 12))).natAbs).length ≤ 400 ∧ (ds ((nb (ys.take 12) : Nat) : Int).natAbs).length ≤ 400) := Lib.hid ⟨by rw [sgn_abs]; exact Nat.le_trans (ds_bl (k := 2) (by omega) (Nat.le_trans (nb12_bits xs hx) (by omega))) (by omega), by rw [Int.natAbs_natCast]; exact Nat.le_trans (ds_bl (k := 2) (by omega) (Nat.le_trans (nb12_bits ys hy) (by omega))) (by omega)⟩
  clear h0 hz hx hy
  go_enter Tryz.func6, Tryz.ntmps6
  have J := Frm.start (w := w) (V := []) fn
  refine wp_seq_h ?_; intro K1 hK1; go_wp2
  obtain ⟨W2, b2, eW2, eb2, sz2, J⟩ := Frm.putW J rfl H1.out
  obtain ⟨W3, b3, eW3, eb3, sz3, J⟩ := Frm.putP0 J sz2
  rw [← eW2, ← eW3, ← eb3, ← eb2]
  clear eW2 eb2 sz2 eW3 eb3 sz3
  refine hK1.out _ _ ?_; clear hK1
  refine wp_seq_h ?_; intro K4 hK4
  refine region_c [5, 6, 7, 8] [.is (.pointer (some ⟨b2, 1, none⟩)), .that (bytesS xs), .is (.int .i64 (xs.length : Int)), .is (.bool false)] [] [] [] J ?_ ?_
  · refine .pl rfl (fun _ _ W Γ => ev_faW1 (Γ.s rfl)) ?_
    refine .pl rfl (fun _ _ W Γ => ev_ldW1 (Γ.k 0 rfl) (Γ.l 0 rfl)) ?_
    refine .pl rfl (fun _ _ W Γ => ev_lenB (Γ.w 1 rfl)) ?_
    refine .pl rfl (fun _ _ W Γ => ev_eql (Γ.k 2 rfl) (Γ.c _) HE.out) ?_
    exact .nil
  clear J; intro K5 hK5; simp only [fx]; intro _ f5 W5 J; refine hK5.out _ _ ?_; clear hK5
  refine wp_cond_false rfl ?_
  refine wp_skip ?_
  refine hK4.out _ _ ?_; clear hK4
  refine region_c [12, 13, 14, 15, 4] [.is (.pointer (some ⟨b2, 2, none⟩)), .that (bytesS ys), .that (rowS (ys.take 12)), .rnum (nb (ys.take 12)), .rnum (nb (ys.take 12))] [] [] [(4, 3)] J ?_ ?_
  · refine .pl rfl (fun _ _ W Γ => ev_faW2 (Γ.s rfl)) ?_
    refine .pl rfl (fun _ _ W Γ => ev_ldW2 (Γ.k 0 rfl) (Γ.l 0 rfl)) ?_
    refine .pl rfl (fun _ _ W Γ => ev_call2 (Γ.f _) run_Few (by rw [Γ.c]; exact few_want W _ ys 12 (by omega) (Γ.w (d := 12) 1 rfl))) ?_
    refine .pl rfl (fun _ _ W Γ => ev_call1 (Γ.f _) run_rFrom (rFrom_want W _ (ys.take 12) _ rfl (by rw [List.length_take]; omega) (Γ.w (d := 13) 2 rfl))) ?_
    refine .pl rfl (fun _ _ W Γ => ev_assignM (Γ.w 3 rfl)) ?_
    exact .nil
  clear J; intro K6 hK6; simp only [fx]; intro _ f6 W6 J; refine hK6.out _ _ ?_; clear hK6
  refine wp_seq_h ?_; intro K7 hK7
  refine region_c [16, 17, 18] [.rnum (nb (ys.take 12)), .that (lenS (nb (ys.take 12))), .is (.bool false)] [] [] [] J ?_ ?_
  · refine .pl rfl (fun _ _ W Γ => ev_moveM (Γ.m 0 rfl rfl)) ?_
    refine .pl rfl (fun _ _ W Γ => ev_len (Γ.w 0 rfl)) ?_
    refine .pl rfl (fun _ _ W Γ => ev_lenEql (Γ.w 1 rfl) HZ.out Γ.c) ?_
    exact .nil
  clear J; intro K8 hK8; simp only [fx]; intro _ f8 W8 J; refine hK8.out _ _ ?_; clear hK8
  refine wp_cond_false rfl ?_
  refine wp_skip ?_
  refine hK7.out _ _ ?_; clear hK7
  refine region_c [20, 21, 22, 23, 24, 25, 26, 27, 28, 29, 0] [.is (.pointer (some ⟨b2, 3, none⟩)), .is (.bool g), .is (.pointer (some ⟨b2, 1, none⟩)), .that (bytesS xs), .that (rowS (xs.take 12)), .rnum (nb (xs.take 12)), .rint (sgn g (nb (xs.take 12))), .rnum (nb (ys.take 12)), .rint ((nb (ys.take 12) : Nat) : Int), .that (rfracS (oneQ n xs ys g)), .any] [none, some (10, .that (rfracS (oneQ n xs ys g)))] [] [] J ?_ ?_
  · refine .pl rfl (fun _ _ W Γ => ev_faW3 (Γ.s rfl)) ?_
    refine .pl rfl (fun _ _ W Γ => ev_ldW3 (Γ.k 0 rfl) (Γ.l 0 rfl)) ?_
    refine .pl rfl (fun _ _ W Γ => ev_faW1 (Γ.s rfl)) ?_
    refine .pl rfl (fun _ _ W Γ => ev_ldW1 (Γ.k 2 rfl) (Γ.l 0 rfl)) ?_
    refine .pl rfl (fun _ _ W Γ => ev_call2 (Γ.f _) run_Few (by rw [Γ.c]; exact few_want W _ xs 12 (by omega) (Γ.w (d := 22) 3 rfl))) ?_
    refine .pl rfl (fun _ _ W Γ => ev_call1 (Γ.f _) run_rFrom (rFrom_want W _ (xs.take 12) _ rfl (by rw [List.length_take]; omega) (Γ.w (d := 23) 4 rfl))) ?_
    refine .pl rfl (fun _ _ W Γ => ev_call2 (Γ.f _) run_rI (by rw [(show _ = Value.bool g from (Γ.k (d := 20) 1 rfl))]; exact rI_gives W g _ (nb (xs.take 12)) _ rfl (Γ.w (d := 24) 5 rfl))) ?_
    refine .pl rfl (fun _ _ W Γ => ev_moveM (Γ.m 0 rfl rfl)) ?_
    refine .pl rfl (fun _ _ W Γ => ev_call2 (Γ.f _) run_rI (by rw [Γ.c]; exact rI_gives W _ _ (nb (ys.take 12)) _ rfl (Γ.w (d := 26) 7 rfl))) ?_
    refine .pl rfl (fun _ _ W Γ => ev_call2 (Γ.f _) run_rQMake (rQMake_val W _ _ (sgn g (nb (xs.take 12))) ((nb (ys.take 12) : Nat) : Int) (oneQ n xs ys g) HM.out HD0.out HS.out.1 HS.out.2 (Γ.w (d := 25) 6 rfl) (Γ.w (d := 27) 8 rfl))) ?_
    refine .st 1 rfl rfl rfl (fun _ _ W Γ => ev_stP (Γ.s rfl) (Γ.u 1 rfl rfl) (Γ.w 9 rfl)) ?_
    exact .nil
  clear J; intro K9 hK9; simp only [fx]; intro _ f9 W9 J; refine hK9.out _ _ ?_; clear hK9
  refine wp_ret ?_
  obtain ⟨u0, hx0, hm0⟩ := J.out.get 1 rfl
  obtain ⟨gr0, pr0, lr0, cr0, qr0, kr0, dr0, rfl, c0_0, c0_1, c0_2⟩ := hx0.rfrac
  exact bodyPost_ret (v := .agg #[.bool gr0, .slice pr0 lr0 cr0, .slice qr0 kr0 dr0]) (by simp [results, Tryz.results6, go_sem, c0_0, c0_1, c0_2]) rfl ⟨_, rfl, hm0, J.out.be⟩
theorem one3_val (w : World) (u : Value) (n : Int) (xs ys : List Nat) (g : Bool) (h1r : -9223372036854775808 ≤ n) (h2r : n ≤ 9223372036854775807) (hx : ∀ x ∈ xs, x < 256) (hy : ∀ x ∈ ys, x < 256) (h : Means w (.that (rawS n xs ys g)) u) : Calls Tryz.prog 6 #[u] w (Gives w (.that (rfracS (oneQ n xs ys g)))) := by
  by_cases h0 : xs = []
  · exact one3_small w u n xs ys g h1r h2r hx hy h0 h
  · by_cases hz : nb (ys.take 12) = 0
    · exact one3_one w u n xs ys g h1r h2r hx hy h0 hz h
    · exact one3_any w u n xs ys g h1r h2r hx hy h0 hz h
end Go.Proofs.YtjhjlecnjkjbbaaGreatDoor
