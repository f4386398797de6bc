/- Texts of integers on both sides, and what of them fits 64 bits. -/
import Derived.Test.YtfjjmhbffbhhdaaGreatDoorIParse
import Derived.Test.YtfjjmhbffbhhdaaGreatDoorNTexts
import Derived.Test.YtfjjmhbffbhhdaaGreatDoorISums3
namespace Go.Proofs.YtfjjmhbffbhhdaaGreatDoor
open Go.RowKit

theorem run_rSmall : RowKit.Hid (∀ (a : Array Value) (w : World), Sem.run Tryz.prog (callFunc 26 a) w = .ok (.enter 26 a) w) := fun a w => by go_simp
section
variable {E : Operand → Value} {w : World} {d : Option Tmp} {ty : TypeId} {pos : String} {af : Array Edge} {gd : Option (Nat × Bool)}
theorem ev_leqU {x y : Operand} {a b : Int} (h1 : E x = .int .u64 a) (h2 : E y = .int .u64 b) {v : Bool} (hv : (decide (a ≤ b)) = v) : Does Tryz.prog ⟨d, .binOp .leq 23 x y 23, ty, pos, af, gd⟩ E w fun v' w' => v' = .bool v ∧ Below w.heap.size w w' :=
  Does.value (w' := w) (by go_simp) ⟨congrArg Value.bool hv, Below.refl _ _⟩
theorem ev_lssU {x y : Operand} {a b : Int} (h1 : E x = .int .u64 a) (h2 : E y = .int .u64 b) {v : Bool} (hv : (decide (a < b)) = v) : Does Tryz.prog ⟨d, .binOp .lss 23 x y 23, ty, pos, af, gd⟩ E w fun v' w' => v' = .bool v ∧ Below w.heap.size w w' :=
  Does.value (w' := w) (by go_simp) ⟨congrArg Value.bool hv, Below.refl _ _⟩
theorem ev_gtrU {x y : Operand} {a b : Int} (h1 : E x = .int .u64 a) (h2 : E y = .int .u64 b) {v : Bool} (hv : (decide (b < a)) = v) : Does Tryz.prog ⟨d, .binOp .gtr 23 x y 23, ty, pos, af, gd⟩ E w fun v' w' => v' = .bool v ∧ Below w.heap.size w w' :=
  Does.value (w' := w) (by go_simp) ⟨congrArg Value.bool hv, Below.refl _ _⟩
theorem ev_negU {x : Operand} {a b : Int} (h1 : E x = .int .u64 a) (hb : IntKind.u64.wrap (-a) = b) : Does Tryz.prog ⟨d, .unOp .neg 23 x, ty, pos, af, gd⟩ E w fun v' w' => v' = .int .u64 b ∧ Below w.heap.size w w' :=
  Does.value (v := .int .u64 b) (w' := w) (by go_simp) ⟨rfl, Below.refl _ _⟩
theorem ev_negI {x : Operand} {a b : Int} (h1 : E x = .int .i64 a) (hb : IntKind.i64.wrap (-a) = b) : Does Tryz.prog ⟨d, .unOp .neg 2 x, ty, pos, af, gd⟩ E w fun v' w' => v' = .int .i64 b ∧ Below w.heap.size w w' :=
  Does.value (v := .int .i64 b) (w' := w) (by go_simp) ⟨rfl, Below.refl _ _⟩
set_option maxRecDepth 100000 in
theorem ev_cvt {x : Operand} {a b : Int} (h1 : E x = .int .u64 a) (hb : IntKind.i64.wrap a = b) : Does Tryz.prog ⟨d, .convert 23 2 x, ty, pos, af, gd⟩ E w fun v' w' => v' = .int .i64 b ∧ Below w.heap.size w w' :=
  Does.value (v := .int .i64 b) (w' := w) (by go_simp) ⟨rfl, Below.refl _ _⟩
set_option maxRecDepth 100000 in
theorem ev_add45 {x y : Operand} {l : List UInt8} (h1 : E x = .string ⟨#[45]⟩) (h2 : E y = .string ⟨l.toArray⟩) (hl : l.length ≤ 1000) : Does Tryz.prog ⟨d, .binOp .add 9 x y 9, ty, pos, af, gd⟩ E w fun v' w' => v' = .string ⟨(45 :: l).toArray⟩ ∧ Below w.heap.size w w' := by
  obtain ⟨s, hs⟩ : ∃ s, s = ByteArray.mk l.toArray := ⟨_, rfl⟩
  rw [← hs] at h2
  have hsz : s.size = l.length := by rw [hs]; exact List.size_toArray
  have h9 : ¬ 9223372036854775807 < 1 + s.size := by omega
  have HS := Lib.hid hs
  clear hs hsz
  refine Does.value (v := .string (⟨#[45]⟩ ++ s)) (w' := w) (by go_simp) ⟨?_, Below.refl _ _⟩
  rw [HS.out]
  exact congrArg Value.string (str_app [45] l)
end
theorem dr_get (n i : Nat) : (dr n).getD i 0 = n / (2 ^ 32) ^ i % 2 ^ 32 := digs_getD (by omega) n i
set_option maxRecDepth 100000 in
set_option maxHeartbeats 2000000 in
theorem rsmall_lt (w : World) (u : Value) (n : Nat) (hn : n < 2 ^ 64) (h : Means w (.rnum n) u) : Calls Tryz.prog 26 #[u] w (Gives w (.two (.is (.int .u64 (n : Int))) (.is (.bool true)))) := by
  obtain ⟨p, l, c, rfl, h⟩ := h
  have hl : l ≤ 2 := by rw [h.1]; exact digs_length_le (b := 2 ^ 32) (by omega) (by omega)
  have H := Lib.hid h
  have HLN := Lib.hid h.1
  have HN := Lib.hid hn
  clear h hn
  go_enter Tryz.func26, Tryz.ntmps26
  go_wp2_with fail
  go_loopw [4, 5] (fun r i wr => ∃ (k : Nat) (x : Nat), k ≤ l ∧ i = .int .i64 ((k : Int) - 1) ∧ r = .int .u64 (x : Int) ∧ Hid (x = n / (2 ^ 32) ^ k) ∧ Hid (wr = w)) (fun _ i _ => (intOf i + 1).toNat)
  case atStart => exact ⟨l, 0, Nat.le_refl _, rfl, rfl, Lib.hid (by rw [HLN.out]; exact (Nat.div_eq_of_lt (lt_pow_digs (by omega) n)).symm), Lib.hid rfl⟩
  case round =>
    obtain ⟨k, x, hk, rfl, rfl, HX, HW⟩ := hrel
    obtain rfl := HW.out
    rcases Nat.eq_zero_or_pos k with hk0 | hk0
    · subst hk0
      have hx : x = n := by have := HX.out; rwa [Nat.pow_zero, Nat.div_one] at this
      subst hx
      clear HX
      go_wp2
      go_ret2
      exact ⟨_, rfl, ⟨_, _, rfl, rfl, rfl⟩, Below.refl _ _⟩
    · obtain ⟨j, rfl⟩ : ∃ j, k = j + 1 := ⟨k - 1, by omega⟩
      have hn0 : n ≠ 0 := fun e => by have := HLN.out; subst e; rw [dr_zero] at this; simp at this; omega
      obtain ⟨b, off, rfl, y1⟩ := H.out.2.2 hn0
      have c0 := y1 j (by rw [← HLN.out]; omega)
      have hy := dr_lt n _ (show (dr n).getD j 0 ∈ dr n from by rw [List.getD_eq_getElem?_getD, List.getElem?_eq_getElem (by rw [← HLN.out]; omega)]; exact List.getElem_mem _)
      have hst : x * 2 ^ 32 + (dr n).getD j 0 = n / (2 ^ 32) ^ j := by
        rw [dr_get, HX.out, Nat.pow_succ, ← Nat.div_div_eq_div_mul]; omega
      obtain ⟨y, hye⟩ : ∃ y, y = (dr n).getD j 0 := ⟨_, rfl⟩
      rw [← hye] at c0 hst hy
      have hle : n / (2 ^ 32) ^ j ≤ n := Nat.div_le_self _ _
      have hnn := HN.out
      obtain ⟨t, ht⟩ : ∃ t, t = x * 2 ^ 32 + y := ⟨_, rfl⟩
      have ht64 : t < 18446744073709551616 := by omega
      have hxl : x < 4294967296 := by omega
      have wor : bits .or .u64 ((x : Int) * 4294967296) (y : Int) = (t : Int) := by
        rw [show (x : Int) * 4294967296 = ((2 ^ 32 * x : Nat) : Int) from by omega, u64_or_nat _ _ (by omega) (by omega), ← Nat.two_pow_add_eq_or_of_lt hy, ht, Nat.mul_comm]
      have wsl : IntKind.u64.wrap ((x : Int) * 4294967296) = (x : Int) * 4294967296 := by rw [IntKind.wrap_u64]; omega
      have i0 : ((j + 1 : Nat) : Int) - 1 = (j : Int) := by omega
      rw [i0]
      have i1 : (0 : Int) ≤ j := by omega
      have i2 : ¬ (1 : Int) < j := by omega
      have i3 : j < l := by omega
      have i4 : (j : Int) < l := by omega
      have HT := Lib.hid (And.intro ht hst)
      clear ht hst hle hnn hye hn0 HX
      go_wp2
      go_roundw
      case rel => exact ⟨j, t, by omega, by go_num, rfl, Lib.hid (by rw [HT.out.1]; exact HT.out.2), Lib.hid (by first | exact trivial | rfl)⟩
      case measure => simp [intOf] <;> omega
set_option maxRecDepth 100000 in
set_option maxHeartbeats 2000000 in
theorem rsmall_ge (w : World) (u : Value) (n : Nat) (hn : 2 ^ 64 ≤ n) (hs : (ds n).length ≤ 6) (h : Means w (.rnum n) u) : Calls Tryz.prog 26 #[u] w (Gives w (.two (.is (.int .u64 0)) (.is (.bool false)))) := by
  obtain ⟨p, l, c, rfl, h⟩ := h
  have hl : 2 < l := by rw [h.1]; exact digs_length_lt (b := 2 ^ 32) (by omega) (by omega)
  have hl2 : l ≤ 12 := h.short hs
  clear h hn hs
  obtain ⟨t, ht⟩ : ∃ t, t = l - 1 := ⟨_, rfl⟩
  have h1 : (l : Int) - 1 = (t : Int) := by omega
  have h2 : IntKind.i64.wrap ((l : Int) - 1) = (t : Int) := by rw [IntKind.wrap_i64]; omega
  have h3 : (1 : Int) < t := by omega
  have h4 : (0 : Int) ≤ t := by omega
  have h5 : t ≤ 11 := by omega
  have h6 : IntKind.i64.wrap (t : Int) = (t : Int) := by rw [IntKind.wrap_i64]; omega
  clear ht hl hl2
  go_enter Tryz.func26, Tryz.ntmps26
  go_wp2_with fail
  go_loopw [4, 5] (fun r i wr => i = .int .i64 (t : Int) ∧ r = .int .u64 0 ∧ Hid (wr = w)) (fun _ _ _ => 0)
  case atStart => exact ⟨rfl, rfl, Lib.hid rfl⟩
  case round =>
    obtain ⟨rfl, rfl, HW⟩ := hrel
    obtain rfl := HW.out
    go_wp2
    go_ret2
    exact ⟨_, rfl, ⟨_, _, rfl, rfl, rfl⟩, Below.refl _ _⟩
set_option maxRecDepth 100000 in
set_option maxHeartbeats 4000000 in
theorem itext_neg (w : World) (u1 : Value) (x : Int) (hx : (ds x.natAbs).length ≤ 6) (hn : decide (x < 0) = true) (hT : TabP w) (h1 : Means w (.int x) u1) :
    Calls Tryz.prog 13 #[u1] w (Gives w (.is (.string ⟨(45 :: Lib.decDigits x.natAbs).toArray⟩))) := by
  obtain ⟨g1, s1, p1, l1, c1, rfl, h1⟩ := h1
  have H1 := Lib.hid h1; clear h1
  have HX := Lib.hid hx; have TB := Lib.hid hT; clear hT
  have HLE : Hid ((Lib.decDigits x.natAbs).length ≤ 1000) := Lib.hid (by have := dec_len_le 199 _ (six_words hx); omega)
  clear hx
  have HN := Lib.hid hn; clear hn
  go_enter Tryz.func13, Tryz.ntmps13
  have J := Frm.start (w := w) (V := []) fn
  refine wp_seq_h ?_; intro K1 hK1; go_wp2
  obtain ⟨W2, b2, eW2, eb2, sz2, J⟩ := Frm.putI J rfl H1.out
  rw [← eW2, ← eb2]
  clear eW2 eb2 sz2
  refine hK1.out _ _ ?_; clear hK1
  refine wp_seq_h ?_; intro K3 hK3
  refine region_c [4, 5] [.is (.pointer (some ⟨b2, 0, none⟩)), .is (.bool true)] [] [] [] J ?_ ?_
  · refine .pl rfl (fun _ _ W Γ => ev_faI0 (Γ.s rfl)) ?_
    refine .pl rfl (fun _ _ W Γ => ev_ldI0 (Γ.k 0 rfl) (Γ.l 0 rfl) HN.out) ?_
    exact .nil
  clear J; intro K4 hK4; simp only [fx]; intro _ f4 W4 J; refine hK4.out _ _ ?_; clear hK4
  refine wp_cond_true rfl ?_
  refine region_c [6, 7, 8, 9, 3] [.is (.pointer (some ⟨b2, 1, none⟩)), .num x.natAbs, .is (.string ⟨(Lib.decDigits x.natAbs).toArray⟩), .is (.string ⟨(45 :: Lib.decDigits x.natAbs).toArray⟩), .is (.string ⟨(45 :: Lib.decDigits x.natAbs).toArray⟩)] [] [] [] J ?_ ?_
  · refine .pl rfl (fun _ _ W Γ => ev_faI1 (Γ.s rfl)) ?_
    refine .pl rfl (fun _ _ W Γ => ev_ldI1 (Γ.k 0 rfl) (Γ.l 0 rfl) rfl) ?_
    refine .pl rfl (fun _ _ W Γ => ev_call1 (Γ.f _) run_nText (ntext_gives W _ x.natAbs HX.out (TB.out.mono Γ.be) (Γ.w (d := 6) 1 rfl))) ?_
    refine .pl rfl (fun _ _ W Γ => ev_add45 (Γ.c _) (Γ.k 2 rfl) HLE.out) ?_
    refine .pl rfl (fun _ _ W Γ => ev_assign _ (Γ.k 3 rfl)) ?_
    exact .nil
  clear J; intro K5 hK5; simp only [fx]; intro _ f5 W5 J; refine hK5.out _ _ ?_; clear hK5
  refine wp_ret ?_
  exact bodyPost_ret (v := .string ⟨(45 :: Lib.decDigits x.natAbs).toArray⟩) (by simp [results, Tryz.results13, go_sem]) rfl ⟨_, rfl, rfl, J.out.be⟩
set_option maxRecDepth 100000 in
set_option maxHeartbeats 4000000 in
theorem itext_pos (w : World) (u1 : Value) (x : Int) (hx : (ds x.natAbs).length ≤ 6) (hn : decide (x < 0) = false) (hT : TabP w) (h1 : Means w (.int x) u1) :
    Calls Tryz.prog 13 #[u1] w (Gives w (.is (.string ⟨(Lib.decDigits x.natAbs).toArray⟩))) := by
  obtain ⟨g1, s1, p1, l1, c1, rfl, h1⟩ := h1
  have H1 := Lib.hid h1; clear h1
  have HX := Lib.hid hx; have TB := Lib.hid hT; clear hT
  have HLE : Hid ((Lib.decDigits x.natAbs).length ≤ 1000) := Lib.hid (by have := dec_len_le 199 _ (six_words hx); omega)
  clear hx
  have HN := Lib.hid hn; clear hn
  go_enter Tryz.func13, Tryz.ntmps13
  have J := Frm.start (w := w) (V := []) fn
  refine wp_seq_h ?_; intro K1 hK1; go_wp2
  obtain ⟨W2, b2, eW2, eb2, sz2, J⟩ := Frm.putI J rfl H1.out
  rw [← eW2, ← eb2]
  clear eW2 eb2 sz2
  refine hK1.out _ _ ?_; clear hK1
  refine wp_seq_h ?_; intro K3 hK3
  refine region_c [4, 5] [.is (.pointer (some ⟨b2, 0, none⟩)), .is (.bool false)] [] [] [] J ?_ ?_
  · refine .pl rfl (fun _ _ W Γ => ev_faI0 (Γ.s rfl)) ?_
    refine .pl rfl (fun _ _ W Γ => ev_ldI0 (Γ.k 0 rfl) (Γ.l 0 rfl) HN.out) ?_
    exact .nil
  clear J; intro K4 hK4; simp only [fx]; intro _ f4 W4 J; refine hK4.out _ _ ?_; clear hK4
  refine wp_cond_false rfl ?_
  refine wp_skip ?_
  refine hK3.out _ _ ?_; clear hK3
  refine region_c [10, 11, 12, 3] [.is (.pointer (some ⟨b2, 1, none⟩)), .num x.natAbs, .is (.string ⟨(Lib.decDigits x.natAbs).toArray⟩), .is (.string ⟨(Lib.decDigits x.natAbs).toArray⟩)] [] [] [] J ?_ ?_
  · refine .pl rfl (fun _ _ W Γ => ev_faI1 (Γ.s rfl)) ?_
    refine .pl rfl (fun _ _ W Γ => ev_ldI1 (Γ.k 0 rfl) (Γ.l 0 rfl) rfl) ?_
    refine .pl rfl (fun _ _ W Γ => ev_call1 (Γ.f _) run_nText (ntext_gives W _ x.natAbs HX.out (TB.out.mono Γ.be) (Γ.w (d := 10) 1 rfl))) ?_
    refine .pl rfl (fun _ _ W Γ => ev_assign _ (Γ.k 2 rfl)) ?_
    exact .nil
  clear J; intro K5 hK5; simp only [fx]; intro _ f5 W5 J; refine hK5.out _ _ ?_; clear hK5
  refine wp_ret ?_
  exact bodyPost_ret (v := .string ⟨(Lib.decDigits x.natAbs).toArray⟩) (by simp [results, Tryz.results13, go_sem]) rfl ⟨_, rfl, rfl, J.out.be⟩
set_option maxRecDepth 100000 in
set_option maxHeartbeats 4000000 in
theorem ritext_neg (w : World) (u1 : Value) (x : Int) (hx : (ds x.natAbs).length ≤ 6) (hn : decide (x < 0) = true)  (h1 : Means w (.rint x) u1) :
    Calls Tryz.prog 14 #[u1] w (Gives w (.is (.string ⟨(45 :: Lib.decDigits x.natAbs).toArray⟩))) := by
  obtain ⟨g1, p1, l1, c1, rfl, h1⟩ := h1
  have H1 := Lib.hid h1; clear h1
  have HX := Lib.hid hx
  have HLE : Hid ((Lib.decDigits x.natAbs).length ≤ 1000) := Lib.hid (by have := dec_len_le 199 _ (six_words hx); omega)
  clear hx
  have HN := Lib.hid hn; clear hn
  go_enter Tryz.func14, Tryz.ntmps14
  have J := Frm.start (w := w) (V := []) fn
  refine wp_seq_h ?_; intro K1 hK1; go_wp2
  obtain ⟨W2, b2, eW2, eb2, sz2, J⟩ := Frm.putR J rfl H1.out
  rw [← eW2, ← eb2]
  clear eW2 eb2 sz2
  refine hK1.out _ _ ?_; clear hK1
  refine wp_seq_h ?_; intro K3 hK3
  refine region_c [4, 5] [.is (.pointer (some ⟨b2, 0, none⟩)), .is (.bool true)] [] [] [] J ?_ ?_
  · refine .pl rfl (fun _ _ W Γ => ev_faR0 (Γ.s rfl)) ?_
    refine .pl rfl (fun _ _ W Γ => ev_ldR0 (Γ.k 0 rfl) (Γ.l 0 rfl) HN.out) ?_
    exact .nil
  clear J; intro K4 hK4; simp only [fx]; intro _ f4 W4 J; refine hK4.out _ _ ?_; clear hK4
  refine wp_cond_true rfl ?_
  refine region_c [6, 7, 8, 9, 3] [.is (.pointer (some ⟨b2, 1, none⟩)), .rnum x.natAbs, .is (.string ⟨(Lib.decDigits x.natAbs).toArray⟩), .is (.string ⟨(45 :: Lib.decDigits x.natAbs).toArray⟩), .is (.string ⟨(45 :: Lib.decDigits x.natAbs).toArray⟩)] [] [] [] J ?_ ?_
  · refine .pl rfl (fun _ _ W Γ => ev_faR1 (Γ.s rfl)) ?_
    refine .pl rfl (fun _ _ W Γ => ev_ldR1 (Γ.k 0 rfl) (Γ.l 0 rfl) rfl) ?_
    refine .pl rfl (fun _ _ W Γ => ev_call1 (Γ.f _) run_rText (rtext_gives W _ x.natAbs HX.out (Γ.w (d := 6) 1 rfl))) ?_
    refine .pl rfl (fun _ _ W Γ => ev_add45 (Γ.c _) (Γ.k 2 rfl) HLE.out) ?_
    refine .pl rfl (fun _ _ W Γ => ev_assign _ (Γ.k 3 rfl)) ?_
    exact .nil
  clear J; intro K5 hK5; simp only [fx]; intro _ f5 W5 J; refine hK5.out _ _ ?_; clear hK5
  refine wp_ret ?_
  exact bodyPost_ret (v := .string ⟨(45 :: Lib.decDigits x.natAbs).toArray⟩) (by simp [results, Tryz.results14, go_sem]) rfl ⟨_, rfl, rfl, J.out.be⟩
set_option maxRecDepth 100000 in
set_option maxHeartbeats 4000000 in
theorem ritext_pos (w : World) (u1 : Value) (x : Int) (hx : (ds x.natAbs).length ≤ 6) (hn : decide (x < 0) = false)  (h1 : Means w (.rint x) u1) :
    Calls Tryz.prog 14 #[u1] w (Gives w (.is (.string ⟨(Lib.decDigits x.natAbs).toArray⟩))) := by
  obtain ⟨g1, p1, l1, c1, rfl, h1⟩ := h1
  have H1 := Lib.hid h1; clear h1
  have HX := Lib.hid hx
  have HLE : Hid ((Lib.decDigits x.natAbs).length ≤ 1000) := Lib.hid (by have := dec_len_le 199 _ (six_words hx); omega)
  clear hx
  have HN := Lib.hid hn; clear hn
  go_enter Tryz.func14, Tryz.ntmps14
  have J := Frm.start (w := w) (V := []) fn
  refine wp_seq_h ?_; intro K1 hK1; go_wp2
  obtain ⟨W2, b2, eW2, eb2, sz2, J⟩ := Frm.putR J rfl H1.out
  rw [← eW2, ← eb2]
  clear eW2 eb2 sz2
  refine hK1.out _ _ ?_; clear hK1
  refine wp_seq_h ?_; intro K3 hK3
  refine region_c [4, 5] [.is (.pointer (some ⟨b2, 0, none⟩)), .is (.bool false)] [] [] [] J ?_ ?_
  · refine .pl rfl (fun _ _ W Γ => ev_faR0 (Γ.s rfl)) ?_
    refine .pl rfl (fun _ _ W Γ => ev_ldR0 (Γ.k 0 rfl) (Γ.l 0 rfl) HN.out) ?_
    exact .nil
  clear J; intro K4 hK4; simp only [fx]; intro _ f4 W4 J; refine hK4.out _ _ ?_; clear hK4
  refine wp_cond_false rfl ?_
  refine wp_skip ?_
  refine hK3.out _ _ ?_; clear hK3
  refine region_c [10, 11, 12, 3] [.is (.pointer (some ⟨b2, 1, none⟩)), .rnum x.natAbs, .is (.string ⟨(Lib.decDigits x.natAbs).toArray⟩), .is (.string ⟨(Lib.decDigits x.natAbs).toArray⟩)] [] [] [] J ?_ ?_
  · refine .pl rfl (fun _ _ W Γ => ev_faR1 (Γ.s rfl)) ?_
    refine .pl rfl (fun _ _ W Γ => ev_ldR1 (Γ.k 0 rfl) (Γ.l 0 rfl) rfl) ?_
    refine .pl rfl (fun _ _ W Γ => ev_call1 (Γ.f _) run_rText (rtext_gives W _ x.natAbs HX.out (Γ.w (d := 10) 1 rfl))) ?_
    refine .pl rfl (fun _ _ W Γ => ev_assign _ (Γ.k 2 rfl)) ?_
    exact .nil
  clear J; intro K5 hK5; simp only [fx]; intro _ f5 W5 J; refine hK5.out _ _ ?_; clear hK5
  refine wp_ret ?_
  exact bodyPost_ret (v := .string ⟨(Lib.decDigits x.natAbs).toArray⟩) (by simp [results, Tryz.results14, go_sem]) rfl ⟨_, rfl, rfl, J.out.be⟩
set_option maxRecDepth 100000 in
set_option maxHeartbeats 4000000 in
theorem ismallv_far (w : World) (u1 : Value) (x : Int) (hx : 2 ^ 64 ≤ x.natAbs ∧ (ds x.natAbs).length ≤ 6) (h1 : Means w (.int x) u1) :
    Calls Tryz.prog 8 #[u1] w (Gives w (.two (.is (.int .i64 0)) (.is (.bool false)))) := by
  obtain ⟨g1, s1, p1, l1, c1, rfl, h1⟩ := h1
  have H1 := Lib.hid h1; clear h1
  have HX := Lib.hid hx; clear hx
  go_enter Tryz.func8, Tryz.ntmps8
  have J := Frm.start (w := w) (V := []) fn
  refine wp_seq_h ?_; intro K1 hK1; go_wp2
  obtain ⟨W2, b2, eW2, eb2, sz2, J⟩ := Frm.putI J rfl H1.out
  rw [← eW2, ← eb2]
  clear eW2 eb2 sz2
  refine hK1.out _ _ ?_; clear hK1
  refine region_c [8, 9, 10, 7, 11, 12, 5, 6] [.is (.pointer (some ⟨b2, 1, none⟩)), .num x.natAbs, .two (.is (.int .u64 0)) (.is (.bool false)), .two (.is (.int .u64 0)) (.is (.bool false)), .is (.int .u64 0), .is (.bool false), .is (.int .u64 0), .is (.bool false)] [] [] [] J ?_ ?_
  · refine .pl rfl (fun _ _ W Γ => ev_faI1 (Γ.s rfl)) ?_
    refine .pl rfl (fun _ _ W Γ => ev_ldI1 (Γ.k 0 rfl) (Γ.l 0 rfl) rfl) ?_
    refine .pl rfl (fun _ _ W Γ => ev_call1 (Γ.f _) run_nSmall (small_ge W _ x.natAbs HX.out.1 (Γ.w (d := 8) 1 rfl))) ?_
    refine .pl rfl (fun _ _ W Γ => ev_moveM (Γ.w 2 rfl)) ?_
    refine .pl rfl (fun _ _ W Γ => ev_ex20 (Γ.w 3 rfl)) ?_
    refine .pl rfl (fun _ _ W Γ => ev_ex21 (Γ.w 3 rfl)) ?_
    refine .pl rfl (fun _ _ W Γ => ev_assign _ (Γ.k 4 rfl)) ?_
    refine .pl rfl (fun _ _ W Γ => ev_assign _ (Γ.k 5 rfl)) ?_
    exact .nil
  clear J; intro K3 hK3; simp only [fx]; intro _ f3 W3 J; refine hK3.out _ _ ?_; clear hK3
  refine wp_seq_h ?_; intro K4 hK4
  refine wp_block ?_
  refine region_c [14, 15, 16, 17, 18, 19, 20, 21, 22, 13] [.is (.bool false), .is (.bool false), .is undef, .is undef, .is (.bool false), .is (.bool false), .is undef, .is undef, .is (.bool false), .is (.bool false)] [] [] [] J ?_ ?_
  · refine .pl rfl (fun _ _ W Γ => ev_move _ (Γ.s rfl)) ?_
    refine .pl rfl (fun _ _ W Γ => ev_move _ (Γ.k 0 rfl)) ?_
    refine .off rfl rfl rfl rfl ?_
    refine .off rfl rfl rfl rfl ?_
    refine .pl rfl (fun _ _ W Γ => ev_pick (Γ.k 1 rfl) (Γ.c _)) ?_
    refine .pl rfl (fun _ _ W Γ => ev_move _ (Γ.k 4 rfl)) ?_
    refine .off rfl rfl rfl rfl ?_
    refine .off rfl rfl rfl rfl ?_
    refine .pl rfl (fun _ _ W Γ => ev_pick (Γ.k 5 rfl) (Γ.c _)) ?_
    refine .pl rfl (fun _ _ W Γ => ev_assign _ (Γ.k 8 rfl)) ?_
    exact .nil
  clear J; intro K5 hK5; simp only [fx]; intro _ f5 W5 J; refine hK5.out _ _ ?_; clear hK5
  refine wp_cond_false rfl ?_
  refine region_c [27, 28, 29, 30, 31, 32, 33, 34, 35, 36, 26] [.is (.bool false), .is (.bool false), .is undef, .is undef, .is undef, .is (.bool false), .is (.bool false), .is undef, .is undef, .is (.bool false), .is (.bool false)] [] [] [] J ?_ ?_
  · refine .pl rfl (fun _ _ W Γ => ev_move _ (Γ.s rfl)) ?_
    refine .pl rfl (fun _ _ W Γ => ev_move _ (Γ.k 0 rfl)) ?_
    refine .off rfl rfl rfl rfl ?_
    refine .off rfl rfl rfl rfl ?_
    refine .off rfl rfl rfl rfl ?_
    refine .pl rfl (fun _ _ W Γ => ev_pick (Γ.k 1 rfl) (Γ.c _)) ?_
    refine .pl rfl (fun _ _ W Γ => ev_move _ (Γ.k 5 rfl)) ?_
    refine .off rfl rfl rfl rfl ?_
    refine .off rfl rfl rfl rfl ?_
    refine .pl rfl (fun _ _ W Γ => ev_pick (Γ.k 6 rfl) (Γ.c _)) ?_
    refine .pl rfl (fun _ _ W Γ => ev_assign _ (Γ.k 9 rfl)) ?_
    exact .nil
  clear J; intro K6 hK6; simp only [fx]; intro _ f6 W6 J; refine hK6.out _ _ ?_; clear hK6
  refine wp_cond_false rfl ?_
  refine wp_skip ?_
  refine hK4.out _ _ ?_; clear hK4
  refine region_c [3, 4] [.is (.int .i64 0), .is (.bool false)] [] [] [] J ?_ ?_
  · refine .pl rfl (fun _ _ W Γ => ev_assign _ (Γ.c _)) ?_
    refine .pl rfl (fun _ _ W Γ => ev_assign _ (Γ.c _)) ?_
    exact .nil
  clear J; intro K7 hK7; simp only [fx]; intro _ f7 W7 J; refine hK7.out _ _ ?_; clear hK7
  refine wp_ret ?_
  exact bodyPost_ret (v := .tuple #[.int .i64 0, .bool false]) (by simp [results, Tryz.results8, go_sem]) rfl ⟨_, rfl, ⟨_, _, rfl, rfl, rfl⟩, J.out.be⟩
set_option maxRecDepth 100000 in
set_option maxHeartbeats 4000000 in
theorem ismallv_neg (w : World) (u1 : Value) (x : Int) (hx : x < 0 ∧ x.natAbs ≤ 9223372036854775808) (h1 : Means w (.int x) u1) :
    Calls Tryz.prog 8 #[u1] w (Gives w (.two (.is (.int .i64 x)) (.is (.bool true)))) := by
  obtain ⟨g1, s1, p1, l1, c1, rfl, h1⟩ := h1
  have H1 := Lib.hid h1; clear h1
  have HX := Lib.hid hx; clear hx
  go_enter Tryz.func8, Tryz.ntmps8
  have J := Frm.start (w := w) (V := []) fn
  refine wp_seq_h ?_; intro K1 hK1; go_wp2
  obtain ⟨W2, b2, eW2, eb2, sz2, J⟩ := Frm.putI J rfl H1.out
  rw [← eW2, ← eb2]
  clear eW2 eb2 sz2
  refine hK1.out _ _ ?_; clear hK1
  refine region_c [8, 9, 10, 7, 11, 12, 5, 6] [.is (.pointer (some ⟨b2, 1, none⟩)), .num x.natAbs, .two (.is (.int .u64 ((x.natAbs : Nat) : Int))) (.is (.bool true)), .two (.is (.int .u64 ((x.natAbs : Nat) : Int))) (.is (.bool true)), .is (.int .u64 ((x.natAbs : Nat) : Int)), .is (.bool true), .is (.int .u64 ((x.natAbs : Nat) : Int)), .is (.bool true)] [] [] [] J ?_ ?_
  · refine .pl rfl (fun _ _ W Γ => ev_faI1 (Γ.s rfl)) ?_
    refine .pl rfl (fun _ _ W Γ => ev_ldI1 (Γ.k 0 rfl) (Γ.l 0 rfl) rfl) ?_
    refine .pl rfl (fun _ _ W Γ => ev_call1 (Γ.f _) run_nSmall (small_lt W _ x.natAbs (by have := HX.out; omega) (Γ.w (d := 8) 1 rfl))) ?_
    refine .pl rfl (fun _ _ W Γ => ev_moveM (Γ.w 2 rfl)) ?_
    refine .pl rfl (fun _ _ W Γ => ev_ex20 (Γ.w 3 rfl)) ?_
    refine .pl rfl (fun _ _ W Γ => ev_ex21 (Γ.w 3 rfl)) ?_
    refine .pl rfl (fun _ _ W Γ => ev_assign _ (Γ.k 4 rfl)) ?_
    refine .pl rfl (fun _ _ W Γ => ev_assign _ (Γ.k 5 rfl)) ?_
    exact .nil
  clear J; intro K3 hK3; simp only [fx]; intro _ f3 W3 J; refine hK3.out _ _ ?_; clear hK3
  refine wp_seq_h ?_; intro K4 hK4
  refine wp_block ?_
  refine region_c [14, 15, 16, 17, 18, 19, 20, 21, 22, 13] [.is (.bool true), .is (.bool true), .is (.pointer (some ⟨b2, 0, none⟩)), .is (.bool true), .is (.bool true), .is (.bool true), .is (.int .u64 ((x.natAbs : Nat) : Int)), .is (.bool true), .is (.bool true), .is (.bool true)] [] [] [] J ?_ ?_
  · refine .pl rfl (fun _ _ W Γ => ev_move _ (Γ.s rfl)) ?_
    refine .pl rfl (fun _ _ W Γ => ev_move _ (Γ.k 0 rfl)) ?_
    refine .gu rfl rfl rfl rfl (fun _ _ W Γ => ev_faI0 (Γ.s rfl)) ?_
    refine .gu rfl rfl rfl rfl (fun _ _ W Γ => ev_ldI0 (Γ.k 2 rfl) (Γ.l 0 rfl) (decide_eq_true HX.out.1)) ?_
    refine .pl rfl (fun _ _ W Γ => ev_pick (Γ.k 1 rfl) (Γ.k 3 rfl)) ?_
    refine .pl rfl (fun _ _ W Γ => ev_move _ (Γ.k 4 rfl)) ?_
    refine .gu rfl rfl rfl rfl (fun _ _ W Γ => ev_move _ (Γ.s rfl)) ?_
    refine .gu rfl rfl rfl rfl (fun _ _ W Γ => ev_leqU (Γ.k 6 rfl) (Γ.c _) (decide_eq_true (by have := HX.out; omega))) ?_
    refine .pl rfl (fun _ _ W Γ => ev_pick (Γ.k 5 rfl) (Γ.k 7 rfl)) ?_
    refine .pl rfl (fun _ _ W Γ => ev_assign _ (Γ.k 8 rfl)) ?_
    exact .nil
  clear J; intro K5 hK5; simp only [fx]; intro _ f5 W5 J; refine hK5.out _ _ ?_; clear hK5
  refine wp_cond_true rfl ?_
  refine region_c [23, 24, 25, 3, 4] [.is (.int .u64 ((x.natAbs : Nat) : Int)), .is (.int .u64 ((18446744073709551616 - x.natAbs : Nat) : Int)), .is (.int .i64 x), .is (.int .i64 x), .is (.bool true)] [] [] [] J ?_ ?_
  · refine .pl rfl (fun _ _ W Γ => ev_move _ (Γ.s rfl)) ?_
    refine .pl rfl (fun _ _ W Γ => ev_negU (Γ.k 0 rfl) (by rw [IntKind.wrap_u64]; have := HX.out; omega)) ?_
    refine .pl rfl (fun _ _ W Γ => ev_cvt (Γ.k 1 rfl) (by rw [IntKind.wrap_i64]; have := HX.out; omega)) ?_
    refine .pl rfl (fun _ _ W Γ => ev_assign _ (Γ.k 2 rfl)) ?_
    refine .pl rfl (fun _ _ W Γ => ev_assign _ (Γ.c _)) ?_
    exact .nil
  clear J; intro K6 hK6; simp only [fx]; intro _ f6 W6 J; refine hK6.out _ _ ?_; clear hK6
  refine wp_ret ?_
  exact bodyPost_ret (v := .tuple #[.int .i64 x, .bool true]) (by simp [results, Tryz.results8, go_sem]) rfl ⟨_, rfl, ⟨_, _, rfl, rfl, rfl⟩, J.out.be⟩
set_option maxRecDepth 100000 in
set_option maxHeartbeats 4000000 in
theorem ismallv_low (w : World) (u1 : Value) (x : Int) (hx : x < 0 ∧ 9223372036854775808 < x.natAbs ∧ x.natAbs < 2 ^ 64) (h1 : Means w (.int x) u1) :
    Calls Tryz.prog 8 #[u1] w (Gives w (.two (.is (.int .i64 0)) (.is (.bool false)))) := by
  obtain ⟨g1, s1, p1, l1, c1, rfl, h1⟩ := h1
  have H1 := Lib.hid h1; clear h1
  have HX := Lib.hid hx; clear hx
  go_enter Tryz.func8, Tryz.ntmps8
  have J := Frm.start (w := w) (V := []) fn
  refine wp_seq_h ?_; intro K1 hK1; go_wp2
  obtain ⟨W2, b2, eW2, eb2, sz2, J⟩ := Frm.putI J rfl H1.out
  rw [← eW2, ← eb2]
  clear eW2 eb2 sz2
  refine hK1.out _ _ ?_; clear hK1
  refine region_c [8, 9, 10, 7, 11, 12, 5, 6] [.is (.pointer (some ⟨b2, 1, none⟩)), .num x.natAbs, .two (.is (.int .u64 ((x.natAbs : Nat) : Int))) (.is (.bool true)), .two (.is (.int .u64 ((x.natAbs : Nat) : Int))) (.is (.bool true)), .is (.int .u64 ((x.natAbs : Nat) : Int)), .is (.bool true), .is (.int .u64 ((x.natAbs : Nat) : Int)), .is (.bool true)] [] [] [] J ?_ ?_
  · refine .pl rfl (fun _ _ W Γ => ev_faI1 (Γ.s rfl)) ?_
    refine .pl rfl (fun _ _ W Γ => ev_ldI1 (Γ.k 0 rfl) (Γ.l 0 rfl) rfl) ?_
    refine .pl rfl (fun _ _ W Γ => ev_call1 (Γ.f _) run_nSmall (small_lt W _ x.natAbs (by have := HX.out; omega) (Γ.w (d := 8) 1 rfl))) ?_
    refine .pl rfl (fun _ _ W Γ => ev_moveM (Γ.w 2 rfl)) ?_
    refine .pl rfl (fun _ _ W Γ => ev_ex20 (Γ.w 3 rfl)) ?_
    refine .pl rfl (fun _ _ W Γ => ev_ex21 (Γ.w 3 rfl)) ?_
    refine .pl rfl (fun _ _ W Γ => ev_assign _ (Γ.k 4 rfl)) ?_
    refine .pl rfl (fun _ _ W Γ => ev_assign _ (Γ.k 5 rfl)) ?_
    exact .nil
  clear J; intro K3 hK3; simp only [fx]; intro _ f3 W3 J; refine hK3.out _ _ ?_; clear hK3
  refine wp_seq_h ?_; intro K4 hK4
  refine wp_block ?_
  refine region_c [14, 15, 16, 17, 18, 19, 20, 21, 22, 13] [.is (.bool true), .is (.bool true), .is (.pointer (some ⟨b2, 0, none⟩)), .is (.bool true), .is (.bool true), .is (.bool true), .is (.int .u64 ((x.natAbs : Nat) : Int)), .is (.bool false), .is (.bool false), .is (.bool false)] [] [] [] J ?_ ?_
  · refine .pl rfl (fun _ _ W Γ => ev_move _ (Γ.s rfl)) ?_
    refine .pl rfl (fun _ _ W Γ => ev_move _ (Γ.k 0 rfl)) ?_
    refine .gu rfl rfl rfl rfl (fun _ _ W Γ => ev_faI0 (Γ.s rfl)) ?_
    refine .gu rfl rfl rfl rfl (fun _ _ W Γ => ev_ldI0 (Γ.k 2 rfl) (Γ.l 0 rfl) (decide_eq_true HX.out.1)) ?_
    refine .pl rfl (fun _ _ W Γ => ev_pick (Γ.k 1 rfl) (Γ.k 3 rfl)) ?_
    refine .pl rfl (fun _ _ W Γ => ev_move _ (Γ.k 4 rfl)) ?_
    refine .gu rfl rfl rfl rfl (fun _ _ W Γ => ev_move _ (Γ.s rfl)) ?_
    refine .gu rfl rfl rfl rfl (fun _ _ W Γ => ev_leqU (Γ.k 6 rfl) (Γ.c _) (decide_eq_false (by have := HX.out; omega))) ?_
    refine .pl rfl (fun _ _ W Γ => ev_pick (Γ.k 5 rfl) (Γ.k 7 rfl)) ?_
    refine .pl rfl (fun _ _ W Γ => ev_assign _ (Γ.k 8 rfl)) ?_
    exact .nil
  clear J; intro K5 hK5; simp only [fx]; intro _ f5 W5 J; refine hK5.out _ _ ?_; clear hK5
  refine wp_cond_false rfl ?_
  refine region_c [27, 28, 29, 30, 31, 32, 33, 34, 35, 36, 26] [.is (.bool true), .is (.bool true), .is (.pointer (some ⟨b2, 0, none⟩)), .is (.bool true), .is (.bool false), .is (.bool false), .is (.bool false), .is undef, .is undef, .is (.bool false), .is (.bool false)] [] [] [] J ?_ ?_
  · refine .pl rfl (fun _ _ W Γ => ev_move _ (Γ.s rfl)) ?_
    refine .pl rfl (fun _ _ W Γ => ev_move _ (Γ.k 0 rfl)) ?_
    refine .gu rfl rfl rfl rfl (fun _ _ W Γ => ev_faI0 (Γ.s rfl)) ?_
    refine .gu rfl rfl rfl rfl (fun _ _ W Γ => ev_ldI0 (Γ.k 2 rfl) (Γ.l 0 rfl) (decide_eq_true HX.out.1)) ?_
    refine .gu rfl rfl rfl rfl (fun _ _ W Γ => ev_not (Γ.k 3 rfl) rfl) ?_
    refine .pl rfl (fun _ _ W Γ => ev_pick (Γ.k 1 rfl) (Γ.k 4 rfl)) ?_
    refine .pl rfl (fun _ _ W Γ => ev_move _ (Γ.k 5 rfl)) ?_
    refine .off rfl rfl rfl rfl ?_
    refine .off rfl rfl rfl rfl ?_
    refine .pl rfl (fun _ _ W Γ => ev_pick (Γ.k 6 rfl) (Γ.c _)) ?_
    refine .pl rfl (fun _ _ W Γ => ev_assign _ (Γ.k 9 rfl)) ?_
    exact .nil
  clear J; intro K6 hK6; simp only [fx]; intro _ f6 W6 J; refine hK6.out _ _ ?_; clear hK6
  refine wp_cond_false rfl ?_
  refine wp_skip ?_
  refine hK4.out _ _ ?_; clear hK4
  refine region_c [3, 4] [.is (.int .i64 0), .is (.bool false)] [] [] [] J ?_ ?_
  · refine .pl rfl (fun _ _ W Γ => ev_assign _ (Γ.c _)) ?_
    refine .pl rfl (fun _ _ W Γ => ev_assign _ (Γ.c _)) ?_
    exact .nil
  clear J; intro K7 hK7; simp only [fx]; intro _ f7 W7 J; refine hK7.out _ _ ?_; clear hK7
  refine wp_ret ?_
  exact bodyPost_ret (v := .tuple #[.int .i64 0, .bool false]) (by simp [results, Tryz.results8, go_sem]) rfl ⟨_, rfl, ⟨_, _, rfl, rfl, rfl⟩, J.out.be⟩
set_option maxRecDepth 100000 in
set_option maxHeartbeats 4000000 in
theorem ismallv_pos (w : World) (u1 : Value) (x : Int) (hx : 0 ≤ x ∧ x.natAbs < 9223372036854775808) (h1 : Means w (.int x) u1) :
    Calls Tryz.prog 8 #[u1] w (Gives w (.two (.is (.int .i64 x)) (.is (.bool true)))) := by
  obtain ⟨g1, s1, p1, l1, c1, rfl, h1⟩ := h1
  have H1 := Lib.hid h1; clear h1
  have HX := Lib.hid hx; clear hx
  go_enter Tryz.func8, Tryz.ntmps8
  have J := Frm.start (w := w) (V := []) fn
  refine wp_seq_h ?_; intro K1 hK1; go_wp2
  obtain ⟨W2, b2, eW2, eb2, sz2, J⟩ := Frm.putI J rfl H1.out
  rw [← eW2, ← eb2]
  clear eW2 eb2 sz2
  refine hK1.out _ _ ?_; clear hK1
  refine region_c [8, 9, 10, 7, 11, 12, 5, 6] [.is (.pointer (some ⟨b2, 1, none⟩)), .num x.natAbs, .two (.is (.int .u64 ((x.natAbs : Nat) : Int))) (.is (.bool true)), .two (.is (.int .u64 ((x.natAbs : Nat) : Int))) (.is (.bool true)), .is (.int .u64 ((x.natAbs : Nat) : Int)), .is (.bool true), .is (.int .u64 ((x.natAbs : Nat) : Int)), .is (.bool true)] [] [] [] J ?_ ?_
  · refine .pl rfl (fun _ _ W Γ => ev_faI1 (Γ.s rfl)) ?_
    refine .pl rfl (fun _ _ W Γ => ev_ldI1 (Γ.k 0 rfl) (Γ.l 0 rfl) rfl) ?_
    refine .pl rfl (fun _ _ W Γ => ev_call1 (Γ.f _) run_nSmall (small_lt W _ x.natAbs (by have := HX.out; omega) (Γ.w (d := 8) 1 rfl))) ?_
    refine .pl rfl (fun _ _ W Γ => ev_moveM (Γ.w 2 rfl)) ?_
    refine .pl rfl (fun _ _ W Γ => ev_ex20 (Γ.w 3 rfl)) ?_
    refine .pl rfl (fun _ _ W Γ => ev_ex21 (Γ.w 3 rfl)) ?_
    refine .pl rfl (fun _ _ W Γ => ev_assign _ (Γ.k 4 rfl)) ?_
    refine .pl rfl (fun _ _ W Γ => ev_assign _ (Γ.k 5 rfl)) ?_
    exact .nil
  clear J; intro K3 hK3; simp only [fx]; intro _ f3 W3 J; refine hK3.out _ _ ?_; clear hK3
  refine wp_seq_h ?_; intro K4 hK4
  refine wp_block ?_
  refine region_c [14, 15, 16, 17, 18, 19, 20, 21, 22, 13] [.is (.bool true), .is (.bool true), .is (.pointer (some ⟨b2, 0, none⟩)), .is (.bool false), .is (.bool false), .is (.bool false), .is undef, .is undef, .is (.bool false), .is (.bool false)] [] [] [] J ?_ ?_
  · refine .pl rfl (fun _ _ W Γ => ev_move _ (Γ.s rfl)) ?_
    refine .pl rfl (fun _ _ W Γ => ev_move _ (Γ.k 0 rfl)) ?_
    refine .gu rfl rfl rfl rfl (fun _ _ W Γ => ev_faI0 (Γ.s rfl)) ?_
    refine .gu rfl rfl rfl rfl (fun _ _ W Γ => ev_ldI0 (Γ.k 2 rfl) (Γ.l 0 rfl) (decide_eq_false (by have := HX.out; omega))) ?_
    refine .pl rfl (fun _ _ W Γ => ev_pick (Γ.k 1 rfl) (Γ.k 3 rfl)) ?_
    refine .pl rfl (fun _ _ W Γ => ev_move _ (Γ.k 4 rfl)) ?_
    refine .off rfl rfl rfl rfl ?_
    refine .off rfl rfl rfl rfl ?_
    refine .pl rfl (fun _ _ W Γ => ev_pick (Γ.k 5 rfl) (Γ.c _)) ?_
    refine .pl rfl (fun _ _ W Γ => ev_assign _ (Γ.k 8 rfl)) ?_
    exact .nil
  clear J; intro K5 hK5; simp only [fx]; intro _ f5 W5 J; refine hK5.out _ _ ?_; clear hK5
  refine wp_cond_false rfl ?_
  refine region_c [27, 28, 29, 30, 31, 32, 33, 34, 35, 36, 26] [.is (.bool true), .is (.bool true), .is (.pointer (some ⟨b2, 0, none⟩)), .is (.bool false), .is (.bool true), .is (.bool true), .is (.bool true), .is (.int .u64 ((x.natAbs : Nat) : Int)), .is (.bool true), .is (.bool true), .is (.bool true)] [] [] [] J ?_ ?_
  · refine .pl rfl (fun _ _ W Γ => ev_move _ (Γ.s rfl)) ?_
    refine .pl rfl (fun _ _ W Γ => ev_move _ (Γ.k 0 rfl)) ?_
    refine .gu rfl rfl rfl rfl (fun _ _ W Γ => ev_faI0 (Γ.s rfl)) ?_
    refine .gu rfl rfl rfl rfl (fun _ _ W Γ => ev_ldI0 (Γ.k 2 rfl) (Γ.l 0 rfl) (decide_eq_false (by have := HX.out; omega))) ?_
    refine .gu rfl rfl rfl rfl (fun _ _ W Γ => ev_not (Γ.k 3 rfl) rfl) ?_
    refine .pl rfl (fun _ _ W Γ => ev_pick (Γ.k 1 rfl) (Γ.k 4 rfl)) ?_
    refine .pl rfl (fun _ _ W Γ => ev_move _ (Γ.k 5 rfl)) ?_
    refine .gu rfl rfl rfl rfl (fun _ _ W Γ => ev_move _ (Γ.s rfl)) ?_
    refine .gu rfl rfl rfl rfl (fun _ _ W Γ => ev_lssU (Γ.k 7 rfl) (Γ.c _) (decide_eq_true (by have := HX.out; omega))) ?_
    refine .pl rfl (fun _ _ W Γ => ev_pick (Γ.k 6 rfl) (Γ.k 8 rfl)) ?_
    refine .pl rfl (fun _ _ W Γ => ev_assign _ (Γ.k 9 rfl)) ?_
    exact .nil
  clear J; intro K6 hK6; simp only [fx]; intro _ f6 W6 J; refine hK6.out _ _ ?_; clear hK6
  refine wp_cond_true rfl ?_
  refine region_c [37, 38, 3, 4] [.is (.int .u64 ((x.natAbs : Nat) : Int)), .is (.int .i64 x), .is (.int .i64 x), .is (.bool true)] [] [] [] J ?_ ?_
  · refine .pl rfl (fun _ _ W Γ => ev_move _ (Γ.s rfl)) ?_
    refine .pl rfl (fun _ _ W Γ => ev_cvt (Γ.k 0 rfl) (by rw [IntKind.wrap_i64]; have := HX.out; omega)) ?_
    refine .pl rfl (fun _ _ W Γ => ev_assign _ (Γ.k 1 rfl)) ?_
    refine .pl rfl (fun _ _ W Γ => ev_assign _ (Γ.c _)) ?_
    exact .nil
  clear J; intro K7 hK7; simp only [fx]; intro _ f7 W7 J; refine hK7.out _ _ ?_; clear hK7
  refine wp_ret ?_
  exact bodyPost_ret (v := .tuple #[.int .i64 x, .bool true]) (by simp [results, Tryz.results8, go_sem]) rfl ⟨_, rfl, ⟨_, _, rfl, rfl, rfl⟩, J.out.be⟩
set_option maxRecDepth 100000 in
set_option maxHeartbeats 4000000 in
theorem ismallv_big (w : World) (u1 : Value) (x : Int) (hx : 0 ≤ x ∧ 9223372036854775808 ≤ x.natAbs ∧ x.natAbs < 2 ^ 64) (h1 : Means w (.int x) u1) :
    Calls Tryz.prog 8 #[u1] w (Gives w (.two (.is (.int .i64 0)) (.is (.bool false)))) := by
  obtain ⟨g1, s1, p1, l1, c1, rfl, h1⟩ := h1
  have H1 := Lib.hid h1; clear h1
  have HX := Lib.hid hx; clear hx
  go_enter Tryz.func8, Tryz.ntmps8
  have J := Frm.start (w := w) (V := []) fn
  refine wp_seq_h ?_; intro K1 hK1; go_wp2
  obtain ⟨W2, b2, eW2, eb2, sz2, J⟩ := Frm.putI J rfl H1.out
  rw [← eW2, ← eb2]
  clear eW2 eb2 sz2
  refine hK1.out _ _ ?_; clear hK1
  refine region_c [8, 9, 10, 7, 11, 12, 5, 6] [.is (.pointer (some ⟨b2, 1, none⟩)), .num x.natAbs, .two (.is (.int .u64 ((x.natAbs : Nat) : Int))) (.is (.bool true)), .two (.is (.int .u64 ((x.natAbs : Nat) : Int))) (.is (.bool true)), .is (.int .u64 ((x.natAbs : Nat) : Int)), .is (.bool true), .is (.int .u64 ((x.natAbs : Nat) : Int)), .is (.bool true)] [] [] [] J ?_ ?_
  · refine .pl rfl (fun _ _ W Γ => ev_faI1 (Γ.s rfl)) ?_
    refine .pl rfl (fun _ _ W Γ => ev_ldI1 (Γ.k 0 rfl) (Γ.l 0 rfl) rfl) ?_
    refine .pl rfl (fun _ _ W Γ => ev_call1 (Γ.f _) run_nSmall (small_lt W _ x.natAbs (by have := HX.out; omega) (Γ.w (d := 8) 1 rfl))) ?_
    refine .pl rfl (fun _ _ W Γ => ev_moveM (Γ.w 2 rfl)) ?_
    refine .pl rfl (fun _ _ W Γ => ev_ex20 (Γ.w 3 rfl)) ?_
    refine .pl rfl (fun _ _ W Γ => ev_ex21 (Γ.w 3 rfl)) ?_
    refine .pl rfl (fun _ _ W Γ => ev_assign _ (Γ.k 4 rfl)) ?_
    refine .pl rfl (fun _ _ W Γ => ev_assign _ (Γ.k 5 rfl)) ?_
    exact .nil
  clear J; intro K3 hK3; simp only [fx]; intro _ f3 W3 J; refine hK3.out _ _ ?_; clear hK3
  refine wp_seq_h ?_; intro K4 hK4
  refine wp_block ?_
  refine region_c [14, 15, 16, 17, 18, 19, 20, 21, 22, 13] [.is (.bool true), .is (.bool true), .is (.pointer (some ⟨b2, 0, none⟩)), .is (.bool false), .is (.bool false), .is (.bool false), .is undef, .is undef, .is (.bool false), .is (.bool false)] [] [] [] J ?_ ?_
  · refine .pl rfl (fun _ _ W Γ => ev_move _ (Γ.s rfl)) ?_
    refine .pl rfl (fun _ _ W Γ => ev_move _ (Γ.k 0 rfl)) ?_
    refine .gu rfl rfl rfl rfl (fun _ _ W Γ => ev_faI0 (Γ.s rfl)) ?_
    refine .gu rfl rfl rfl rfl (fun _ _ W Γ => ev_ldI0 (Γ.k 2 rfl) (Γ.l 0 rfl) (decide_eq_false (by have := HX.out; omega))) ?_
    refine .pl rfl (fun _ _ W Γ => ev_pick (Γ.k 1 rfl) (Γ.k 3 rfl)) ?_
    refine .pl rfl (fun _ _ W Γ => ev_move _ (Γ.k 4 rfl)) ?_
    refine .off rfl rfl rfl rfl ?_
    refine .off rfl rfl rfl rfl ?_
    refine .pl rfl (fun _ _ W Γ => ev_pick (Γ.k 5 rfl) (Γ.c _)) ?_
    refine .pl rfl (fun _ _ W Γ => ev_assign _ (Γ.k 8 rfl)) ?_
    exact .nil
  clear J; intro K5 hK5; simp only [fx]; intro _ f5 W5 J; refine hK5.out _ _ ?_; clear hK5
  refine wp_cond_false rfl ?_
  refine region_c [27, 28, 29, 30, 31, 32, 33, 34, 35, 36, 26] [.is (.bool true), .is (.bool true), .is (.pointer (some ⟨b2, 0, none⟩)), .is (.bool false), .is (.bool true), .is (.bool true), .is (.bool true), .is (.int .u64 ((x.natAbs : Nat) : Int)), .is (.bool false), .is (.bool false), .is (.bool false)] [] [] [] J ?_ ?_
  · refine .pl rfl (fun _ _ W Γ => ev_move _ (Γ.s rfl)) ?_
    refine .pl rfl (fun _ _ W Γ => ev_move _ (Γ.k 0 rfl)) ?_
    refine .gu rfl rfl rfl rfl (fun _ _ W Γ => ev_faI0 (Γ.s rfl)) ?_
    refine .gu rfl rfl rfl rfl (fun _ _ W Γ => ev_ldI0 (Γ.k 2 rfl) (Γ.l 0 rfl) (decide_eq_false (by have := HX.out; omega))) ?_
    refine .gu rfl rfl rfl rfl (fun _ _ W Γ => ev_not (Γ.k 3 rfl) rfl) ?_
    refine .pl rfl (fun _ _ W Γ => ev_pick (Γ.k 1 rfl) (Γ.k 4 rfl)) ?_
    refine .pl rfl (fun _ _ W Γ => ev_move _ (Γ.k 5 rfl)) ?_
    refine .gu rfl rfl rfl rfl (fun _ _ W Γ => ev_move _ (Γ.s rfl)) ?_
    refine .gu rfl rfl rfl rfl (fun _ _ W Γ => ev_lssU (Γ.k 7 rfl) (Γ.c _) (decide_eq_false (by have := HX.out; omega))) ?_
    refine .pl rfl (fun _ _ W Γ => ev_pick (Γ.k 6 rfl) (Γ.k 8 rfl)) ?_
    refine .pl rfl (fun _ _ W Γ => ev_assign _ (Γ.k 9 rfl)) ?_
    exact .nil
  clear J; intro K6 hK6; simp only [fx]; intro _ f6 W6 J; refine hK6.out _ _ ?_; clear hK6
  refine wp_cond_false rfl ?_
  refine wp_skip ?_
  refine hK4.out _ _ ?_; clear hK4
  refine region_c [3, 4] [.is (.int .i64 0), .is (.bool false)] [] [] [] J ?_ ?_
  · refine .pl rfl (fun _ _ W Γ => ev_assign _ (Γ.c _)) ?_
    refine .pl rfl (fun _ _ W Γ => ev_assign _ (Γ.c _)) ?_
    exact .nil
  clear J; intro K7 hK7; simp only [fx]; intro _ f7 W7 J; refine hK7.out _ _ ?_; clear hK7
  refine wp_ret ?_
  exact bodyPost_ret (v := .tuple #[.int .i64 0, .bool false]) (by simp [results, Tryz.results8, go_sem]) rfl ⟨_, rfl, ⟨_, _, rfl, rfl, rfl⟩, J.out.be⟩
set_option maxRecDepth 100000 in
set_option maxHeartbeats 4000000 in
theorem rsmallv_far (w : World) (u1 : Value) (x : Int) (hx : 2 ^ 64 ≤ x.natAbs ∧ (ds x.natAbs).length ≤ 6) (h1 : Means w (.rint x) u1) :
    Calls Tryz.prog 9 #[u1] w (Gives w (.two (.is (.int .i64 0)) (.is (.bool false)))) := by
  obtain ⟨g1, p1, l1, c1, rfl, h1⟩ := h1
  have H1 := Lib.hid h1; clear h1
  have HX := Lib.hid hx; clear hx
  go_enter Tryz.func9, Tryz.ntmps9
  have J := Frm.start (w := w) (V := []) fn
  refine wp_seq_h ?_; intro K1 hK1; go_wp2
  obtain ⟨W2, b2, eW2, eb2, sz2, J⟩ := Frm.putR J rfl H1.out
  rw [← eW2, ← eb2]
  clear eW2 eb2 sz2
  refine hK1.out _ _ ?_; clear hK1
  refine region_c [8, 9, 10, 7, 11, 12, 5, 6] [.is (.pointer (some ⟨b2, 1, none⟩)), .rnum x.natAbs, .two (.is (.int .u64 0)) (.is (.bool false)), .two (.is (.int .u64 0)) (.is (.bool false)), .is (.int .u64 0), .is (.bool false), .is (.int .u64 0), .is (.bool false)] [] [] [] J ?_ ?_
  · refine .pl rfl (fun _ _ W Γ => ev_faR1 (Γ.s rfl)) ?_
    refine .pl rfl (fun _ _ W Γ => ev_ldR1 (Γ.k 0 rfl) (Γ.l 0 rfl) rfl) ?_
    refine .pl rfl (fun _ _ W Γ => ev_call1 (Γ.f _) run_rSmall (rsmall_ge W _ x.natAbs HX.out.1 HX.out.2 (Γ.w (d := 8) 1 rfl))) ?_
    refine .pl rfl (fun _ _ W Γ => ev_moveM (Γ.w 2 rfl)) ?_
    refine .pl rfl (fun _ _ W Γ => ev_ex20 (Γ.w 3 rfl)) ?_
    refine .pl rfl (fun _ _ W Γ => ev_ex21 (Γ.w 3 rfl)) ?_
    refine .pl rfl (fun _ _ W Γ => ev_assign _ (Γ.k 4 rfl)) ?_
    refine .pl rfl (fun _ _ W Γ => ev_assign _ (Γ.k 5 rfl)) ?_
    exact .nil
  clear J; intro K3 hK3; simp only [fx]; intro _ f3 W3 J; refine hK3.out _ _ ?_; clear hK3
  refine wp_seq_h ?_; intro K4 hK4
  refine wp_block ?_
  refine region_c [14, 15, 16, 17, 18, 19, 20, 21, 22, 23, 24, 25, 26, 27, 28, 29, 30, 31, 32, 13] [.is (.bool false), .is (.bool true), .is (.bool true), .is undef, .is undef, .is undef, .is undef, .is undef, .is undef, .is undef, .is (.bool true), .is (.bool true), .is undef, .is undef, .is undef, .is undef, .is undef, .is undef, .is (.bool true), .is (.bool true)] [] [] [] J ?_ ?_
  · refine .pl rfl (fun _ _ W Γ => ev_move _ (Γ.s rfl)) ?_
    refine .pl rfl (fun _ _ W Γ => ev_not (Γ.k 0 rfl) rfl) ?_
    refine .pl rfl (fun _ _ W Γ => ev_move _ (Γ.k 1 rfl)) ?_
    refine .off rfl rfl rfl rfl ?_
    refine .off rfl rfl rfl rfl ?_
    refine .off rfl rfl rfl rfl ?_
    refine .off rfl rfl rfl rfl ?_
    refine .offu rfl rfl rfl rfl ?_
    refine .offu rfl rfl rfl rfl ?_
    refine .off rfl rfl rfl rfl ?_
    refine .pl rfl (fun _ _ W Γ => ev_pick (Γ.k 2 rfl) (Γ.c _)) ?_
    refine .pl rfl (fun _ _ W Γ => ev_move _ (Γ.k 10 rfl)) ?_
    refine .off rfl rfl rfl rfl ?_
    refine .off rfl rfl rfl rfl ?_
    refine .off rfl rfl rfl rfl ?_
    refine .offu rfl rfl rfl rfl ?_
    refine .offu rfl rfl rfl rfl ?_
    refine .off rfl rfl rfl rfl ?_
    refine .pl rfl (fun _ _ W Γ => ev_pick (Γ.k 11 rfl) (Γ.c _)) ?_
    refine .pl rfl (fun _ _ W Γ => ev_assign _ (Γ.k 18 rfl)) ?_
    exact .nil
  clear J; intro K5 hK5; simp only [fx]; intro _ f5 W5 J; refine hK5.out _ _ ?_; clear hK5
  refine wp_cond_true rfl ?_
  refine region_c [3, 4] [.is (.int .i64 0), .is (.bool false)] [] [] [] J ?_ ?_
  · refine .pl rfl (fun _ _ W Γ => ev_assign _ (Γ.c _)) ?_
    refine .pl rfl (fun _ _ W Γ => ev_assign _ (Γ.c _)) ?_
    exact .nil
  clear J; intro K6 hK6; simp only [fx]; intro _ f6 W6 J; refine hK6.out _ _ ?_; clear hK6
  refine wp_ret ?_
  exact bodyPost_ret (v := .tuple #[.int .i64 0, .bool false]) (by simp [results, Tryz.results9, go_sem]) rfl ⟨_, rfl, ⟨_, _, rfl, rfl, rfl⟩, J.out.be⟩
set_option maxRecDepth 100000 in
set_option maxHeartbeats 4000000 in
theorem rsmallv_neg (w : World) (u1 : Value) (x : Int) (hx : x < 0 ∧ x.natAbs ≤ 9223372036854775808) (h1 : Means w (.rint x) u1) :
    Calls Tryz.prog 9 #[u1] w (Gives w (.two (.is (.int .i64 x)) (.is (.bool true)))) := by
  obtain ⟨g1, p1, l1, c1, rfl, h1⟩ := h1
  have H1 := Lib.hid h1; clear h1
  have HX := Lib.hid hx; clear hx
  go_enter Tryz.func9, Tryz.ntmps9
  have J := Frm.start (w := w) (V := []) fn
  refine wp_seq_h ?_; intro K1 hK1; go_wp2
  obtain ⟨W2, b2, eW2, eb2, sz2, J⟩ := Frm.putR J rfl H1.out
  rw [← eW2, ← eb2]
  clear eW2 eb2 sz2
  refine hK1.out _ _ ?_; clear hK1
  refine region_c [8, 9, 10, 7, 11, 12, 5, 6] [.is (.pointer (some ⟨b2, 1, none⟩)), .rnum x.natAbs, .two (.is (.int .u64 ((x.natAbs : Nat) : Int))) (.is (.bool true)), .two (.is (.int .u64 ((x.natAbs : Nat) : Int))) (.is (.bool true)), .is (.int .u64 ((x.natAbs : Nat) : Int)), .is (.bool true), .is (.int .u64 ((x.natAbs : Nat) : Int)), .is (.bool true)] [] [] [] J ?_ ?_
  · refine .pl rfl (fun _ _ W Γ => ev_faR1 (Γ.s rfl)) ?_
    refine .pl rfl (fun _ _ W Γ => ev_ldR1 (Γ.k 0 rfl) (Γ.l 0 rfl) rfl) ?_
    refine .pl rfl (fun _ _ W Γ => ev_call1 (Γ.f _) run_rSmall (rsmall_lt W _ x.natAbs (by have := HX.out; omega) (Γ.w (d := 8) 1 rfl))) ?_
    refine .pl rfl (fun _ _ W Γ => ev_moveM (Γ.w 2 rfl)) ?_
    refine .pl rfl (fun _ _ W Γ => ev_ex20 (Γ.w 3 rfl)) ?_
    refine .pl rfl (fun _ _ W Γ => ev_ex21 (Γ.w 3 rfl)) ?_
    refine .pl rfl (fun _ _ W Γ => ev_assign _ (Γ.k 4 rfl)) ?_
    refine .pl rfl (fun _ _ W Γ => ev_assign _ (Γ.k 5 rfl)) ?_
    exact .nil
  clear J; intro K3 hK3; simp only [fx]; intro _ f3 W3 J; refine hK3.out _ _ ?_; clear hK3
  refine wp_seq_h ?_; intro K4 hK4
  refine wp_block ?_
  refine region_c [14, 15, 16, 17, 18, 19, 20, 21, 22, 23, 24, 25, 26, 27, 28, 29, 30, 31, 32, 13] [.is (.bool true), .is (.bool false), .is (.bool false), .is (.pointer (some ⟨b2, 0, none⟩)), .is (.bool true), .is (.bool false), .is (.bool false), .is undef, .is undef, .is (.bool false), .is (.bool false), .is (.bool false), .is (.pointer (some ⟨b2, 0, none⟩)), .is (.bool true), .is (.bool true), .is (.int .u64 ((x.natAbs : Nat) : Int)), .is (.bool false), .is (.bool false), .is (.bool false), .is (.bool false)] [] [] [] J ?_ ?_
  · refine .pl rfl (fun _ _ W Γ => ev_move _ (Γ.s rfl)) ?_
    refine .pl rfl (fun _ _ W Γ => ev_not (Γ.k 0 rfl) rfl) ?_
    refine .pl rfl (fun _ _ W Γ => ev_move _ (Γ.k 1 rfl)) ?_
    refine .gu rfl rfl rfl rfl (fun _ _ W Γ => ev_faR0 (Γ.s rfl)) ?_
    refine .gu rfl rfl rfl rfl (fun _ _ W Γ => ev_ldR0 (Γ.k 3 rfl) (Γ.l 0 rfl) (decide_eq_true HX.out.1)) ?_
    refine .gu rfl rfl rfl rfl (fun _ _ W Γ => ev_not (Γ.k 4 rfl) rfl) ?_
    refine .gu rfl rfl rfl rfl (fun _ _ W Γ => ev_move _ (Γ.k 5 rfl)) ?_
    refine .off rfl rfl rfl rfl ?_
    refine .off rfl rfl rfl rfl ?_
    refine .gu rfl rfl rfl rfl (fun _ _ W Γ => ev_pick (Γ.k 6 rfl) (Γ.c _)) ?_
    refine .pl rfl (fun _ _ W Γ => ev_pick (Γ.k 2 rfl) (Γ.k 9 rfl)) ?_
    refine .pl rfl (fun _ _ W Γ => ev_move _ (Γ.k 10 rfl)) ?_
    refine .gu rfl rfl rfl rfl (fun _ _ W Γ => ev_faR0 (Γ.s rfl)) ?_
    refine .gu rfl rfl rfl rfl (fun _ _ W Γ => ev_ldR0 (Γ.k 12 rfl) (Γ.l 0 rfl) (decide_eq_true HX.out.1)) ?_
    refine .gu rfl rfl rfl rfl (fun _ _ W Γ => ev_move _ (Γ.k 13 rfl)) ?_
    refine .gu rfl rfl rfl rfl (fun _ _ W Γ => ev_move _ (Γ.s rfl)) ?_
    refine .gu rfl rfl rfl rfl (fun _ _ W Γ => ev_gtrU (Γ.k 15 rfl) (Γ.c _) (decide_eq_false (by have := HX.out; omega))) ?_
    refine .gu rfl rfl rfl rfl (fun _ _ W Γ => ev_pick (Γ.k 14 rfl) (Γ.k 16 rfl)) ?_
    refine .pl rfl (fun _ _ W Γ => ev_pick (Γ.k 11 rfl) (Γ.k 17 rfl)) ?_
    refine .pl rfl (fun _ _ W Γ => ev_assign _ (Γ.k 18 rfl)) ?_
    exact .nil
  clear J; intro K5 hK5; simp only [fx]; intro _ f5 W5 J; refine hK5.out _ _ ?_; clear hK5
  refine wp_cond_false rfl ?_
  refine region_c [34, 35, 33] [.is (.pointer (some ⟨b2, 0, none⟩)), .is (.bool true), .is (.bool true)] [] [] [] J ?_ ?_
  · refine .pl rfl (fun _ _ W Γ => ev_faR0 (Γ.s rfl)) ?_
    refine .pl rfl (fun _ _ W Γ => ev_ldR0 (Γ.k 0 rfl) (Γ.l 0 rfl) (decide_eq_true HX.out.1)) ?_
    refine .pl rfl (fun _ _ W Γ => ev_assign _ (Γ.k 1 rfl)) ?_
    exact .nil
  clear J; intro K6 hK6; simp only [fx]; intro _ f6 W6 J; refine hK6.out _ _ ?_; clear hK6
  refine wp_cond_true rfl ?_
  refine region_c [36, 37, 38, 3, 4] [.is (.int .u64 ((x.natAbs : Nat) : Int)), .is (.int .i64 (IntKind.i64.wrap ((x.natAbs : Nat) : Int))), .is (.int .i64 x), .is (.int .i64 x), .is (.bool true)] [] [] [] J ?_ ?_
  · refine .pl rfl (fun _ _ W Γ => ev_move _ (Γ.s rfl)) ?_
    refine .pl rfl (fun _ _ W Γ => ev_cvt (Γ.k 0 rfl) rfl) ?_
    refine .pl rfl (fun _ _ W Γ => ev_negI (Γ.k 1 rfl) (by rw [IntKind.wrap_i64, IntKind.wrap_i64]; have := HX.out; omega)) ?_
    refine .pl rfl (fun _ _ W Γ => ev_assign _ (Γ.k 2 rfl)) ?_
    refine .pl rfl (fun _ _ W Γ => ev_assign _ (Γ.c _)) ?_
    exact .nil
  clear J; intro K7 hK7; simp only [fx]; intro _ f7 W7 J; refine hK7.out _ _ ?_; clear hK7
  refine wp_ret ?_
  exact bodyPost_ret (v := .tuple #[.int .i64 x, .bool true]) (by simp [results, Tryz.results9, go_sem]) rfl ⟨_, rfl, ⟨_, _, rfl, rfl, rfl⟩, J.out.be⟩
set_option maxRecDepth 100000 in
set_option maxHeartbeats 4000000 in
theorem rsmallv_low (w : World) (u1 : Value) (x : Int) (hx : x < 0 ∧ 9223372036854775808 < x.natAbs ∧ x.natAbs < 2 ^ 64) (h1 : Means w (.rint x) u1) :
    Calls Tryz.prog 9 #[u1] w (Gives w (.two (.is (.int .i64 0)) (.is (.bool false)))) := by
  obtain ⟨g1, p1, l1, c1, rfl, h1⟩ := h1
  have H1 := Lib.hid h1; clear h1
  have HX := Lib.hid hx; clear hx
  go_enter Tryz.func9, Tryz.ntmps9
  have J := Frm.start (w := w) (V := []) fn
  refine wp_seq_h ?_; intro K1 hK1; go_wp2
  obtain ⟨W2, b2, eW2, eb2, sz2, J⟩ := Frm.putR J rfl H1.out
  rw [← eW2, ← eb2]
  clear eW2 eb2 sz2
  refine hK1.out _ _ ?_; clear hK1
  refine region_c [8, 9, 10, 7, 11, 12, 5, 6] [.is (.pointer (some ⟨b2, 1, none⟩)), .rnum x.natAbs, .two (.is (.int .u64 ((x.natAbs : Nat) : Int))) (.is (.bool true)), .two (.is (.int .u64 ((x.natAbs : Nat) : Int))) (.is (.bool true)), .is (.int .u64 ((x.natAbs : Nat) : Int)), .is (.bool true), .is (.int .u64 ((x.natAbs : Nat) : Int)), .is (.bool true)] [] [] [] J ?_ ?_
  · refine .pl rfl (fun _ _ W Γ => ev_faR1 (Γ.s rfl)) ?_
    refine .pl rfl (fun _ _ W Γ => ev_ldR1 (Γ.k 0 rfl) (Γ.l 0 rfl) rfl) ?_
    refine .pl rfl (fun _ _ W Γ => ev_call1 (Γ.f _) run_rSmall (rsmall_lt W _ x.natAbs (by have := HX.out; omega) (Γ.w (d := 8) 1 rfl))) ?_
    refine .pl rfl (fun _ _ W Γ => ev_moveM (Γ.w 2 rfl)) ?_
    refine .pl rfl (fun _ _ W Γ => ev_ex20 (Γ.w 3 rfl)) ?_
    refine .pl rfl (fun _ _ W Γ => ev_ex21 (Γ.w 3 rfl)) ?_
    refine .pl rfl (fun _ _ W Γ => ev_assign _ (Γ.k 4 rfl)) ?_
    refine .pl rfl (fun _ _ W Γ => ev_assign _ (Γ.k 5 rfl)) ?_
    exact .nil
  clear J; intro K3 hK3; simp only [fx]; intro _ f3 W3 J; refine hK3.out _ _ ?_; clear hK3
  refine wp_seq_h ?_; intro K4 hK4
  refine wp_block ?_
  refine region_c [14, 15, 16, 17, 18, 19, 20, 21, 22, 23, 24, 25, 26, 27, 28, 29, 30, 31, 32, 13] [.is (.bool true), .is (.bool false), .is (.bool false), .is (.pointer (some ⟨b2, 0, none⟩)), .is (.bool true), .is (.bool false), .is (.bool false), .is undef, .is undef, .is (.bool false), .is (.bool false), .is (.bool false), .is (.pointer (some ⟨b2, 0, none⟩)), .is (.bool true), .is (.bool true), .is (.int .u64 ((x.natAbs : Nat) : Int)), .is (.bool true), .is (.bool true), .is (.bool true), .is (.bool true)] [] [] [] J ?_ ?_
  · refine .pl rfl (fun _ _ W Γ => ev_move _ (Γ.s rfl)) ?_
    refine .pl rfl (fun _ _ W Γ => ev_not (Γ.k 0 rfl) rfl) ?_
    refine .pl rfl (fun _ _ W Γ => ev_move _ (Γ.k 1 rfl)) ?_
    refine .gu rfl rfl rfl rfl (fun _ _ W Γ => ev_faR0 (Γ.s rfl)) ?_
    refine .gu rfl rfl rfl rfl (fun _ _ W Γ => ev_ldR0 (Γ.k 3 rfl) (Γ.l 0 rfl) (decide_eq_true HX.out.1)) ?_
    refine .gu rfl rfl rfl rfl (fun _ _ W Γ => ev_not (Γ.k 4 rfl) rfl) ?_
    refine .gu rfl rfl rfl rfl (fun _ _ W Γ => ev_move _ (Γ.k 5 rfl)) ?_
    refine .off rfl rfl rfl rfl ?_
    refine .off rfl rfl rfl rfl ?_
    refine .gu rfl rfl rfl rfl (fun _ _ W Γ => ev_pick (Γ.k 6 rfl) (Γ.c _)) ?_
    refine .pl rfl (fun _ _ W Γ => ev_pick (Γ.k 2 rfl) (Γ.k 9 rfl)) ?_
    refine .pl rfl (fun _ _ W Γ => ev_move _ (Γ.k 10 rfl)) ?_
    refine .gu rfl rfl rfl rfl (fun _ _ W Γ => ev_faR0 (Γ.s rfl)) ?_
    refine .gu rfl rfl rfl rfl (fun _ _ W Γ => ev_ldR0 (Γ.k 12 rfl) (Γ.l 0 rfl) (decide_eq_true HX.out.1)) ?_
    refine .gu rfl rfl rfl rfl (fun _ _ W Γ => ev_move _ (Γ.k 13 rfl)) ?_
    refine .gu rfl rfl rfl rfl (fun _ _ W Γ => ev_move _ (Γ.s rfl)) ?_
    refine .gu rfl rfl rfl rfl (fun _ _ W Γ => ev_gtrU (Γ.k 15 rfl) (Γ.c _) (decide_eq_true (by have := HX.out; omega))) ?_
    refine .gu rfl rfl rfl rfl (fun _ _ W Γ => ev_pick (Γ.k 14 rfl) (Γ.k 16 rfl)) ?_
    refine .pl rfl (fun _ _ W Γ => ev_pick (Γ.k 11 rfl) (Γ.k 17 rfl)) ?_
    refine .pl rfl (fun _ _ W Γ => ev_assign _ (Γ.k 18 rfl)) ?_
    exact .nil
  clear J; intro K5 hK5; simp only [fx]; intro _ f5 W5 J; refine hK5.out _ _ ?_; clear hK5
  refine wp_cond_true rfl ?_
  refine region_c [3, 4] [.is (.int .i64 0), .is (.bool false)] [] [] [] J ?_ ?_
  · refine .pl rfl (fun _ _ W Γ => ev_assign _ (Γ.c _)) ?_
    refine .pl rfl (fun _ _ W Γ => ev_assign _ (Γ.c _)) ?_
    exact .nil
  clear J; intro K6 hK6; simp only [fx]; intro _ f6 W6 J; refine hK6.out _ _ ?_; clear hK6
  refine wp_ret ?_
  exact bodyPost_ret (v := .tuple #[.int .i64 0, .bool false]) (by simp [results, Tryz.results9, go_sem]) rfl ⟨_, rfl, ⟨_, _, rfl, rfl, rfl⟩, J.out.be⟩
set_option maxRecDepth 100000 in
set_option maxHeartbeats 4000000 in
theorem rsmallv_pos (w : World) (u1 : Value) (x : Int) (hx : 0 ≤ x ∧ x.natAbs < 9223372036854775808) (h1 : Means w (.rint x) u1) :
    Calls Tryz.prog 9 #[u1] w (Gives w (.two (.is (.int .i64 x)) (.is (.bool true)))) := by
  obtain ⟨g1, p1, l1, c1, rfl, h1⟩ := h1
  have H1 := Lib.hid h1; clear h1
  have HX := Lib.hid hx; clear hx
  go_enter Tryz.func9, Tryz.ntmps9
  have J := Frm.start (w := w) (V := []) fn
  refine wp_seq_h ?_; intro K1 hK1; go_wp2
  obtain ⟨W2, b2, eW2, eb2, sz2, J⟩ := Frm.putR J rfl H1.out
  rw [← eW2, ← eb2]
  clear eW2 eb2 sz2
  refine hK1.out _ _ ?_; clear hK1
  refine region_c [8, 9, 10, 7, 11, 12, 5, 6] [.is (.pointer (some ⟨b2, 1, none⟩)), .rnum x.natAbs, .two (.is (.int .u64 ((x.natAbs : Nat) : Int))) (.is (.bool true)), .two (.is (.int .u64 ((x.natAbs : Nat) : Int))) (.is (.bool true)), .is (.int .u64 ((x.natAbs : Nat) : Int)), .is (.bool true), .is (.int .u64 ((x.natAbs : Nat) : Int)), .is (.bool true)] [] [] [] J ?_ ?_
  · refine .pl rfl (fun _ _ W Γ => ev_faR1 (Γ.s rfl)) ?_
    refine .pl rfl (fun _ _ W Γ => ev_ldR1 (Γ.k 0 rfl) (Γ.l 0 rfl) rfl) ?_
    refine .pl rfl (fun _ _ W Γ => ev_call1 (Γ.f _) run_rSmall (rsmall_lt W _ x.natAbs (by have := HX.out; omega) (Γ.w (d := 8) 1 rfl))) ?_
    refine .pl rfl (fun _ _ W Γ => ev_moveM (Γ.w 2 rfl)) ?_
    refine .pl rfl (fun _ _ W Γ => ev_ex20 (Γ.w 3 rfl)) ?_
    refine .pl rfl (fun _ _ W Γ => ev_ex21 (Γ.w 3 rfl)) ?_
    refine .pl rfl (fun _ _ W Γ => ev_assign _ (Γ.k 4 rfl)) ?_
    refine .pl rfl (fun _ _ W Γ => ev_assign _ (Γ.k 5 rfl)) ?_
    exact .nil
  clear J; intro K3 hK3; simp only [fx]; intro _ f3 W3 J; refine hK3.out _ _ ?_; clear hK3
  refine wp_seq_h ?_; intro K4 hK4
  refine wp_block ?_
  refine region_c [14, 15, 16, 17, 18, 19, 20, 21, 22, 23, 24, 25, 26, 27, 28, 29, 30, 31, 32, 13] [.is (.bool true), .is (.bool false), .is (.bool false), .is (.pointer (some ⟨b2, 0, none⟩)), .is (.bool false), .is (.bool true), .is (.bool true), .is (.int .u64 ((x.natAbs : Nat) : Int)), .is (.bool false), .is (.bool false), .is (.bool false), .is (.bool false), .is (.pointer (some ⟨b2, 0, none⟩)), .is (.bool false), .is (.bool false), .is undef, .is undef, .is (.bool false), .is (.bool false), .is (.bool false)] [] [] [] J ?_ ?_
  · refine .pl rfl (fun _ _ W Γ => ev_move _ (Γ.s rfl)) ?_
    refine .pl rfl (fun _ _ W Γ => ev_not (Γ.k 0 rfl) rfl) ?_
    refine .pl rfl (fun _ _ W Γ => ev_move _ (Γ.k 1 rfl)) ?_
    refine .gu rfl rfl rfl rfl (fun _ _ W Γ => ev_faR0 (Γ.s rfl)) ?_
    refine .gu rfl rfl rfl rfl (fun _ _ W Γ => ev_ldR0 (Γ.k 3 rfl) (Γ.l 0 rfl) (decide_eq_false (by have := HX.out; omega))) ?_
    refine .gu rfl rfl rfl rfl (fun _ _ W Γ => ev_not (Γ.k 4 rfl) rfl) ?_
    refine .gu rfl rfl rfl rfl (fun _ _ W Γ => ev_move _ (Γ.k 5 rfl)) ?_
    refine .gu rfl rfl rfl rfl (fun _ _ W Γ => ev_move _ (Γ.s rfl)) ?_
    refine .gu rfl rfl rfl rfl (fun _ _ W Γ => ev_gtrU (Γ.k 7 rfl) (Γ.c _) (decide_eq_false (by have := HX.out; omega))) ?_
    refine .gu rfl rfl rfl rfl (fun _ _ W Γ => ev_pick (Γ.k 6 rfl) (Γ.k 8 rfl)) ?_
    refine .pl rfl (fun _ _ W Γ => ev_pick (Γ.k 2 rfl) (Γ.k 9 rfl)) ?_
    refine .pl rfl (fun _ _ W Γ => ev_move _ (Γ.k 10 rfl)) ?_
    refine .gu rfl rfl rfl rfl (fun _ _ W Γ => ev_faR0 (Γ.s rfl)) ?_
    refine .gu rfl rfl rfl rfl (fun _ _ W Γ => ev_ldR0 (Γ.k 12 rfl) (Γ.l 0 rfl) (decide_eq_false (by have := HX.out; omega))) ?_
    refine .gu rfl rfl rfl rfl (fun _ _ W Γ => ev_move _ (Γ.k 13 rfl)) ?_
    refine .off rfl rfl rfl rfl ?_
    refine .off rfl rfl rfl rfl ?_
    refine .gu rfl rfl rfl rfl (fun _ _ W Γ => ev_pick (Γ.k 14 rfl) (Γ.c _)) ?_
    refine .pl rfl (fun _ _ W Γ => ev_pick (Γ.k 11 rfl) (Γ.k 17 rfl)) ?_
    refine .pl rfl (fun _ _ W Γ => ev_assign _ (Γ.k 18 rfl)) ?_
    exact .nil
  clear J; intro K5 hK5; simp only [fx]; intro _ f5 W5 J; refine hK5.out _ _ ?_; clear hK5
  refine wp_cond_false rfl ?_
  refine region_c [34, 35, 33] [.is (.pointer (some ⟨b2, 0, none⟩)), .is (.bool false), .is (.bool false)] [] [] [] J ?_ ?_
  · refine .pl rfl (fun _ _ W Γ => ev_faR0 (Γ.s rfl)) ?_
    refine .pl rfl (fun _ _ W Γ => ev_ldR0 (Γ.k 0 rfl) (Γ.l 0 rfl) (decide_eq_false (by have := HX.out; omega))) ?_
    refine .pl rfl (fun _ _ W Γ => ev_assign _ (Γ.k 1 rfl)) ?_
    exact .nil
  clear J; intro K6 hK6; simp only [fx]; intro _ f6 W6 J; refine hK6.out _ _ ?_; clear hK6
  refine wp_cond_false rfl ?_
  refine wp_skip ?_
  refine hK4.out _ _ ?_; clear hK4
  refine region_c [39, 40, 3, 4] [.is (.int .u64 ((x.natAbs : Nat) : Int)), .is (.int .i64 x), .is (.int .i64 x), .is (.bool true)] [] [] [] J ?_ ?_
  · refine .pl rfl (fun _ _ W Γ => ev_move _ (Γ.s rfl)) ?_
    refine .pl rfl (fun _ _ W Γ => ev_cvt (Γ.k 0 rfl) (by rw [IntKind.wrap_i64]; have := HX.out; omega)) ?_
    refine .pl rfl (fun _ _ W Γ => ev_assign _ (Γ.k 1 rfl)) ?_
    refine .pl rfl (fun _ _ W Γ => ev_assign _ (Γ.c _)) ?_
    exact .nil
  clear J; intro K7 hK7; simp only [fx]; intro _ f7 W7 J; refine hK7.out _ _ ?_; clear hK7
  refine wp_ret ?_
  exact bodyPost_ret (v := .tuple #[.int .i64 x, .bool true]) (by simp [results, Tryz.results9, go_sem]) rfl ⟨_, rfl, ⟨_, _, rfl, rfl, rfl⟩, J.out.be⟩
set_option maxRecDepth 100000 in
set_option maxHeartbeats 4000000 in
theorem rsmallv_big (w : World) (u1 : Value) (x : Int) (hx : 0 ≤ x ∧ 9223372036854775808 ≤ x.natAbs ∧ x.natAbs < 2 ^ 64) (h1 : Means w (.rint x) u1) :
    Calls Tryz.prog 9 #[u1] w (Gives w (.two (.is (.int .i64 0)) (.is (.bool false)))) := by
  obtain ⟨g1, p1, l1, c1, rfl, h1⟩ := h1
  have H1 := Lib.hid h1; clear h1
  have HX := Lib.hid hx; clear hx
  go_enter Tryz.func9, Tryz.ntmps9
  have J := Frm.start (w := w) (V := []) fn
  refine wp_seq_h ?_; intro K1 hK1; go_wp2
  obtain ⟨W2, b2, eW2, eb2, sz2, J⟩ := Frm.putR J rfl H1.out
  rw [← eW2, ← eb2]
  clear eW2 eb2 sz2
  refine hK1.out _ _ ?_; clear hK1
  refine region_c [8, 9, 10, 7, 11, 12, 5, 6] [.is (.pointer (some ⟨b2, 1, none⟩)), .rnum x.natAbs, .two (.is (.int .u64 ((x.natAbs : Nat) : Int))) (.is (.bool true)), .two (.is (.int .u64 ((x.natAbs : Nat) : Int))) (.is (.bool true)), .is (.int .u64 ((x.natAbs : Nat) : Int)), .is (.bool true), .is (.int .u64 ((x.natAbs : Nat) : Int)), .is (.bool true)] [] [] [] J ?_ ?_
  · refine .pl rfl (fun _ _ W Γ => ev_faR1 (Γ.s rfl)) ?_
    refine .pl rfl (fun _ _ W Γ => ev_ldR1 (Γ.k 0 rfl) (Γ.l 0 rfl) rfl) ?_
    refine .pl rfl (fun _ _ W Γ => ev_call1 (Γ.f _) run_rSmall (rsmall_lt W _ x.natAbs (by have := HX.out; omega) (Γ.w (d := 8) 1 rfl))) ?_
    refine .pl rfl (fun _ _ W Γ => ev_moveM (Γ.w 2 rfl)) ?_
    refine .pl rfl (fun _ _ W Γ => ev_ex20 (Γ.w 3 rfl)) ?_
    refine .pl rfl (fun _ _ W Γ => ev_ex21 (Γ.w 3 rfl)) ?_
    refine .pl rfl (fun _ _ W Γ => ev_assign _ (Γ.k 4 rfl)) ?_
    refine .pl rfl (fun _ _ W Γ => ev_assign _ (Γ.k 5 rfl)) ?_
    exact .nil
  clear J; intro K3 hK3; simp only [fx]; intro _ f3 W3 J; refine hK3.out _ _ ?_; clear hK3
  refine wp_seq_h ?_; intro K4 hK4
  refine wp_block ?_
  refine region_c [14, 15, 16, 17, 18, 19, 20, 21, 22, 23, 24, 25, 26, 27, 28, 29, 30, 31, 32, 13] [.is (.bool true), .is (.bool false), .is (.bool false), .is (.pointer (some ⟨b2, 0, none⟩)), .is (.bool false), .is (.bool true), .is (.bool true), .is (.int .u64 ((x.natAbs : Nat) : Int)), .is (.bool true), .is (.bool true), .is (.bool true), .is (.bool true), .is undef, .is undef, .is undef, .is undef, .is undef, .is undef, .is (.bool true), .is (.bool true)] [] [] [] J ?_ ?_
  · refine .pl rfl (fun _ _ W Γ => ev_move _ (Γ.s rfl)) ?_
    refine .pl rfl (fun _ _ W Γ => ev_not (Γ.k 0 rfl) rfl) ?_
    refine .pl rfl (fun _ _ W Γ => ev_move _ (Γ.k 1 rfl)) ?_
    refine .gu rfl rfl rfl rfl (fun _ _ W Γ => ev_faR0 (Γ.s rfl)) ?_
    refine .gu rfl rfl rfl rfl (fun _ _ W Γ => ev_ldR0 (Γ.k 3 rfl) (Γ.l 0 rfl) (decide_eq_false (by have := HX.out; omega))) ?_
    refine .gu rfl rfl rfl rfl (fun _ _ W Γ => ev_not (Γ.k 4 rfl) rfl) ?_
    refine .gu rfl rfl rfl rfl (fun _ _ W Γ => ev_move _ (Γ.k 5 rfl)) ?_
    refine .gu rfl rfl rfl rfl (fun _ _ W Γ => ev_move _ (Γ.s rfl)) ?_
    refine .gu rfl rfl rfl rfl (fun _ _ W Γ => ev_gtrU (Γ.k 7 rfl) (Γ.c _) (decide_eq_true (by have := HX.out; omega))) ?_
    refine .gu rfl rfl rfl rfl (fun _ _ W Γ => ev_pick (Γ.k 6 rfl) (Γ.k 8 rfl)) ?_
    refine .pl rfl (fun _ _ W Γ => ev_pick (Γ.k 2 rfl) (Γ.k 9 rfl)) ?_
    refine .pl rfl (fun _ _ W Γ => ev_move _ (Γ.k 10 rfl)) ?_
    refine .off rfl rfl rfl rfl ?_
    refine .off rfl rfl rfl rfl ?_
    refine .off rfl rfl rfl rfl ?_
    refine .offu rfl rfl rfl rfl ?_
    refine .offu rfl rfl rfl rfl ?_
    refine .off rfl rfl rfl rfl ?_
    refine .pl rfl (fun _ _ W Γ => ev_pick (Γ.k 11 rfl) (Γ.c _)) ?_
    refine .pl rfl (fun _ _ W Γ => ev_assign _ (Γ.k 18 rfl)) ?_
    exact .nil
  clear J; intro K5 hK5; simp only [fx]; intro _ f5 W5 J; refine hK5.out _ _ ?_; clear hK5
  refine wp_cond_true rfl ?_
  refine region_c [3, 4] [.is (.int .i64 0), .is (.bool false)] [] [] [] J ?_ ?_
  · refine .pl rfl (fun _ _ W Γ => ev_assign _ (Γ.c _)) ?_
    refine .pl rfl (fun _ _ W Γ => ev_assign _ (Γ.c _)) ?_
    exact .nil
  clear J; intro K6 hK6; simp only [fx]; intro _ f6 W6 J; refine hK6.out _ _ ?_; clear hK6
  refine wp_ret ?_
  exact bodyPost_ret (v := .tuple #[.int .i64 0, .bool false]) (by simp [results, Tryz.results9, go_sem]) rfl ⟨_, rfl, ⟨_, _, rfl, rfl, rfl⟩, J.out.be⟩
def itx (x : Int) : ByteArray := if x < 0 then ⟨(45 :: Lib.decDigits x.natAbs).toArray⟩ else ⟨(Lib.decDigits x.natAbs).toArray⟩
theorem itext_gives (w : World) (u : Value) (x : Int) (hx : (ds x.natAbs).length ≤ 6) (ht : TabP w) (h : INum w u x) : Calls Tryz.prog 13 #[u] w (Gives w (.is (.string (itx x)))) := by
  unfold itx
  by_cases hn : x < 0
  · rw [if_pos hn]; exact itext_neg w u x hx (decide_eq_true hn) ht h
  · rw [if_neg hn]; exact itext_pos w u x hx (decide_eq_false hn) ht h
theorem ritext_gives (w : World) (u : Value) (x : Int) (hx : (ds x.natAbs).length ≤ 6) (h : RINum w u x) : Calls Tryz.prog 14 #[u] w (Gives w (.is (.string (itx x)))) := by
  unfold itx
  by_cases hn : x < 0
  · rw [if_pos hn]; exact ritext_neg w u x hx (decide_eq_true hn) h
  · rw [if_neg hn]; exact ritext_pos w u x hx (decide_eq_false hn) h
def smB (x : Int) : Bool := decide (-9223372036854775808 ≤ x ∧ x ≤ 9223372036854775807)
def smK (x : Int) : Int := if -9223372036854775808 ≤ x ∧ x ≤ 9223372036854775807 then x else 0
theorem sm_in {x : Int} (h : -9223372036854775808 ≤ x ∧ x ≤ 9223372036854775807) : smB x = true ∧ smK x = x := ⟨decide_eq_true h, if_pos h⟩
theorem sm_out {x : Int} (h : ¬ (-9223372036854775808 ≤ x ∧ x ≤ 9223372036854775807)) : smB x = false ∧ smK x = 0 := ⟨decide_eq_false h, if_neg h⟩
theorem ismall_gives (w : World) (u : Value) (x : Int) (hx : (ds x.natAbs).length ≤ 6) (h : INum w u x) : Calls Tryz.prog 8 #[u] w (Gives w (.two (.is (.int .i64 (smK x))) (.is (.bool (smB x))))) := by
  by_cases hi : -9223372036854775808 ≤ x ∧ x ≤ 9223372036854775807
  · rw [(sm_in hi).1, (sm_in hi).2]
    rcases Int.lt_or_le x 0 with hn | hn
    · exact ismallv_neg w u x ⟨hn, by omega⟩ h
    · exact ismallv_pos w u x ⟨hn, by omega⟩ h
  · rw [(sm_out hi).1, (sm_out hi).2]
    rcases Nat.lt_or_ge x.natAbs (2 ^ 64) with hf | hf
    · rcases Int.lt_or_le x 0 with hn | hn
      · exact ismallv_low w u x ⟨hn, by omega, hf⟩ h
      · exact ismallv_big w u x ⟨hn, by omega, hf⟩ h
    · exact ismallv_far w u x ⟨hf, hx⟩ h
theorem ismall_n (w : World) (u : Value) (n : Int) (hn : -9223372036854775808 ≤ n ∧ n ≤ 9223372036854775807) (h : INum w u n) : Calls Tryz.prog 8 #[u] w (Gives w (.two (.is (.int .i64 n)) (.is (.bool true)))) := by
  rcases Int.lt_or_le n 0 with h0 | h0
  · exact ismallv_neg w u n ⟨h0, by omega⟩ h
  · exact ismallv_pos w u n ⟨h0, by omega⟩ h
theorem rsmall_gives (w : World) (u : Value) (x : Int) (hx : (ds x.natAbs).length ≤ 6) (h : RINum w u x) : Calls Tryz.prog 9 #[u] w (Gives w (.two (.is (.int .i64 (smK x))) (.is (.bool (smB x))))) := by
  by_cases hi : -9223372036854775808 ≤ x ∧ x ≤ 9223372036854775807
  · rw [(sm_in hi).1, (sm_in hi).2]
    rcases Int.lt_or_le x 0 with hn | hn
    · exact rsmallv_neg w u x ⟨hn, by omega⟩ h
    · exact rsmallv_pos w u x ⟨hn, by omega⟩ h
  · rw [(sm_out hi).1, (sm_out hi).2]
    rcases Nat.lt_or_ge x.natAbs (2 ^ 64) with hf | hf
    · rcases Int.lt_or_le x 0 with hn | hn
      · exact rsmallv_low w u x ⟨hn, by omega, hf⟩ h
      · exact rsmallv_big w u x ⟨hn, by omega, hf⟩ h
    · exact rsmallv_far w u x ⟨hf, hx⟩ h
theorem cut45 (s r : List UInt8) (h : s = 45 :: r) : Lib.trimPrefix s [45] = r ∧ Lib.hasPrefix s [45] = true := by
  subst h; exact ⟨by simp [Lib.trimPrefix, Lib.hasPrefix], by simp [Lib.hasPrefix]⟩
theorem nocut45 (s : List UInt8) (h : ∀ r, s ≠ 45 :: r) : Lib.trimPrefix s [45] = s ∧ Lib.hasPrefix s [45] = false := by
  have hp : Lib.hasPrefix s [45] = false := by
    cases s with
    | nil => rfl
    | cons a t =>
      have : a ≠ 45 := fun e => h t (by rw [e])
      show ((45 : UInt8) == a && List.isPrefixOf [] t) = false
      rw [beq_eq_false_iff_ne.2 (Ne.symm this), Bool.false_and]
  exact ⟨by simp [Lib.trimPrefix, hp], hp⟩
theorem iparse_back (x : Int) (hx : (ds x.natAbs).length ≤ 6) (W : World) : Calls Tryz.prog 5 #[.string (itx x)] W (Gives W (.two (.int x) (.is (.bool true)))) := by
  unfold itx
  have hd : ∀ w, Calls Tryz.prog 21 #[.string ⟨(Lib.decDigits x.natAbs).toArray⟩] w (Gives w (.two (.num x.natAbs) (.is (.bool true)))) := fun w => parse_back x.natAbs hx w
  by_cases hn : x < 0
  · rw [if_pos hn]
    have h := iparse_no W ⟨(45 :: Lib.decDigits x.natAbs).toArray⟩ ⟨(Lib.decDigits x.natAbs).toArray⟩ x.natAbs (cut45 _ _ (by simp)) hd (by omega)
    rwa [show -((x.natAbs : Nat) : Int) = x by omega] at h
  · rw [if_neg hn]
    have h := iparse_po W ⟨(Lib.decDigits x.natAbs).toArray⟩ ⟨(Lib.decDigits x.natAbs).toArray⟩ x.natAbs (nocut45 _ (fun r e => by
      have hb := dec_bytes x.natAbs 45 (by have e' : Lib.decDigits x.natAbs = 45 :: r := by simpa using e
                                           rw [e']; exact List.mem_cons_self ..)
      exact absurd hb.1 (by decide))) hd
    rwa [show ((x.natAbs : Nat) : Int) = x by omega] at h
end Go.Proofs.YtfjjmhbffbhhdaaGreatDoor
