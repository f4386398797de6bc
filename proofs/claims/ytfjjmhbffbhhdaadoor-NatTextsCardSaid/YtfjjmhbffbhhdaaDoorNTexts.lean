/- The law NatTexts: texts and bytes of numbers, there and back. -/
import Derived.Test.YtfjjmhbffbhhdaaDoorParse
import Derived.Test.YtfjjmhbffbhhdaaDoorNTxt
import Derived.Test.YtfjjmhbffbhhdaaDoorRTxt
import Derived.Test.YtfjjmhbffbhhdaaDoorRPar
import Derived.Test.YtfjjmhbffbhhdaaDoorFill
import Derived.Test.YtfjjmhbffbhhdaaDoorRoots0
import Derived.Test.YtfjjmhbffbhhdaaDoorDivS
import Derived.Test.YtfjjmhbffbhhdaaDoorCut
import Derived.Test.YtfjjmhbffbhhdaaDoorByt
import Derived.Test.YtfjjmhbffbhhdaaDoorShiftS
namespace Go.Proofs.YtfjjmhbffbhhdaaDoor
open Go.RowKit

theorem run_FromBytes : RowKit.Hid (∀ (a : Array Value) (w : World), Sem.run Tryd.prog (callFunc 23 a) w = .ok (.enter 23 a) w) := fun a w => by go_simp
theorem run_Parse : RowKit.Hid (∀ (a : Array Value) (w : World), Sem.run Tryd.prog (callFunc 5 a) w = .ok (.enter 5 a) w) := fun a w => by go_simp
theorem run_Pick : RowKit.Hid (∀ (a : Array Value) (w : World), Sem.run Tryd.prog (callFunc 24 a) w = .ok (.enter 24 a) w) := fun a w => by go_simp
theorem run_is : RowKit.Hid (∀ (a : Array Value) (w : World), Sem.run Tryd.prog (callFunc 20 a) w = .ok (.enter 20 a) w) := fun a w => by go_simp
theorem run_known : RowKit.Hid (∀ (a : Array Value) (w : World), Sem.run Tryd.prog (callFunc 11 a) w = .ok (.enter 11 a) w) := fun a w => by go_simp
theorem run_nBits : RowKit.Hid (∀ (a : Array Value) (w : World), Sem.run Tryd.prog (callFunc 12 a) w = .ok (.enter 12 a) w) := fun a w => by go_simp
theorem run_nBytes : RowKit.Hid (∀ (a : Array Value) (w : World), Sem.run Tryd.prog (callFunc 16 a) w = .ok (.enter 16 a) w) := fun a w => by go_simp
theorem run_rBits : RowKit.Hid (∀ (a : Array Value) (w : World), Sem.run Tryd.prog (callFunc 22 a) w = .ok (.enter 22 a) w) := fun a w => by go_simp
theorem run_rParse : RowKit.Hid (∀ (a : Array Value) (w : World), Sem.run Tryd.prog (callFunc 19 a) w = .ok (.enter 19 a) w) := fun a w => by go_simp
theorem run_rText : RowKit.Hid (∀ (a : Array Value) (w : World), Sem.run Tryd.prog (callFunc 21 a) w = .ok (.enter 21 a) w) := fun a w => by go_simp
theorem run_two : RowKit.Hid (∀ (a : Array Value) (w : World), Sem.run Tryd.prog (callFunc 18 a) w = .ok (.enter 18 a) w) := fun a w => by go_simp
def fullS (xs : List Nat) : Stable where
  says w v := (∀ x ∈ xs, x < 256) ∧ ∃ b, v = .slice (some ⟨b, 0, none⟩) xs.length xs.length ∧ At w .u8 b 0 xs
  mono _ _ _ hb := fun ⟨h0, b, h1, h2⟩ => ⟨h0, b, h1, h2.mono hb⟩
  stored _ _ _ _ _ _ _ hb hs := fun ⟨h0, b, h1, h2⟩ => ⟨h0, b, h1, fun i hi => u8_stored hb hs (h2 i hi)⟩
section
variable {E : Operand → Value} {w : World} {d : Option Tmp} {ty : TypeId} {pos : String} {af : Array Edge} {gd : Option (Nat × Bool)}
set_option maxRecDepth 100000 in
theorem ev_makeB {x y : Operand} {z : Nat} (h1 : E x = .int .i64 (z : Int)) (h2 : E y = .int .i64 (z : Int)) (hz : z ≤ 1000) :
    Does Tryd.prog ⟨d, .makeSlice 40 x y, ty, pos, af, gd⟩ E w fun v' w' => Means w' (.that (fullS (List.replicate z 0))) v' ∧ Below w.heap.size w w' := by
  have hm := make_u8 z (by omega) w
  refine Does.value (v := .slice (some ⟨w.heap.size, 0, none⟩) z z) (w' := w.alloc (.cells (madeCells #[.int .u8 0] z) 5)) (by go_simp) ⟨⟨fun x hx => ?_, w.heap.size, by rw [List.length_replicate], At.made w .u8 z 5⟩, below_alloc (Below.refl _ _) _⟩
  rw [(List.mem_replicate.1 hx).2]; omega
theorem ev_neqS {x y : Operand} {s : ByteArray} (h1 : E x = .string s) (h2 : E y = .string s) (_ : True) : Does Tryd.prog ⟨d, .binOp .neq 9 x y 9, ty, pos, af, gd⟩ E w fun v' w' => v' = .bool false ∧ Below w.heap.size w w' :=
  Does.value (v := .bool false) (w' := w) (by go_simp) ⟨rfl, Below.refl _ _⟩
end
theorem nb_zeros (z m : Nat) : nb (List.replicate z 0 ++ be m) = m := by
  have h : nb (List.replicate z 0 ++ be m) = nb (be m) := by
    unfold nb
    rw [List.reverse_append, val_append]
    have : ∀ k, val 256 (List.replicate k 0).reverse = 0 := fun k => by
      rw [List.reverse_replicate]
      induction k with
      | zero => rfl
      | succ k ih => rw [List.replicate_succ, val, ih]
    rw [this, Nat.mul_zero, Nat.add_zero]
  rw [h, nb_be]
theorem be_short {m : Nat} (h : (ds m).length ≤ 6) : (be m).length ≤ 1000 := by
  have h1 := bitLen_ds m
  have h2 := ds_pos m
  rw [be_length]
  have h3 : bitLen m ≤ 64 * (ds m).length := by
    have h4 : m < 2 ^ (64 * (ds m).length) := by
      by_cases h0 : m = 0
      · subst h0; exact Nat.pow_pos (by omega)
      · rw [ds_big h0, Nat.pow_mul]; exact lt_pow_digs (by omega) m
    exact bitLen_lt_pow.1 h4
  omega
theorem six_words {m : Nat} (h : (ds m).length ≤ 6) : m < 10 ^ 200 := by
  have h4 : m < (2 ^ 64) ^ 6 := by
    by_cases h0 : m = 0
    · subst h0; exact Nat.pow_pos (by omega)
    · rw [ds_big h0] at h
      exact Nat.lt_of_lt_of_le (lt_pow_digs (by omega) m) (Nat.pow_le_pow_right (by omega) h)
  have : (2 ^ 64) ^ 6 ≤ 10 ^ 200 := by decide +kernel
  omega
theorem dec_SB (m : Nat) : SB ⟨(Lib.decDigits m).toArray⟩ ((Lib.decDigits m).map fun b => b.toNat) := by
  refine ⟨by rw [List.length_map]; exact List.size_toArray.symm, fun k hk => ?_⟩
  have hk' : k < (Lib.decDigits m).length := by rw [← List.size_toArray]; exact hk
  rw [List.getD_eq_getElem?_getD, List.getElem?_map, List.getElem?_eq_getElem hk']
  rfl
theorem dec_DecText {m : Nat} (h : m < 10 ^ 200) : DecText ((Lib.decDigits m).map fun b => b.toNat) := by
  have hl := dec_len_le 199 m h
  refine ⟨by rw [List.length_map]; exact dec_len_pos m, by rw [List.length_map]; exact hl, ?_, fun i hi => ?_⟩
  · by_cases h0 : m = 0
    · right; subst h0; rw [Lib.decDigits_one (by omega)]; rfl
    · left
      obtain ⟨b, t, e, hb⟩ := dec_first m h0
      rw [e]
      exact hb
  · rw [List.length_map] at hi
    rw [List.getD_eq_getElem?_getD, List.getElem?_map, List.getElem?_eq_getElem hi]
    exact dec_bytes m _ (List.getElem_mem hi)
theorem dec_decv (m : Nat) : decv (((Lib.decDigits m).map fun b => b.toNat).map (· - 48)) = m := by
  rw [List.map_map]; exact dec_value m
theorem parse_back (m : Nat) (h : (ds m).length ≤ 6) (W : World) : Calls Tryd.prog 5 #[.string ⟨(Lib.decDigits m).toArray⟩] W (Gives W (.two (.num m) (.is (.bool true)))) := by
  have h6 := six_words h
  have hl := dec_len_le 199 m h6
  have h1 := (parse_text W ⟨(Lib.decDigits m).toArray⟩ _ (dec_SB m) (by show (Lib.decDigits m).toArray.size ≤ _; rw [List.size_toArray]; omega)).1 (dec_DecText h6)
  rw [dec_decv] at h1
  exact h1
theorem two_gives (w : World) (p : Option Addr) (l c : Nat) (bs : List Nat) (m : Nat) (hm : nb (bs.take 48) = m) (h : IsB w p l c bs) :
    Calls Tryd.prog 18 #[.slice p l c, .slice none 0 0] w (Gives w (.that (fourS (.num m) (.num 0) (.rnum m) (.rnum 0) rfl))) := by
  subst hm
  refine (two_any p none l c 0 0 bs [] w h ⟨rfl, (fun x hx => by cases hx), Or.inl ⟨rfl, rfl, rfl⟩⟩).mono ?_
  rintro e w' ⟨s1, p1, l1, c1, s2, p2, l2, c2, p3, l3, c3, p4, l4, c4, rfl, n1, n2, r1, r2, hb⟩
  have e0 : nb (([] : List Nat).take 48) = 0 := rfl
  rw [e0] at n2 r2
  exact ⟨_, rfl, ⟨_, _, _, _, rfl, ⟨_, _, _, _, rfl, n1⟩, ⟨_, _, _, _, rfl, n2⟩, ⟨_, _, _, rfl, r1⟩, ⟨_, _, _, rfl, r2⟩⟩, hb⟩
theorem known_gives (w : World) : Calls Tryd.prog 11 #[] w (Gives w (.is (.bool true))) := (known_any w).mono fun _ _ ⟨h, hb⟩ => ⟨_, h, rfl, hb⟩
theorem is_gives (w : World) (u v : Value) (n : Nat) (hn : (ds n).length ≤ 60) (h1 : Num w u n) (h2 : RNum w v n) : Calls Tryd.prog 20 #[u, v] w (Gives w (.is (.bool true))) :=
  (is_want w u v n (by omega) h1 h2).mono fun _ _ ⟨v, h, h1, hb⟩ => ⟨v, h, h1, hb⟩
theorem ntext_gives (w : World) (u : Value) (n : Nat) (hn : (ds n).length ≤ 6) (ht : TabP w) (h : Num w u n) : Calls Tryd.prog 14 #[u] w (Gives w (.is (.string ⟨(Lib.decDigits n).toArray⟩))) := by
  obtain ⟨s, p, l, c, rfl, h⟩ := h
  exact (text_any n s p l c w h (by omega) ht).mono fun _ _ ⟨h, hb⟩ => ⟨_, h, rfl, hb⟩
theorem rtext_gives (w : World) (u : Value) (n : Nat) (hn : (ds n).length ≤ 6) (h : RNum w u n) : Calls Tryd.prog 21 #[u] w (Gives w (.is (.string ⟨(Lib.decDigits n).toArray⟩))) := by
  obtain ⟨p, l, c, rfl, h⟩ := h
  have := h.short hn
  exact (rText_any p l c n w (by omega) h).mono fun _ _ ⟨h, hb⟩ => ⟨_, h, rfl, hb⟩
theorem nbits_gives (w : World) (u : Value) (n : Nat) (hn : (ds n).length ≤ 6) (h : Num w u n) : Calls Tryd.prog 12 #[u] w (Gives w (.is (.int .i64 ((bitLen n : Nat) : Int)))) := by
  obtain ⟨s, p, l, c, rfl, h⟩ := h
  exact (nbits_any n s p l c w h (by omega)).mono fun _ _ ⟨h, hb⟩ => ⟨_, h, rfl, hb⟩
theorem rbits_gives (w : World) (u : Value) (n : Nat) (hn : (ds n).length ≤ 6) (h : RNum w u n) : Calls Tryd.prog 22 #[u] w (Gives w (.is (.int .i64 ((bitLen n : Nat) : Int)))) := by
  obtain ⟨p, l, c, rfl, h⟩ := h
  have := h.short hn
  exact (rbits_any n p l c w h (by omega)).mono fun _ _ ⟨h1, h⟩ => ⟨_, h, rfl, by rw [h1]; exact Below.refl _ _⟩
theorem pick_gives (w : World) (k : Int) (z : Nat) (h : k % ((9 : Nat) : Int) = (z : Int) ∧ z < 9 ∧ -9223372036854775808 ≤ k ∧ k ≤ 9223372036854775807) : Calls Tryd.prog 24 #[.int .i64 k, .int .i64 9] w (Gives w (.is (.int .i64 ((z : Nat) : Int)))) :=
  (pick_any k 9 w h.2.2.1 h.2.2.2 (by omega) (by omega)).mono fun _ _ ⟨h1, h2⟩ => ⟨_, h2, by rw [h.1]; rfl, by rw [h1]; exact Below.refl _ _⟩
theorem nbytes_gives (w : World) (u : Value) (n : Nat) (hn : (ds n).length ≤ 6) (h : Num w u n) : Calls Tryd.prog 16 #[u] w (Gives w (.that (rowS (be n)))) := by
  obtain ⟨s, p, l, c, rfl, h⟩ := h
  exact (nbytes_any n s p l c w h (by omega)).mono fun _ _ ⟨b, off, c, h, h1, _, h2, _, hb⟩ => ⟨_, h, ⟨be_lt n, b, off, c, rfl, h1, h2⟩, hb⟩
theorem from_gives (w : World) (u : Value) (bs : List Nat) (m : Nat) (hm : nb bs = m) (hl : bs.length ≤ 2000) (h : Means w (.that (rowS bs)) u) : Calls Tryd.prog 23 #[u] w (Gives w (.num m)) := by
  obtain ⟨h0, b, off, c, rfl, _, h2⟩ := h
  subst hm
  exact (fromBytes_any b off c _ bs w rfl (by omega) h2 h0).mono fun _ _ ⟨_, _, _, _, h, h1, hb⟩ => ⟨_, h, ⟨_, _, _, _, rfl, h1⟩, hb⟩
theorem cmp_self (w : World) (u v : Value) (m : Nat) (hm : (ds m).length ≤ 6) (h1 : Num w u m) (h2 : Num w v m) : Calls Tryd.prog 15 #[u, v] w (Gives w (.is (.int .i64 0))) :=
  (cmp_want w u v m m (by omega) h1 h2).mono fun _ _ ⟨v, h, h1, hb⟩ => ⟨v, h, by rw [h1, cmp3_eq]; rfl, hb⟩
set_option maxRecDepth 100000 in
theorem ev_appB {E : Operand → Value} {w : World} {d : Option Tmp} {ty : TypeId} {pos : String} {af : Array Edge} {gd : Option (Nat × Bool)} {x y : Operand} {z : Nat} {Y : List Nat} (hX : z ≤ 1000) (hY : Y.length ≤ 1000)
    (h1 : Means w (.that (fullS (List.replicate z 0))) (E x)) (h2 : Means w (.that (rowS Y)) (E y)) :
    Does Tryd.prog ⟨d, .call ⟨.builtin .append, #[x, y], #[40, 40]⟩, ty, pos, af, gd⟩ E w fun v' w' => Means w' (.that (rowS (List.replicate z 0 ++ Y))) v' ∧ Below w.heap.size w w' := by
  obtain ⟨i0, hi, hz0, hz1, hz2⟩ := info_parts Tryd.infoU8
  obtain ⟨hx0, b, ex, ha⟩ := h1
  obtain ⟨hy0, b2, off2, c2, ey, hc2, hb⟩ := h2
  rw [List.length_replicate] at ex
  have hall : ∀ v ∈ List.replicate z 0 ++ Y, v < 256 := fun v hv => by rcases List.mem_append.1 hv with h | h; exact hx0 v h; exact hy0 v h
  rcases Nat.eq_zero_or_pos Y.length with h0 | h0
  · obtain rfl : Y = [] := List.eq_nil_of_length_eq_zero h0
    have hr : (Builtin.append_ #[40, 40] ty #[.slice (some ⟨b, 0, none⟩) z z, .slice (some ⟨b2, off2, none⟩) 0 c2]).run Tryd.prog w = .ok (.slice (some ⟨b, 0, none⟩) z z) w := by
      simp [Builtin.append_, run_underlying Tryd.underlying40, sizeOf, typeInfo, hi, Builtin.lenOf, Builtin.firstCells, loadCells, loadCellsFrom, storeCells]
    rw [List.append_nil]
    refine Does.value (v := .slice (some ⟨b, 0, none⟩) z z) (w' := w) ?_ ⟨⟨hx0, b, 0, z, by rw [List.length_replicate], by rw [List.length_replicate]; exact Nat.le_refl _, ha⟩, Below.refl _ _⟩
    unfold execOp
    simp only [resolve, invoke, builtin, Sem.run_bind, Sem.run_pure, Result.andThen_ok, List.map_toArray, List.map_cons, List.map_nil, ex, ey, List.length_nil, hr]
  · have hb1 : i0.bytes = 1 := hz2
    have hr := run_append_grow (P := Tryd.prog) w 40 ty 5 i0 (.int .u8 0) Tryd.underlying40 hi hz0 ⟨b, 0, none⟩ z z (cellsOfRow .u8 (List.replicate z 0)) (by rw [hz1]; simp [cellsOfRow]) (fun j v hj => cells_at ha j v hj) ⟨b2, off2, none⟩ Y.length c2 (cellsOfRow .u8 Y) (by rw [hz1]; simp [cellsOfRow]) (fun j v hj => cells_at hb j v hj) (by omega) (by omega) (by rw [hb1]; exact growslice_fits (by omega) (by omega))
    obtain ⟨K, hK⟩ : ∃ K, K = grownCap w (z + Y.length) z 5 := ⟨_, rfl⟩
    have hKg : z + Y.length ≤ K := by rw [hK]; exact grownCap_ge _ _ _ _
    rw [← hK] at hr
    refine Does.value (v := .slice (some ⟨w.heap.size, 0, none⟩) (z + Y.length) K) (w' := w.drew.alloc (.cells ((cellsOfRow .u8 (List.replicate z 0)).toArray ++ (cellsOfRow .u8 Y).toArray ++ Builtin.zeroCells (Value.int .u8 0).cells (K - (z + Y.length))) 5)) ?_ ⟨⟨hall, w.heap.size, 0, K, by rw [List.length_append, List.length_replicate], by rw [List.length_append, List.length_replicate]; exact hKg, ?_⟩, ?_⟩
    · unfold execOp
      simp only [resolve, invoke, builtin, Sem.run_bind, Sem.run_pure, Result.andThen_ok, List.map_toArray, List.map_cons, List.map_nil, ex, ey, hr]
    · intro i hi'
      have e0 : w.heap.size = w.drew.heap.size := rfl
      have hil : i < (cellsOfRow .u8 (List.replicate z 0 ++ Y)).length := by rw [cells_len]; exact hi'
      have e1 : (cellsOfRow .u8 (List.replicate z 0)).toArray ++ (cellsOfRow .u8 Y).toArray = (cellsOfRow .u8 (List.replicate z 0 ++ Y)).toArray := by rw [cells_app]; simp
      rw [e0, World.cell?_alloc_at _ _ _ _ rfl, Nat.zero_add, e1, Array.getElem?_append_left (by rw [List.size_toArray]; exact hil), List.getElem?_toArray]
      rw [cellsOfRow, List.getElem?_map, List.getD_eq_getElem?_getD, List.getElem?_eq_getElem hi']
      rfl
    · exact below_alloc (Below.refl _ _).drew _
set_option maxRecDepth 100000 in
set_option maxHeartbeats 4000000 in
theorem ntexts_num (w : World) (s : ByteArray) (p : Option Addr) (l c : Nat) (bs : List Nat) (m v z : Nat) (k : Int) (hm : nb (bs.take 48) = m) (hib : IsB w p l c bs) (hT : TabP w) (hz : k % ((9 : Nat) : Int) = (z : Int) ∧ z < 9 ∧ -9223372036854775808 ≤ k ∧ k ≤ 9223372036854775807) (hp : ∀ W, Calls Tryd.prog 5 #[.string s] W (Gives W (.two (.num v) (.is (.bool true))))) (hr : ∀ W, Calls Tryd.prog 19 #[.string s] W (Gives W (.two (.rnum v) (.is (.bool true))))) (hvs : (ds v).length ≤ 60)  :
    Calls Tryd.prog 4 #[.string s, .slice p l c, .int .i64 k] w (Gives w (.is (.bool true))) := by
  have HM := Lib.hid hm; have HIB := Lib.hid hib; have TB := Lib.hid hT; have HZ := Lib.hid hz
  have hms : (ds m).length ≤ 6 := by rw [← hm]; have := ds_nb bs hib.2.1; omega
  have HMS := Lib.hid hms; have HZ9 : Hid (z ≤ 1000) := Lib.hid (by omega); have HLM : Hid ((be m).length ≤ 1000) := Lib.hid (be_short hms)
  have HLN : Hid ((List.replicate z 0 ++ be m).length ≤ 2000) := Lib.hid (by rw [List.length_append, List.length_replicate]; have := HZ9.out; have := HLM.out; omega)
  have HP2 := Lib.hid (parse_back m hms)
  clear hm hib hT hz hms
  have HP1 := Lib.hid hp; have HR1 := Lib.hid hr; have HVS := Lib.hid hvs; clear hp hr hvs
  go_enter Tryd.func4, Tryd.ntmps4
  have J := Frm.start (w := w) (V := []) fn
  refine wp_seq_h ?_; intro K1 hK1; go_wp2
  refine hK1.out _ _ ?_; clear hK1
  refine region_c [20, 21, 19, 22, 23, 24, 25, 8, 9, 0, 0, 10, 11] [.is (.slice p l c), .that (fourS (.num m) (.num 0) (.rnum m) (.rnum 0) rfl), .that (fourS (.num m) (.num 0) (.rnum m) (.rnum 0) rfl), .num m, .num 0, .rnum m, .rnum 0, .any, .any, .any, .any, .rnum m, .rnum 0] [] [⟨.nat, 7, 9, .num m, .agg #[.int .u64 0, .slice none 0 0]⟩, ⟨.nat, 8, 10, .num 0, .agg #[.int .u64 0, .slice none 0 0]⟩] [(11, 9)] J ?_ ?_
  · refine .pl rfl (fun _ _ W Γ => ev_move _ (Γ.s rfl)) ?_
    refine .pl rfl (fun _ _ W Γ => ev_call2 (Γ.f _) run_two (by rw [Γ.c, (show _ = Value.slice p l c from (Γ.k (d := 19) 0 rfl))]; exact show Calls Tryd.prog 18 #[_, _] W (Gives W (.that (fourS (.num m) (.num 0) (.rnum m) (.rnum 0) rfl))) from two_gives W p l c bs m HM.out (HIB.out.mono Γ.be))) ?_
    refine .pl rfl (fun _ _ W Γ => ev_moveM (Γ.w 1 rfl)) ?_
    refine .pl rfl (fun _ _ W Γ => ev_ex40 (Γ.w 2 rfl)) ?_
    refine .pl rfl (fun _ _ W Γ => ev_ex41 (Γ.w 2 rfl)) ?_
    refine .pl rfl (fun _ _ W Γ => ev_ex42 (Γ.w 2 rfl)) ?_
    refine .pl rfl (fun _ _ W Γ => ev_ex43 (Γ.w 2 rfl)) ?_
    refine .al 0 rfl rfl (fun _ _ => ev_alN) ?_
    refine .al 1 rfl rfl (fun _ _ => ev_alN) ?_
    refine .sn 0 rfl rfl (fun _ _ W Γ => ev_stN (Γ.q 0 rfl) (Γ.un 0 rfl) (Γ.w 3 rfl)) ?_
    refine .sn 1 rfl rfl (fun _ _ W Γ => ev_stN (Γ.q 1 rfl) (Γ.un 1 rfl) (Γ.w 4 rfl)) ?_
    refine .pl rfl (fun _ _ W Γ => ev_assignM (Γ.w 5 rfl)) ?_
    refine .pl rfl (fun _ _ W Γ => ev_assignM (Γ.w 6 rfl)) ?_
    exact .nil
  clear J; intro K2 hK2; simp only [fx]; intro β2 f2 W2 J; refine hK2.out _ _ ?_; clear hK2
  refine region_c [27, 28, 26, 29, 30, 12, 0, 13] [.is (.string s), .two (.num v) (.is (.bool true)), .two (.num v) (.is (.bool true)), .num v, .is (.bool true), .any, .any, .is (.bool true)] [] [⟨.nat, 5, 6, .num v, .agg #[.int .u64 0, .slice none 0 0]⟩] [] J ?_ ?_
  · refine .pl rfl (fun _ _ W Γ => ev_move _ (Γ.s rfl)) ?_
    refine .pl rfl (fun _ _ W Γ => ev_call1 (Γ.f _) run_Parse (by rw [(show _ = Value.string s from (Γ.k (d := 26) 0 rfl))]; exact HP1.out W)) ?_
    refine .pl rfl (fun _ _ W Γ => ev_moveM (Γ.w 1 rfl)) ?_
    refine .pl rfl (fun _ _ W Γ => ev_ex20 (Γ.w 2 rfl)) ?_
    refine .pl rfl (fun _ _ W Γ => ev_ex21 (Γ.w 2 rfl)) ?_
    refine .al 0 rfl rfl (fun _ _ => ev_alN) ?_
    refine .sn 0 rfl rfl (fun _ _ W Γ => ev_stN (Γ.q 0 rfl) (Γ.un 0 rfl) (Γ.w 3 rfl)) ?_
    refine .pl rfl (fun _ _ W Γ => ev_assign _ (Γ.k 4 rfl)) ?_
    exact .nil
  clear J; intro K3 hK3; simp only [fx]; intro β3 f3 W3 J; refine hK3.out _ _ ?_; clear hK3
  refine region_c [32, 33, 31, 34, 35, 14, 15] [.is (.string s), .two (.rnum v) (.is (.bool true)), .two (.rnum v) (.is (.bool true)), .rnum v, .is (.bool true), .rnum v, .is (.bool true)] [] [] [(5, 13)] J ?_ ?_
  · refine .pl rfl (fun _ _ W Γ => ev_move _ (Γ.s rfl)) ?_
    refine .pl rfl (fun _ _ W Γ => ev_call1 (Γ.f _) run_rParse (by rw [(show _ = Value.string s from (Γ.k (d := 31) 0 rfl))]; exact HR1.out W)) ?_
    refine .pl rfl (fun _ _ W Γ => ev_moveM (Γ.w 1 rfl)) ?_
    refine .pl rfl (fun _ _ W Γ => ev_ex20 (Γ.w 2 rfl)) ?_
    refine .pl rfl (fun _ _ W Γ => ev_ex21 (Γ.w 2 rfl)) ?_
    refine .pl rfl (fun _ _ W Γ => ev_assignM (Γ.w 3 rfl)) ?_
    refine .pl rfl (fun _ _ W Γ => ev_assign _ (Γ.k 4 rfl)) ?_
    exact .nil
  clear J; intro K4 hK4; simp only [fx]; intro _ f4 W4 J; refine hK4.out _ _ ?_; clear hK4
  refine wp_seq_h ?_; intro K5 hK5
  refine region_c [36, 37, 38, 39, 40, 41, 42, 43, 44, 45, 46, 47, 48, 49, 50, 51, 52, 53, 54, 55, 56, 57, 58, 59, 60, 61, 62] [.is (.bool true), .is (.bool false), .is (.bool false), .is (.bool true), .is (.bool true), .is (.bool false), .is (.bool false), .is (.bool false), .num v, .rnum v, .is (.bool true), .is (.bool false), .is (.bool false), .is (.bool false), .num m, .is (.string ⟨(Lib.decDigits m).toArray⟩), .rnum m, .is (.string ⟨(Lib.decDigits m).toArray⟩), .is (.bool false), .is (.bool false), .is (.bool false), .num m, .is (.int .i64 ((bitLen m : Nat) : Int)), .rnum m, .is (.int .i64 ((bitLen m : Nat) : Int)), .is (.bool false), .is (.bool false)] [] [] [] J ?_ ?_
  · refine .pl rfl (fun _ _ W Γ => ev_call0 (Γ.f _) run_known (known_gives W)) ?_
    refine .pl rfl (fun _ _ W Γ => ev_not (Γ.k 0 rfl) rfl) ?_
    refine .pl rfl (fun _ _ W Γ => ev_move _ (Γ.k 1 rfl)) ?_
    refine .gu rfl rfl rfl rfl (fun _ _ W Γ => ev_move _ (Γ.s rfl)) ?_
    refine .gu rfl rfl rfl rfl (fun _ _ W Γ => ev_move _ (Γ.s rfl)) ?_
    refine .gu rfl rfl rfl rfl (fun _ E W Γ => by
      have e1 : E (.tmp 38) = .bool true := (Γ.k 3 rfl)
      have e2 : E (.tmp 39) = .bool true := (Γ.k 4 rfl)
      have hc := Γ.c
      exact Does.value (w' := W) (by go_simp <;> first | rfl | (rw [IntKind.wrap_i64]; omega)) ⟨rfl, Below.refl _ _⟩) ?_
    refine .pl rfl (fun _ _ W Γ => ev_pick (Γ.k 2 rfl) (Γ.k 5 rfl)) ?_
    refine .pl rfl (fun _ _ W Γ => ev_move _ (Γ.k 6 rfl)) ?_
    refine .gu rfl rfl rfl rfl (fun _ _ W Γ => ev_ldN (Γ.s rfl) (Γ.l 2 rfl)) ?_
    refine .gu rfl rfl rfl rfl (fun _ _ W Γ => ev_moveM (Γ.m 0 rfl rfl)) ?_
    refine .gu rfl rfl rfl rfl (fun _ _ W Γ => ev_call2 (Γ.f _) run_is (is_gives W _ _ v HVS.out (Γ.w (d := 43) 8 rfl) (Γ.w (d := 44) 9 rfl))) ?_
    refine .gu rfl rfl rfl rfl (fun _ _ W Γ => ev_not (Γ.k 10 rfl) rfl) ?_
    refine .pl rfl (fun _ _ W Γ => ev_pick (Γ.k 7 rfl) (Γ.k 11 rfl)) ?_
    refine .pl rfl (fun _ _ W Γ => ev_move _ (Γ.k 12 rfl)) ?_
    refine .gu rfl rfl rfl rfl (fun _ _ W Γ => ev_ldN (Γ.s rfl) (Γ.l 0 rfl)) ?_
    refine .gu rfl rfl rfl rfl (fun _ _ W Γ => ev_call1 (Γ.f _) run_nText (ntext_gives W _ m HMS.out (TB.out.mono Γ.be) (Γ.w (d := 49) 14 rfl))) ?_
    refine .gu rfl rfl rfl rfl (fun _ _ W Γ => ev_moveM (Γ.m 1 rfl rfl)) ?_
    refine .gu rfl rfl rfl rfl (fun _ _ W Γ => ev_call1 (Γ.f _) run_rText (rtext_gives W _ m HMS.out (Γ.w (d := 51) 16 rfl))) ?_
    refine .gu rfl rfl rfl rfl (fun _ _ W Γ => ev_neqS (Γ.k 15 rfl) (Γ.k 17 rfl) trivial) ?_
    refine .pl rfl (fun _ _ W Γ => ev_pick (Γ.k 13 rfl) (Γ.k 18 rfl)) ?_
    refine .pl rfl (fun _ _ W Γ => ev_move _ (Γ.k 19 rfl)) ?_
    refine .gu rfl rfl rfl rfl (fun _ _ W Γ => ev_ldN (Γ.s rfl) (Γ.l 0 rfl)) ?_
    refine .gu rfl rfl rfl rfl (fun _ _ W Γ => ev_call1 (Γ.f _) run_nBits (nbits_gives W _ m HMS.out (Γ.w (d := 56) 21 rfl))) ?_
    refine .gu rfl rfl rfl rfl (fun _ _ W Γ => ev_moveM (Γ.m 1 rfl rfl)) ?_
    refine .gu rfl rfl rfl rfl (fun _ _ W Γ => ev_call1 (Γ.f _) run_rBits (rbits_gives W _ m HMS.out (Γ.w (d := 58) 23 rfl))) ?_
    refine .gu rfl rfl rfl rfl (fun _ _ W Γ => ev_neq (Γ.k 22 rfl) (Γ.k 24 rfl) (by simp)) ?_
    refine .pl rfl (fun _ _ W Γ => ev_pick (Γ.k 20 rfl) (Γ.k 25 rfl)) ?_
    exact .nil
  clear J; intro K6 hK6; simp only [fx]; intro _ f6 W6 J; refine hK6.out _ _ ?_; clear hK6
  refine wp_cond_false rfl ?_
  refine wp_skip ?_
  refine hK5.out _ _ ?_; clear hK5
  refine region_c [64, 65, 66, 63, 67, 68, 16, 0, 17] [.num m, .is (.string ⟨(Lib.decDigits m).toArray⟩), .two (.num m) (.is (.bool true)), .two (.num m) (.is (.bool true)), .num m, .is (.bool true), .any, .any, .is (.bool true)] [] [⟨.nat, 6, 7, .num m, .agg #[.int .u64 0, .slice none 0 0]⟩] [] J ?_ ?_
  · refine .pl rfl (fun _ _ W Γ => ev_ldN (Γ.s rfl) (Γ.l 0 rfl)) ?_
    refine .pl rfl (fun _ _ W Γ => ev_call1 (Γ.f _) run_nText (ntext_gives W _ m HMS.out (TB.out.mono Γ.be) (Γ.w (d := 63) 0 rfl))) ?_
    refine .pl rfl (fun _ _ W Γ => ev_call1 (Γ.f _) run_Parse (by rw [(show _ = Value.string ⟨(Lib.decDigits m).toArray⟩ from (Γ.k (d := 64) 1 rfl))]; exact HP2.out W)) ?_
    refine .pl rfl (fun _ _ W Γ => ev_moveM (Γ.w 2 rfl)) ?_
    refine .pl rfl (fun _ _ W Γ => ev_ex20 (Γ.w 3 rfl)) ?_
    refine .pl rfl (fun _ _ W Γ => ev_ex21 (Γ.w 3 rfl)) ?_
    refine .al 0 rfl rfl (fun _ _ => ev_alN) ?_
    refine .sn 0 rfl rfl (fun _ _ W Γ => ev_stN (Γ.q 0 rfl) (Γ.un 0 rfl) (Γ.w 4 rfl)) ?_
    refine .pl rfl (fun _ _ W Γ => ev_assign _ (Γ.k 5 rfl)) ?_
    exact .nil
  clear J; intro K7 hK7; simp only [fx]; intro β7 f7 W7 J; refine hK7.out _ _ ?_; clear hK7
  refine region_c [69, 70, 71, 72, 73, 74, 75, 18, 0] [.is (.int .i64 k), .is (.int .i64 ((z : Nat) : Int)), .that (fullS (List.replicate z 0)), .num m, .that (rowS (be m)), .that (rowS (List.replicate z 0 ++ be m)), .num m, .any, .any] [] [⟨.nat, 7, 8, .num m, .agg #[.int .u64 0, .slice none 0 0]⟩] [] J ?_ ?_
  · refine .pl rfl (fun _ _ W Γ => ev_move _ (Γ.s rfl)) ?_
    refine .pl rfl (fun _ _ W Γ => ev_call2 (Γ.f _) run_Pick (by rw [Γ.c, (show _ = Value.int .i64 k from (Γ.k (d := 68) 0 rfl))]; exact pick_gives W k z HZ.out)) ?_
    refine .pl rfl (fun _ _ W Γ => ev_makeB (Γ.k 1 rfl) (Γ.k 1 rfl) HZ9.out) ?_
    refine .pl rfl (fun _ _ W Γ => ev_ldN (Γ.s rfl) (Γ.l 0 rfl)) ?_
    refine .pl rfl (fun _ _ W Γ => ev_call1 (Γ.f _) run_nBytes (nbytes_gives W _ m HMS.out (Γ.w (d := 71) 3 rfl))) ?_
    refine .pl rfl (fun _ _ W Γ => ev_appB HZ9.out HLM.out (Γ.w 2 rfl) (Γ.w 4 rfl)) ?_
    refine .pl rfl (fun _ _ W Γ => ev_call1 (Γ.f _) run_FromBytes (from_gives W _ (List.replicate z 0 ++ be m) m (nb_zeros z m) HLN.out (Γ.w (d := 73) 5 rfl))) ?_
    refine .al 0 rfl rfl (fun _ _ => ev_alN) ?_
    refine .sn 0 rfl rfl (fun _ _ W Γ => ev_stN (Γ.q 0 rfl) (Γ.un 0 rfl) (Γ.w 6 rfl)) ?_
    exact .nil
  clear J; intro K8 hK8; simp only [fx]; intro β8 f8 W8 J; refine hK8.out _ _ ?_; clear hK8
  refine region_c [76, 77, 78, 79, 80, 81, 82, 83, 84, 85, 86, 87, 88, 7] [.is (.bool true), .is (.bool true), .num m, .num m, .is (.int .i64 0), .is (.bool true), .is (.bool true), .is (.bool true), .num m, .num m, .is (.int .i64 0), .is (.bool true), .is (.bool true), .is (.bool true)] [] [] [] J ?_ ?_
  · refine .pl rfl (fun _ _ W Γ => ev_move _ (Γ.s rfl)) ?_
    refine .pl rfl (fun _ _ W Γ => ev_move _ (Γ.k 0 rfl)) ?_
    refine .gu rfl rfl rfl rfl (fun _ _ W Γ => ev_ldN (Γ.s rfl) (Γ.l 3 rfl)) ?_
    refine .gu rfl rfl rfl rfl (fun _ _ W Γ => ev_ldN (Γ.s rfl) (Γ.l 0 rfl)) ?_
    refine .gu rfl rfl rfl rfl (fun _ _ W Γ => ev_call2 (Γ.f _) run_nCmp (cmp_self W _ _ m HMS.out (Γ.w (d := 77) 2 rfl) (Γ.w (d := 78) 3 rfl))) ?_
    refine .gu rfl rfl rfl rfl (fun _ E W Γ => by
      have e1 : E (.tmp 79) = .int .i64 0 := (Γ.k 4 rfl)
      have hc := Γ.c
      exact Does.value (w' := W) (by go_simp <;> first | rfl | (rw [IntKind.wrap_i64]; omega)) ⟨rfl, Below.refl _ _⟩) ?_
    refine .pl rfl (fun _ _ W Γ => ev_pick (Γ.k 1 rfl) (Γ.k 5 rfl)) ?_
    refine .pl rfl (fun _ _ W Γ => ev_move _ (Γ.k 6 rfl)) ?_
    refine .gu rfl rfl rfl rfl (fun _ _ W Γ => ev_ldN (Γ.s rfl) (Γ.l 4 rfl)) ?_
    refine .gu rfl rfl rfl rfl (fun _ _ W Γ => ev_ldN (Γ.s rfl) (Γ.l 0 rfl)) ?_
    refine .gu rfl rfl rfl rfl (fun _ _ W Γ => ev_call2 (Γ.f _) run_nCmp (cmp_self W _ _ m HMS.out (Γ.w (d := 83) 8 rfl) (Γ.w (d := 84) 9 rfl))) ?_
    refine .gu rfl rfl rfl rfl (fun _ E W Γ => by
      have e1 : E (.tmp 85) = .int .i64 0 := (Γ.k 10 rfl)
      have hc := Γ.c
      exact Does.value (w' := W) (by go_simp <;> first | rfl | (rw [IntKind.wrap_i64]; omega)) ⟨rfl, Below.refl _ _⟩) ?_
    refine .pl rfl (fun _ _ W Γ => ev_pick (Γ.k 7 rfl) (Γ.k 11 rfl)) ?_
    refine .pl rfl (fun _ _ W Γ => ev_assign _ (Γ.k 12 rfl)) ?_
    exact .nil
  clear J; intro K9 hK9; simp only [fx]; intro _ f9 W9 J; refine hK9.out _ _ ?_; clear hK9
  refine wp_ret ?_
  exact bodyPost_ret (v := .bool true) (by simp [results, Tryd.results4, go_sem]) rfl ⟨_, rfl, rfl, J.out.be⟩
set_option maxRecDepth 100000 in
set_option maxHeartbeats 4000000 in
theorem ntexts_none (w : World) (s : ByteArray) (p : Option Addr) (l c : Nat) (bs : List Nat) (m v z : Nat) (k : Int) (hm : nb (bs.take 48) = m) (hib : IsB w p l c bs) (hT : TabP w) (hz : k % ((9 : Nat) : Int) = (z : Int) ∧ z < 9 ∧ -9223372036854775808 ≤ k ∧ k ≤ 9223372036854775807) (hp : ∀ W, Calls Tryd.prog 5 #[.string s] W (Gives W (.two (.num 0) (.is (.bool false))))) (hr : ∀ W, Calls Tryd.prog 19 #[.string s] W (Gives W (.two (.rnum 0) (.is (.bool false))))) (hvs : (ds v).length ≤ 60)  :
    Calls Tryd.prog 4 #[.string s, .slice p l c, .int .i64 k] w (Gives w (.is (.bool true))) := by
  have HM := Lib.hid hm; have HIB := Lib.hid hib; have TB := Lib.hid hT; have HZ := Lib.hid hz
  have hms : (ds m).length ≤ 6 := by rw [← hm]; have := ds_nb bs hib.2.1; omega
  have HMS := Lib.hid hms; have HZ9 : Hid (z ≤ 1000) := Lib.hid (by omega); have HLM : Hid ((be m).length ≤ 1000) := Lib.hid (be_short hms)
  have HLN : Hid ((List.replicate z 0 ++ be m).length ≤ 2000) := Lib.hid (by rw [List.length_append, List.length_replicate]; have := HZ9.out; have := HLM.out; omega)
  have HP2 := Lib.hid (parse_back m hms)
  clear hm hib hT hz hms
  have HP1 := Lib.hid hp; have HR1 := Lib.hid hr; have HVS := Lib.hid hvs; clear hp hr hvs
  go_enter Tryd.func4, Tryd.ntmps4
  have J := Frm.start (w := w) (V := []) fn
  refine wp_seq_h ?_; intro K1 hK1; go_wp2
  refine hK1.out _ _ ?_; clear hK1
  refine region_c [20, 21, 19, 22, 23, 24, 25, 8, 9, 0, 0, 10, 11] [.is (.slice p l c), .that (fourS (.num m) (.num 0) (.rnum m) (.rnum 0) rfl), .that (fourS (.num m) (.num 0) (.rnum m) (.rnum 0) rfl), .num m, .num 0, .rnum m, .rnum 0, .any, .any, .any, .any, .rnum m, .rnum 0] [] [⟨.nat, 7, 9, .num m, .agg #[.int .u64 0, .slice none 0 0]⟩, ⟨.nat, 8, 10, .num 0, .agg #[.int .u64 0, .slice none 0 0]⟩] [(11, 9)] J ?_ ?_
  · refine .pl rfl (fun _ _ W Γ => ev_move _ (Γ.s rfl)) ?_
    refine .pl rfl (fun _ _ W Γ => ev_call2 (Γ.f _) run_two (by rw [Γ.c, (show _ = Value.slice p l c from (Γ.k (d := 19) 0 rfl))]; exact show Calls Tryd.prog 18 #[_, _] W (Gives W (.that (fourS (.num m) (.num 0) (.rnum m) (.rnum 0) rfl))) from two_gives W p l c bs m HM.out (HIB.out.mono Γ.be))) ?_
    refine .pl rfl (fun _ _ W Γ => ev_moveM (Γ.w 1 rfl)) ?_
    refine .pl rfl (fun _ _ W Γ => ev_ex40 (Γ.w 2 rfl)) ?_
    refine .pl rfl (fun _ _ W Γ => ev_ex41 (Γ.w 2 rfl)) ?_
    refine .pl rfl (fun _ _ W Γ => ev_ex42 (Γ.w 2 rfl)) ?_
    refine .pl rfl (fun _ _ W Γ => ev_ex43 (Γ.w 2 rfl)) ?_
    refine .al 0 rfl rfl (fun _ _ => ev_alN) ?_
    refine .al 1 rfl rfl (fun _ _ => ev_alN) ?_
    refine .sn 0 rfl rfl (fun _ _ W Γ => ev_stN (Γ.q 0 rfl) (Γ.un 0 rfl) (Γ.w 3 rfl)) ?_
    refine .sn 1 rfl rfl (fun _ _ W Γ => ev_stN (Γ.q 1 rfl) (Γ.un 1 rfl) (Γ.w 4 rfl)) ?_
    refine .pl rfl (fun _ _ W Γ => ev_assignM (Γ.w 5 rfl)) ?_
    refine .pl rfl (fun _ _ W Γ => ev_assignM (Γ.w 6 rfl)) ?_
    exact .nil
  clear J; intro K2 hK2; simp only [fx]; intro β2 f2 W2 J; refine hK2.out _ _ ?_; clear hK2
  refine region_c [27, 28, 26, 29, 30, 12, 0, 13] [.is (.string s), .two (.num 0) (.is (.bool false)), .two (.num 0) (.is (.bool false)), .num 0, .is (.bool false), .any, .any, .is (.bool false)] [] [⟨.nat, 5, 6, .num 0, .agg #[.int .u64 0, .slice none 0 0]⟩] [] J ?_ ?_
  · refine .pl rfl (fun _ _ W Γ => ev_move _ (Γ.s rfl)) ?_
    refine .pl rfl (fun _ _ W Γ => ev_call1 (Γ.f _) run_Parse (by rw [(show _ = Value.string s from (Γ.k (d := 26) 0 rfl))]; exact HP1.out W)) ?_
    refine .pl rfl (fun _ _ W Γ => ev_moveM (Γ.w 1 rfl)) ?_
    refine .pl rfl (fun _ _ W Γ => ev_ex20 (Γ.w 2 rfl)) ?_
    refine .pl rfl (fun _ _ W Γ => ev_ex21 (Γ.w 2 rfl)) ?_
    refine .al 0 rfl rfl (fun _ _ => ev_alN) ?_
    refine .sn 0 rfl rfl (fun _ _ W Γ => ev_stN (Γ.q 0 rfl) (Γ.un 0 rfl) (Γ.w 3 rfl)) ?_
    refine .pl rfl (fun _ _ W Γ => ev_assign _ (Γ.k 4 rfl)) ?_
    exact .nil
  clear J; intro K3 hK3; simp only [fx]; intro β3 f3 W3 J; refine hK3.out _ _ ?_; clear hK3
  refine region_c [32, 33, 31, 34, 35, 14, 15] [.is (.string s), .two (.rnum 0) (.is (.bool false)), .two (.rnum 0) (.is (.bool false)), .rnum 0, .is (.bool false), .rnum 0, .is (.bool false)] [] [] [(5, 13)] J ?_ ?_
  · refine .pl rfl (fun _ _ W Γ => ev_move _ (Γ.s rfl)) ?_
    refine .pl rfl (fun _ _ W Γ => ev_call1 (Γ.f _) run_rParse (by rw [(show _ = Value.string s from (Γ.k (d := 31) 0 rfl))]; exact HR1.out W)) ?_
    refine .pl rfl (fun _ _ W Γ => ev_moveM (Γ.w 1 rfl)) ?_
    refine .pl rfl (fun _ _ W Γ => ev_ex20 (Γ.w 2 rfl)) ?_
    refine .pl rfl (fun _ _ W Γ => ev_ex21 (Γ.w 2 rfl)) ?_
    refine .pl rfl (fun _ _ W Γ => ev_assignM (Γ.w 3 rfl)) ?_
    refine .pl rfl (fun _ _ W Γ => ev_assign _ (Γ.k 4 rfl)) ?_
    exact .nil
  clear J; intro K4 hK4; simp only [fx]; intro _ f4 W4 J; refine hK4.out _ _ ?_; clear hK4
  refine wp_seq_h ?_; intro K5 hK5
  refine region_c [36, 37, 38, 39, 40, 41, 42, 43, 44, 45, 46, 47, 48, 49, 50, 51, 52, 53, 54, 55, 56, 57, 58, 59, 60, 61, 62] [.is (.bool true), .is (.bool false), .is (.bool false), .is (.bool false), .is (.bool false), .is (.bool false), .is (.bool false), .is (.bool false), .num 0, .rnum 0, .is (.bool true), .is (.bool false), .is (.bool false), .is (.bool false), .num m, .is (.string ⟨(Lib.decDigits m).toArray⟩), .rnum m, .is (.string ⟨(Lib.decDigits m).toArray⟩), .is (.bool false), .is (.bool false), .is (.bool false), .num m, .is (.int .i64 ((bitLen m : Nat) : Int)), .rnum m, .is (.int .i64 ((bitLen m : Nat) : Int)), .is (.bool false), .is (.bool false)] [] [] [] J ?_ ?_
  · refine .pl rfl (fun _ _ W Γ => ev_call0 (Γ.f _) run_known (known_gives W)) ?_
    refine .pl rfl (fun _ _ W Γ => ev_not (Γ.k 0 rfl) rfl) ?_
    refine .pl rfl (fun _ _ W Γ => ev_move _ (Γ.k 1 rfl)) ?_
    refine .gu rfl rfl rfl rfl (fun _ _ W Γ => ev_move _ (Γ.s rfl)) ?_
    refine .gu rfl rfl rfl rfl (fun _ _ W Γ => ev_move _ (Γ.s rfl)) ?_
    refine .gu rfl rfl rfl rfl (fun _ E W Γ => by
      have e1 : E (.tmp 38) = .bool false := (Γ.k 3 rfl)
      have e2 : E (.tmp 39) = .bool false := (Γ.k 4 rfl)
      have hc := Γ.c
      exact Does.value (w' := W) (by go_simp <;> first | rfl | (rw [IntKind.wrap_i64]; omega)) ⟨rfl, Below.refl _ _⟩) ?_
    refine .pl rfl (fun _ _ W Γ => ev_pick (Γ.k 2 rfl) (Γ.k 5 rfl)) ?_
    refine .pl rfl (fun _ _ W Γ => ev_move _ (Γ.k 6 rfl)) ?_
    refine .gu rfl rfl rfl rfl (fun _ _ W Γ => ev_ldN (Γ.s rfl) (Γ.l 2 rfl)) ?_
    refine .gu rfl rfl rfl rfl (fun _ _ W Γ => ev_moveM (Γ.m 0 rfl rfl)) ?_
    refine .gu rfl rfl rfl rfl (fun _ _ W Γ => ev_call2 (Γ.f _) run_is (is_gives W _ _ 0 (by rw [ds_one (by decide)]; omega) (Γ.w (d := 43) 8 rfl) (Γ.w (d := 44) 9 rfl))) ?_
    refine .gu rfl rfl rfl rfl (fun _ _ W Γ => ev_not (Γ.k 10 rfl) rfl) ?_
    refine .pl rfl (fun _ _ W Γ => ev_pick (Γ.k 7 rfl) (Γ.k 11 rfl)) ?_
    refine .pl rfl (fun _ _ W Γ => ev_move _ (Γ.k 12 rfl)) ?_
    refine .gu rfl rfl rfl rfl (fun _ _ W Γ => ev_ldN (Γ.s rfl) (Γ.l 0 rfl)) ?_
    refine .gu rfl rfl rfl rfl (fun _ _ W Γ => ev_call1 (Γ.f _) run_nText (ntext_gives W _ m HMS.out (TB.out.mono Γ.be) (Γ.w (d := 49) 14 rfl))) ?_
    refine .gu rfl rfl rfl rfl (fun _ _ W Γ => ev_moveM (Γ.m 1 rfl rfl)) ?_
    refine .gu rfl rfl rfl rfl (fun _ _ W Γ => ev_call1 (Γ.f _) run_rText (rtext_gives W _ m HMS.out (Γ.w (d := 51) 16 rfl))) ?_
    refine .gu rfl rfl rfl rfl (fun _ _ W Γ => ev_neqS (Γ.k 15 rfl) (Γ.k 17 rfl) trivial) ?_
    refine .pl rfl (fun _ _ W Γ => ev_pick (Γ.k 13 rfl) (Γ.k 18 rfl)) ?_
    refine .pl rfl (fun _ _ W Γ => ev_move _ (Γ.k 19 rfl)) ?_
    refine .gu rfl rfl rfl rfl (fun _ _ W Γ => ev_ldN (Γ.s rfl) (Γ.l 0 rfl)) ?_
    refine .gu rfl rfl rfl rfl (fun _ _ W Γ => ev_call1 (Γ.f _) run_nBits (nbits_gives W _ m HMS.out (Γ.w (d := 56) 21 rfl))) ?_
    refine .gu rfl rfl rfl rfl (fun _ _ W Γ => ev_moveM (Γ.m 1 rfl rfl)) ?_
    refine .gu rfl rfl rfl rfl (fun _ _ W Γ => ev_call1 (Γ.f _) run_rBits (rbits_gives W _ m HMS.out (Γ.w (d := 58) 23 rfl))) ?_
    refine .gu rfl rfl rfl rfl (fun _ _ W Γ => ev_neq (Γ.k 22 rfl) (Γ.k 24 rfl) (by simp)) ?_
    refine .pl rfl (fun _ _ W Γ => ev_pick (Γ.k 20 rfl) (Γ.k 25 rfl)) ?_
    exact .nil
  clear J; intro K6 hK6; simp only [fx]; intro _ f6 W6 J; refine hK6.out _ _ ?_; clear hK6
  refine wp_cond_false rfl ?_
  refine wp_skip ?_
  refine hK5.out _ _ ?_; clear hK5
  refine region_c [64, 65, 66, 63, 67, 68, 16, 0, 17] [.num m, .is (.string ⟨(Lib.decDigits m).toArray⟩), .two (.num m) (.is (.bool true)), .two (.num m) (.is (.bool true)), .num m, .is (.bool true), .any, .any, .is (.bool true)] [] [⟨.nat, 6, 7, .num m, .agg #[.int .u64 0, .slice none 0 0]⟩] [] J ?_ ?_
  · refine .pl rfl (fun _ _ W Γ => ev_ldN (Γ.s rfl) (Γ.l 0 rfl)) ?_
    refine .pl rfl (fun _ _ W Γ => ev_call1 (Γ.f _) run_nText (ntext_gives W _ m HMS.out (TB.out.mono Γ.be) (Γ.w (d := 63) 0 rfl))) ?_
    refine .pl rfl (fun _ _ W Γ => ev_call1 (Γ.f _) run_Parse (by rw [(show _ = Value.string ⟨(Lib.decDigits m).toArray⟩ from (Γ.k (d := 64) 1 rfl))]; exact HP2.out W)) ?_
    refine .pl rfl (fun _ _ W Γ => ev_moveM (Γ.w 2 rfl)) ?_
    refine .pl rfl (fun _ _ W Γ => ev_ex20 (Γ.w 3 rfl)) ?_
    refine .pl rfl (fun _ _ W Γ => ev_ex21 (Γ.w 3 rfl)) ?_
    refine .al 0 rfl rfl (fun _ _ => ev_alN) ?_
    refine .sn 0 rfl rfl (fun _ _ W Γ => ev_stN (Γ.q 0 rfl) (Γ.un 0 rfl) (Γ.w 4 rfl)) ?_
    refine .pl rfl (fun _ _ W Γ => ev_assign _ (Γ.k 5 rfl)) ?_
    exact .nil
  clear J; intro K7 hK7; simp only [fx]; intro β7 f7 W7 J; refine hK7.out _ _ ?_; clear hK7
  refine region_c [69, 70, 71, 72, 73, 74, 75, 18, 0] [.is (.int .i64 k), .is (.int .i64 ((z : Nat) : Int)), .that (fullS (List.replicate z 0)), .num m, .that (rowS (be m)), .that (rowS (List.replicate z 0 ++ be m)), .num m, .any, .any] [] [⟨.nat, 7, 8, .num m, .agg #[.int .u64 0, .slice none 0 0]⟩] [] J ?_ ?_
  · refine .pl rfl (fun _ _ W Γ => ev_move _ (Γ.s rfl)) ?_
    refine .pl rfl (fun _ _ W Γ => ev_call2 (Γ.f _) run_Pick (by rw [Γ.c, (show _ = Value.int .i64 k from (Γ.k (d := 68) 0 rfl))]; exact pick_gives W k z HZ.out)) ?_
    refine .pl rfl (fun _ _ W Γ => ev_makeB (Γ.k 1 rfl) (Γ.k 1 rfl) HZ9.out) ?_
    refine .pl rfl (fun _ _ W Γ => ev_ldN (Γ.s rfl) (Γ.l 0 rfl)) ?_
    refine .pl rfl (fun _ _ W Γ => ev_call1 (Γ.f _) run_nBytes (nbytes_gives W _ m HMS.out (Γ.w (d := 71) 3 rfl))) ?_
    refine .pl rfl (fun _ _ W Γ => ev_appB HZ9.out HLM.out (Γ.w 2 rfl) (Γ.w 4 rfl)) ?_
    refine .pl rfl (fun _ _ W Γ => ev_call1 (Γ.f _) run_FromBytes (from_gives W _ (List.replicate z 0 ++ be m) m (nb_zeros z m) HLN.out (Γ.w (d := 73) 5 rfl))) ?_
    refine .al 0 rfl rfl (fun _ _ => ev_alN) ?_
    refine .sn 0 rfl rfl (fun _ _ W Γ => ev_stN (Γ.q 0 rfl) (Γ.un 0 rfl) (Γ.w 6 rfl)) ?_
    exact .nil
  clear J; intro K8 hK8; simp only [fx]; intro β8 f8 W8 J; refine hK8.out _ _ ?_; clear hK8
  refine region_c [76, 77, 78, 79, 80, 81, 82, 83, 84, 85, 86, 87, 88, 7] [.is (.bool true), .is (.bool true), .num m, .num m, .is (.int .i64 0), .is (.bool true), .is (.bool true), .is (.bool true), .num m, .num m, .is (.int .i64 0), .is (.bool true), .is (.bool true), .is (.bool true)] [] [] [] J ?_ ?_
  · refine .pl rfl (fun _ _ W Γ => ev_move _ (Γ.s rfl)) ?_
    refine .pl rfl (fun _ _ W Γ => ev_move _ (Γ.k 0 rfl)) ?_
    refine .gu rfl rfl rfl rfl (fun _ _ W Γ => ev_ldN (Γ.s rfl) (Γ.l 3 rfl)) ?_
    refine .gu rfl rfl rfl rfl (fun _ _ W Γ => ev_ldN (Γ.s rfl) (Γ.l 0 rfl)) ?_
    refine .gu rfl rfl rfl rfl (fun _ _ W Γ => ev_call2 (Γ.f _) run_nCmp (cmp_self W _ _ m HMS.out (Γ.w (d := 77) 2 rfl) (Γ.w (d := 78) 3 rfl))) ?_
    refine .gu rfl rfl rfl rfl (fun _ E W Γ => by
      have e1 : E (.tmp 79) = .int .i64 0 := (Γ.k 4 rfl)
      have hc := Γ.c
      exact Does.value (w' := W) (by go_simp <;> first | rfl | (rw [IntKind.wrap_i64]; omega)) ⟨rfl, Below.refl _ _⟩) ?_
    refine .pl rfl (fun _ _ W Γ => ev_pick (Γ.k 1 rfl) (Γ.k 5 rfl)) ?_
    refine .pl rfl (fun _ _ W Γ => ev_move _ (Γ.k 6 rfl)) ?_
    refine .gu rfl rfl rfl rfl (fun _ _ W Γ => ev_ldN (Γ.s rfl) (Γ.l 4 rfl)) ?_
    refine .gu rfl rfl rfl rfl (fun _ _ W Γ => ev_ldN (Γ.s rfl) (Γ.l 0 rfl)) ?_
    refine .gu rfl rfl rfl rfl (fun _ _ W Γ => ev_call2 (Γ.f _) run_nCmp (cmp_self W _ _ m HMS.out (Γ.w (d := 83) 8 rfl) (Γ.w (d := 84) 9 rfl))) ?_
    refine .gu rfl rfl rfl rfl (fun _ E W Γ => by
      have e1 : E (.tmp 85) = .int .i64 0 := (Γ.k 10 rfl)
      have hc := Γ.c
      exact Does.value (w' := W) (by go_simp <;> first | rfl | (rw [IntKind.wrap_i64]; omega)) ⟨rfl, Below.refl _ _⟩) ?_
    refine .pl rfl (fun _ _ W Γ => ev_pick (Γ.k 7 rfl) (Γ.k 11 rfl)) ?_
    refine .pl rfl (fun _ _ W Γ => ev_assign _ (Γ.k 12 rfl)) ?_
    exact .nil
  clear J; intro K9 hK9; simp only [fx]; intro _ f9 W9 J; refine hK9.out _ _ ?_; clear hK9
  refine wp_ret ?_
  exact bodyPost_ret (v := .bool true) (by simp [results, Tryd.results4, go_sem]) rfl ⟨_, rfl, rfl, J.out.be⟩
theorem ntexts_any (s : ByteArray) (p : Option Addr) (l c : Nat) (k : Int) (bs : List Nat) (w : World) (hs : s.size ≤ 9223372036854775807) (hk1 : -9223372036854775808 ≤ k) (hk2 : k ≤ 9223372036854775807) (h : IsB w p l c bs) (ht : TabP w) :
    Calls Tryd.prog 4 #[.string s, .slice p l c, .int .i64 k] w fun e w' => e = .returned (.bool true) ∧ Below w.heap.size w w' := by
  obtain ⟨z, hz⟩ : ∃ z : Nat, k % ((9 : Nat) : Int) = (z : Int) := ⟨(k % ((9 : Nat) : Int)).toNat, by omega⟩
  have hz9 : z < 9 := by omega
  obtain ⟨L, hL⟩ : ∃ L, L = s.data.toList.map fun b => b.toNat := ⟨_, rfl⟩
  have hSB : SB s L := by
    refine ⟨by rw [hL, List.length_map]; rfl, fun i hi => ?_⟩
    have hi' : i < s.data.toList.length := hi
    rw [hL, List.getD_eq_getElem?_getD, List.getElem?_map, List.getElem?_eq_getElem hi']
    rfl
  have conv : ∀ e w', Gives w (.is (.bool true)) e w' → e = .returned (.bool true) ∧ Below w.heap.size w w' := fun e w' ⟨v, h1, h2, h3⟩ => ⟨by rw [h1, show v = .bool true from h2], h3⟩
  have hR : ∀ W, Calls Tryd.prog 19 #[.string s] W (RetPar W L) := fun W => rParse_any s L W hSB hs
  by_cases hd : DecText L
  · have hv : (ds (decv (tdig L))).length ≤ 60 := by
      have h1 := decv_lt (tdig L) (tdig_lt hd.2.2.2)
      have h2 : (tdig L).length ≤ 200 := by rw [tdig, List.length_map]; exact hd.2.1
      have h3 : 10 ^ (tdig L).length ≤ 10 ^ 200 := Nat.pow_le_pow_right (by omega) h2
      have h4 := ds_mono (show decv (tdig L) ≤ 10 ^ 200 by omega)
      have h5 := ten_words
      omega
    refine (ntexts_num w s p l c bs _ (decv (tdig L)) z k rfl h ht ⟨hz, hz9, hk1, hk2⟩ (fun W => (parse_text W s L hSB hs).1 hd) (fun W => (hR W).mono fun e w' h => ?_) hv).mono conv
    obtain ⟨⟨_, p1, q1, c1, he, h1⟩ | ⟨hn, _⟩, hb⟩ := h
    · exact ⟨_, he, ⟨_, _, rfl, ⟨_, _, _, rfl, h1⟩, rfl⟩, hb⟩
    · exact absurd hd hn
  · refine (ntexts_none w s p l c bs _ 0 z k rfl h ht ⟨hz, hz9, hk1, hk2⟩ (fun W => (parse_text W s L hSB hs).2 hd) (fun W => (hR W).mono fun e w' h => ?_) (by rw [ds_one (by omega)]; decide)).mono conv
    obtain ⟨⟨hn, _⟩ | ⟨_, he⟩, hb⟩ := h
    · exact absurd hn hd
    · exact ⟨_, he, ⟨_, _, rfl, ⟨_, _, _, rfl, by rw [dr_zero]; rfl, Nat.le_refl _, fun h => absurd rfl h⟩, rfl⟩, hb⟩
end Go.Proofs.YtfjjmhbffbhhdaaDoor
