/- nat.Parse of any decimal text. -/
import Derived.Test.YtfjjmhbffbhhdaaGreatDoorDig
import Derived.Test.YtfjjmhbffbhhdaaGreatDoorDecTxt
namespace Go.Proofs.YtfjjmhbffbhhdaaGreatDoor
open Go.RowKit

theorem run_isDecimal : RowKit.Hid (∀ (a : Array Value) (w : World), Sem.run Tryz.prog (callFunc 38 a) w = .ok (.enter 38 a) w) := fun a w => by go_simp
theorem run_nAdd : RowKit.Hid (∀ (a : Array Value) (w : World), Sem.run Tryz.prog (callFunc 40 a) w = .ok (.enter 40 a) w) := fun a w => by go_simp
def SD (s : ByteArray) (l : List Nat) : Prop := l.length = s.size ∧ ∀ k (h : k < s.size), (s[k]).toNat = 48 + l.getD k 0
theorem SD.drop {s : ByteArray} {l : List Nat} (h : SD s l) (m : Nat) (hm : m ≤ s.size) : SD (s.extract m s.size) (l.drop m) := by
  obtain ⟨h1, h2⟩ := h
  refine ⟨by rw [List.length_drop, ByteArray.size_extract]; omega, fun k hk => ?_⟩
  rw [ByteArray.size_extract] at hk
  have := h2 (m + k) (by omega)
  rw [ByteArray.getElem_extract, this, List.getD_eq_getElem?_getD, List.getD_eq_getElem?_getD, List.getElem?_drop]
theorem parse_digit {l : List Nat} (h : ∀ d ∈ l, d < 10) (i : Nat) : l.getD i 0 < 10 := getD_lt h (by omega) i
theorem take_lt {l : List Nat} (h : ∀ d ∈ l, d < 10) (i : Nat) (hi : i ≤ l.length) : decv (l.take i) < 10 ^ i := by
  have := decv_lt (l.take i) fun d hd => h d (List.mem_of_mem_take hd)
  rwa [List.length_take, Nat.min_eq_left hi] at this
theorem parse_bounds {l : List Nat} {c sc i : Nat} (hc : c = decv (l.take i)) (hs : sc = 10 ^ i) (hi : i ≤ 19) (h : ∀ d ∈ l, d < 10) (hl : i ≤ l.length) : c < 10000000000000000000 ∧ sc ≤ 10000000000000000000 := by
  have h1 := take_lt h i hl
  have h2 : 10 ^ i ≤ 10 ^ 19 := Nat.pow_le_pow_right (by omega) hi
  omega
theorem parse_bounds2 {l : List Nat} {c sc i : Nat} (hc : c = decv (l.take i)) (hs : sc = 10 ^ i) (hi : i < 19) (h : ∀ d ∈ l, d < 10) (hl : i ≤ l.length) : c < 1000000000000000000 ∧ sc ≤ 1000000000000000000 := by
  have h1 := take_lt h i hl
  have h2 : 10 ^ i ≤ 10 ^ 18 := Nat.pow_le_pow_right (by omega) (by omega)
  omega
theorem parse_step {l : List Nat} {c sc i : Nat} (hc : c = decv (l.take i)) (hs : sc = 10 ^ i) (hi : i < l.length) : 10 * c + l.getD i 0 = decv (l.take (i + 1)) ∧ sc * 10 = 10 ^ (i + 1) := by
  refine ⟨?_, by rw [hs, Nat.pow_succ]⟩
  have e : l.take (i + 1) = l.take i ++ [l.getD i 0] := by
    rw [List.take_add_one, List.getD_eq_getElem?_getD]; simp [hi]
  rw [e, decv_snoc, hc]
theorem parse_next {l : List Nat} {A c sc m : Nat} (hc : c = decv (l.take m)) (hs : sc = 10 ^ m) (hm : m ≤ l.length) : (A * sc + c) * 10 ^ (l.drop m).length + decv (l.drop m) = A * 10 ^ l.length + decv l := by
  have h1 : decv l = decv (l.take m) * 10 ^ (l.drop m).length + decv (l.drop m) := by rw [← decv_append, List.take_append_drop]
  have h2 : 10 ^ l.length = 10 ^ m * 10 ^ (l.drop m).length := by rw [← Nat.pow_add]; congr 1; rw [List.length_drop]; omega
  rw [h1, h2, hc, hs]; grind
theorem ten_words : (ds (10 ^ 200)).length ≤ 20 := by
  refine digs_length_le (by omega) ?_
  decide +kernel
theorem parse_sizes {l l1 : List Nat} {A c sc m : Nat} (hv : A * 10 ^ l1.length + decv l1 = decv l) (_hc : c = decv (l1.take m)) (_hs : sc = 10 ^ m) (h : ∀ d ∈ l, d < 10) (hl : l.length ≤ 200) (hb : c < 10000000000000000000 ∧ sc ≤ 10000000000000000000) : (ds A).length ≤ 60 ∧ (ds sc).length ≤ 60 ∧ (ds (A * sc)).length ≤ 60 ∧ (ds c).length ≤ 60 := by
  have h1 := decv_lt l h
  have h2 : 10 ^ l.length ≤ 10 ^ 200 := Nat.pow_le_pow_right (by omega) hl
  have h3 : A ≤ A * 10 ^ l1.length := Nat.le_mul_of_pos_right _ (Nat.pow_pos (by omega))
  have h4 := ds_mono (show A ≤ 10 ^ 200 by omega)
  have h5 := ten_words
  have h6 : (ds sc).length ≤ 1 := by rw [ds_one (by omega)]; omega
  have h7 : (ds c).length ≤ 1 := by rw [ds_one (by omega)]; omega
  have h8 := ds_mul A sc
  omega
theorem nAdd_gives2 (w : World) (u v : Value) (m n : Nat) (hm : (ds m).length ≤ 60) (hn : (ds n).length ≤ 60) (h1 : Num w u m) (h2 : Num w v n) : Calls Tryz.prog 40 #[u, v] w (Gives w (.num (m + n))) :=
  (add_want w u v m n hm hn h1 h2).mono fun _ _ ⟨v, h1, h2, h3⟩ => ⟨v, h1, h2, h3⟩
set_option maxRecDepth 100000 in
set_option maxHeartbeats 4000000 in
theorem isDec_any (s : ByteArray) (w : World) (n : Nat) (hn : n = s.size) (h0 : 0 < n) (hl : n ≤ 200) (hd : ∀ k (h : k < s.size), 48 ≤ (s[k]).toNat ∧ (s[k]).toNat ≤ 57) (hz : (s[0]'(by omega)).toNat ≠ 48 ∨ n = 1) :
    Calls Tryz.prog 38 #[.string s] w fun e w' => e = .returned (.bool true) ∧ w = w' := by
  have HD := Lib.hid hd
  have hx : ∃ x : Nat, (s[0]'(by omega)).toNat = x := ⟨_, rfl⟩
  obtain ⟨x, hx⟩ := hx
  rw [hx] at hz
  have hs : (s.size : Int) = (n : Int) := by omega
  have h00 : (0 : Nat) < s.size := by omega
  have hn1 : x = 48 → ¬ (1 : Int) < (n : Int) := fun e => by omega
  have b1 : ((n : Int) == 0) = false := beq_eq_false_iff_ne.2 (by omega)
  have b2 : ¬ (200 : Int) < (n : Int) := by omega
  by_cases hx0 : x = 48
  · have b3 := hn1 hx0
    clear hz hd hn1
    go_enter Tryz.func38, Tryz.ntmps38
    go_wp2
    go_loop [24] (fun i => ∃ k : Nat, k ≤ n ∧ i = .int .i64 k) (fun i => n - (intOf i).toNat)
    case atStart => exact ⟨0, Nat.zero_le _, rfl⟩
    case round =>
      obtain ⟨k, hk, rfl⟩ := hrel
      by_cases hlt : k < n
      · have hks : k < s.size := by omega
        obtain ⟨y1, y2⟩ := HD.out k hks
        obtain ⟨y, hy⟩ : ∃ y : Nat, (s[k]'hks).toNat = y := ⟨_, rfl⟩
        rw [hy] at y1 y2
        go_wp2
        go_round
        case rel => exact ⟨k + 1, by omega, by go_num⟩
        case measure => simp [intOf]; omega
      · go_wp2
        go_ret
        exact ⟨rfl, rfl⟩
  · have hx1 : ((x : Int) == 48) = false := beq_eq_false_iff_ne.2 (by omega)
    clear hz hd hn1
    go_enter Tryz.func38, Tryz.ntmps38
    go_wp2
    go_loop [24] (fun i => ∃ k : Nat, k ≤ n ∧ i = .int .i64 k) (fun i => n - (intOf i).toNat)
    case atStart => exact ⟨0, Nat.zero_le _, rfl⟩
    case round =>
      obtain ⟨k, hk, rfl⟩ := hrel
      by_cases hlt : k < n
      · have hks : k < s.size := by omega
        obtain ⟨y1, y2⟩ := HD.out k hks
        obtain ⟨y, hy⟩ : ∃ y : Nat, (s[k]'hks).toNat = y := ⟨_, rfl⟩
        rw [hy] at y1 y2
        go_wp2
        go_round
        case rel => exact ⟨k + 1, by omega, by go_num⟩
        case measure => simp [intOf]; omega
      · go_wp2
        go_ret
        exact ⟨rfl, rfl⟩
def DecText (l : List Nat) : Prop := 0 < l.length ∧ l.length ≤ 200 ∧ (l.getD 0 0 ≠ 48 ∨ l.length = 1) ∧ ∀ i, i < l.length → 48 ≤ l.getD i 0 ∧ l.getD i 0 ≤ 57
set_option maxRecDepth 100000 in
set_option maxHeartbeats 4000000 in
theorem isDec_no (s : ByteArray) (l : List Nat) (w : World) (n : Nat) (hn : n = s.size) (hmax : n ≤ 9223372036854775807) (hl : l.length = n) (hd : ∀ k (h : k < s.size), (s[k]).toNat = l.getD k 0) (hno : ¬ DecText l) :
    Calls Tryz.prog 38 #[.string s] w fun e w' => e = .returned (.bool false) ∧ w = w' := by
  have HD := Lib.hid hd
  have HNO := Lib.hid hno
  have hs : (s.size : Int) = (n : Int) := by omega
  rcases Nat.eq_zero_or_pos n with h0 | h0
  · have b1 : ((n : Int) == 0) = true := beq_iff_eq.2 (by omega)
    clear hno hd
    go_enter Tryz.func38, Tryz.ntmps38
    go_wp2
    go_ret
    exact ⟨rfl, rfl⟩
  have b1 : ((n : Int) == 0) = false := beq_eq_false_iff_ne.2 (by omega)
  by_cases h2 : 200 < n
  · have b2 : (200 : Int) < (n : Int) := by omega
    clear hno hd
    go_enter Tryz.func38, Tryz.ntmps38
    go_wp2
    go_ret
    exact ⟨rfl, rfl⟩
  have b2 : ¬ (200 : Int) < (n : Int) := by omega
  have h00 : (0 : Nat) < s.size := by omega
  obtain ⟨x, hx⟩ : ∃ x : Nat, (s[0]'h00).toNat = x := ⟨_, rfl⟩
  have hxl : x = l.getD 0 0 := by rw [← hx]; exact hd 0 h00
  by_cases hx0 : x = 48
  · by_cases h1 : n = 1
    · have b3 : ¬ (1 : Int) < (n : Int) := by omega
      exfalso
      apply hno
      refine ⟨by omega, by omega, Or.inr (by omega), fun i hi => ?_⟩
      obtain rfl : i = 0 := by omega
      omega
    · have b3 : (1 : Int) < (n : Int) := by omega
      clear hno hd hxl hl
      go_enter Tryz.func38, Tryz.ntmps38
      go_wp2
      go_ret
      exact ⟨rfl, rfl⟩
  · have hx1 : ((x : Int) == 48) = false := beq_eq_false_iff_ne.2 (by omega)
    have HXL := Lib.hid hxl; have HX0 := Lib.hid hx0; have HL := Lib.hid hl
    clear hno hd hxl hl
    go_enter Tryz.func38, Tryz.ntmps38
    go_wp2
    go_loop [24] (fun i => ∃ k : Nat, k ≤ n ∧ i = .int .i64 k ∧ Hid (∀ j, j < k → 48 ≤ l.getD j 0 ∧ l.getD j 0 ≤ 57)) (fun i => n - (intOf i).toNat)
    case atStart => exact ⟨0, Nat.zero_le _, rfl, Lib.hid fun j hj => by omega⟩
    case round =>
      obtain ⟨k, hk, rfl, HJ⟩ := hrel
      by_cases hlt : k < n
      · have hks : k < s.size := by omega
        obtain ⟨y, hy⟩ : ∃ y : Nat, (s[k]'hks).toNat = y := ⟨_, rfl⟩
        have HY : Hid (y = l.getD k 0) := Lib.hid (by rw [← hy]; exact HD.out k hks)
        rcases (show y < 48 ∨ (48 ≤ y ∧ y ≤ 57) ∨ 57 < y by omega) with h | h | h
        · go_wp2
          go_ret
          exact ⟨rfl, rfl⟩
        · obtain ⟨y1, y2⟩ := h
          go_wp2
          go_round
          case rel => exact ⟨k + 1, by omega, by go_num, Lib.hid fun j hj => by
            by_cases e : j = k
            · subst e; rw [← HY.out]; omega
            · exact HJ.out j (by omega)⟩
          case measure => simp [intOf]; omega
        · go_wp2
          go_ret
          exact ⟨rfl, rfl⟩
      · exfalso
        have ek : k = n := by omega
        have hl := HL.out
        exact HNO.out ⟨by omega, by omega, Or.inl (by rw [← HXL.out]; exact HX0.out), fun i hi => HJ.out i (by omega)⟩
theorem isDec_gives (w : World) (s : ByteArray) (l : List Nat) (h1 : SD s l) (h2 : ∀ d ∈ l, d < 10) (h3 : 0 < l.length) (h4 : l.length ≤ 200) (h5 : l.getD 0 0 ≠ 0 ∨ l.length = 1) : Calls Tryz.prog 38 #[.string s] w (Gives w (.is (.bool true))) := by
  obtain ⟨e1, e2⟩ := h1
  refine (isDec_any s w l.length e1 h3 h4 (fun k h => by have := e2 k h; have := parse_digit h2 k; omega) ?_).mono fun e w' ⟨h, hw⟩ => ⟨_, h, rfl, by rw [hw]; exact Below.refl _ _⟩
  rw [e2 0 (by omega)]; omega
set_option maxRecDepth 100000 in
set_option maxHeartbeats 8000000 in
theorem parse_any (w : World) (s : ByteArray) (l : List Nat) (h : SD s l ∧ (∀ d ∈ l, d < 10) ∧ 0 < l.length ∧ l.length ≤ 200 ∧ (l.getD 0 0 ≠ 0 ∨ l.length = 1)) :
    Calls Tryz.prog 21 #[.string s] w (Gives w (.two (.num (decv l)) (.is (.bool true)))) := by
  have HSD := Lib.hid h; clear h
  go_enter Tryz.func21, Tryz.ntmps21
  have J := Frm.start (w := w) (V := []) fn
  refine wp_seq_h ?_; intro K1 hK1; go_wp2
  obtain ⟨W2, b2, eW2, eb2, sz2, J⟩ := Frm.putN0 J rfl
  rw [← eW2, ← eb2]
  clear eW2 eb2 sz2
  refine hK1.out _ _ ?_; clear hK1
  refine wp_seq_h ?_; intro K3 hK3
  refine region_c [10, 11, 12] [.is (.string s), .is (.bool true), .is (.bool false)] [] [] [] J ?_ ?_
  · refine .pl rfl (fun _ _ W Γ => ev_move _ (Γ.s rfl)) ?_
    refine .pl rfl (fun _ _ W Γ => ev_call1 (Γ.f _) run_isDecimal (by rw [(show _ = Value.string s from (Γ.k (d := 9) 0 rfl))]; exact isDec_gives W s l HSD.out.1 HSD.out.2.1 HSD.out.2.2.1 HSD.out.2.2.2.1 HSD.out.2.2.2.2)) ?_
    refine .pl rfl (fun _ _ W Γ => ev_not (Γ.k 1 rfl) rfl) ?_
    exact .nil
  clear J; intro K4 hK4; simp only [fx]; intro _ f4 W4 J; refine hK4.out _ _ ?_; clear hK4
  refine wp_cond_false rfl ?_
  refine wp_skip ?_
  refine hK3.out _ _ ?_; clear hK3
  refine wp_seq_h ?_; intro K5 hK5; go_wp2
  obtain ⟨W6, b6, eW6, eb6, sz6, J⟩ := Frm.putN0 J rfl
  rw [← eW6, ← eb6]; clear eW6 eb6 sz6; refine hK5.out _ _ ?_; clear hK5
  refine wp_seq_h ?_; intro K7 hK7
  refine wp_block ?_
  go_loopg [0] s.size (fun k a wr => ∃ s1 l1 A, a = .string s1 ∧ Hid (s1.size = k) ∧ Hid (SD s1 l1 ∧ (∀ d ∈ l1, d < 10) ∧ l1.length ≤ 200) ∧ Hid (A * 10 ^ l1.length + decv l1 = decv l) ∧ Hid (Frm w wr [⟨b2, .nat, .num 0⟩, ⟨b6, .nat, .num A⟩] []))
  case atStart => exact ⟨s, l, 0, rfl, Lib.hid rfl, Lib.hid ⟨HSD.out.1, HSD.out.2.1, HSD.out.2.2.2.1⟩, Lib.hid (by omega), Lib.hid (J.out.vals fn)⟩
  case round =>
    clear J
    obtain ⟨s1, l1, A, rfl, HK, HS1, HV, J⟩ := hrel
    rcases Nat.eq_zero_or_pos s1.size with h0 | h0
    · have HGT : Hid (decide ((0 : Int) < ((s1.size : Nat) : Int)) = false) := Lib.hid (decide_eq_false (by omega))
      have HE : Hid (A = decv l) := Lib.hid (by have h := HV.out; rw [List.eq_nil_of_length_eq_zero (HS1.out.1.1.trans h0)] at h; simpa [decv] using h)
      clear h0
      rw [HE.out] at J
      refine wp_seq_h ?_; intro K8 hK8
      refine region_c [14, 15, 16] [.is (.string s1), .is (.int .i64 ((s1.size : Nat) : Int)), .is (.bool false)] [] [] [] J ?_ ?_
      · refine .pl rfl (fun _ _ W Γ => ev_move _ (Γ.s rfl)) ?_
        refine .pl rfl (fun _ E W Γ => by
          have e1 : E (.tmp 13) = .string s1 := (Γ.k 0 rfl)
          have hc := Γ.c
          exact Does.value (w' := W) (by go_simp <;> first | rfl | (rw [IntKind.wrap_i64]; omega)) ⟨rfl, Below.refl _ _⟩) ?_
        refine .pl rfl (fun _ _ W Γ => ev_gtr (Γ.k 1 rfl) (Γ.c _) HGT.out) ?_
        exact .nil
      clear J; intro K9 hK9; simp only [fx]; intro _ f9 W9 J; refine hK9.out _ _ ?_; clear hK9
      refine wp_cond_false rfl ?_
      refine wp_exit ?_
      simp only [Exit.then, Exit.inBlock, ↓reduceIte]
      refine hK7.out _ _ ?_; clear hK7
      refine region_c [45, 0, 4] [.num (decv l), .any, .is (.bool true)] [some (1, .num (decv l))] [] [(0, 44)] J ?_ ?_
      · refine .pl rfl (fun _ _ W Γ => ev_ldN (Γ.s rfl) (Γ.l 1 rfl)) ?_
        refine .st 0 rfl rfl rfl (fun _ _ W Γ => ev_stN (Γ.s rfl) (Γ.u 0 rfl rfl) (Γ.w 0 rfl)) ?_
        refine .pl rfl (fun _ _ W Γ => ev_assign _ (Γ.c _)) ?_
        exact .nil
      clear J; intro K10 hK10; simp only [fx]; intro _ f10 W10 J; refine hK10.out _ _ ?_; clear hK10
      refine wp_ret ?_
      obtain ⟨u0, hx0, hm0⟩ := J.out.get 0 rfl
      obtain ⟨sr0, pr0, lr0, cr0, rfl, c0_0, c0_1⟩ := hx0.nat
      exact bodyPost_ret (v := .tuple #[.agg #[.int .u64 sr0, .slice pr0 lr0 cr0], .bool true]) (by simp [results, Tryz.results21, go_sem, c0_0, c0_1]) rfl ⟨_, rfl, ⟨_, _, rfl, hm0, rfl⟩, J.out.be⟩
    · have HGT : Hid (decide ((0 : Int) < ((s1.size : Nat) : Int)) = true) := Lib.hid (decide_eq_true (by omega))
      obtain ⟨m, hm⟩ : ∃ m, m = min s1.size 19 := ⟨_, rfl⟩
      have hm1 : min ((s1.size : Nat) : Int) 19 = (m : Int) := by omega
      have hm2 : m ≤ 19 := by omega
      have HMS : Hid (m ≤ s1.size ∧ 0 < m) := Lib.hid (by omega)
      clear hm h0
      refine wp_seq_h ?_; intro K11 hK11
      refine region_c [14, 15, 16] [.is (.string s1), .is (.int .i64 ((s1.size : Nat) : Int)), .is (.bool true)] [] [] [] J ?_ ?_
      · refine .pl rfl (fun _ _ W Γ => ev_move _ (Γ.s rfl)) ?_
        refine .pl rfl (fun _ E W Γ => by
          have e1 : E (.tmp 13) = .string s1 := (Γ.k 0 rfl)
          have hc := Γ.c
          exact Does.value (w' := W) (by go_simp <;> first | rfl | (rw [IntKind.wrap_i64]; omega)) ⟨rfl, Below.refl _ _⟩) ?_
        refine .pl rfl (fun _ _ W Γ => ev_gtr (Γ.k 1 rfl) (Γ.c _) HGT.out) ?_
        exact .nil
      clear J; intro K12 hK12; simp only [fx]; intro _ f12 W12 J; refine hK12.out _ _ ?_; clear hK12
      refine wp_cond_true rfl ?_
      refine wp_skip ?_
      refine hK11.out _ _ ?_; clear hK11
      refine wp_block ?_
      refine region_c [17, 18, 19, 6] [.is (.string s1), .is (.int .i64 ((s1.size : Nat) : Int)), .is (.int .i64 ((m : Nat) : Int)), .is (.int .i64 ((m : Nat) : Int))] [] [] [] J ?_ ?_
      · refine .pl rfl (fun _ _ W Γ => ev_move _ (Γ.s rfl)) ?_
        refine .pl rfl (fun _ E W Γ => by
          have e1 : E (.tmp 16) = .string s1 := (Γ.k 0 rfl)
          have hc := Γ.c
          exact Does.value (w' := W) (by go_simp <;> first | rfl | (rw [IntKind.wrap_i64]; omega)) ⟨rfl, Below.refl _ _⟩) ?_
        refine .pl rfl (fun _ E W Γ => by
          have e1 : E (.tmp 17) = .int .i64 ((s1.size : Nat) : Int) := (Γ.k 1 rfl)
          have hc := Γ.c
          exact Does.value (w' := W) (by go_simp <;> omega) ⟨rfl, Below.refl _ _⟩) ?_
        refine .pl rfl (fun _ _ W Γ => ev_assign _ (Γ.k 2 rfl)) ?_
        exact .nil
      clear J; intro K13 hK13; simp only [fx]; intro _ f13 W13 J; refine hK13.out _ _ ?_; clear hK13
      refine region_c [7, 8] [.is (.int .u64 0), .is (.int .u64 1)] [] [] [] J ?_ ?_
      · refine .pl rfl (fun _ _ W Γ => ev_assign _ (Γ.c _)) ?_
        refine .pl rfl (fun _ _ W Γ => ev_assign _ (Γ.c _)) ?_
        exact .nil
      clear J; intro K14 hK14; simp only [fx]; intro _ f14 W14 J; refine hK14.out _ _ ?_; clear hK14
      refine wp_seq_h ?_; intro K15 hK15
      refine region_c [20, 21] [.is (.int .i64 ((m : Nat) : Int)), .is (.int .i64 0)] [] [] [] J ?_ ?_
      · refine .pl rfl (fun _ _ W Γ => ev_move _ (Γ.s rfl)) ?_
        refine .pl rfl (fun _ _ W Γ => ev_move _ (Γ.c _)) ?_
        exact .nil
      clear J; intro K16 hK16; simp only [fx]; intro _ f16 W16 J; refine hK16.out _ _ ?_; clear hK16
      refine wp_block ?_
      go_loopg [6, 7, 20] m (fun k cc ss ii wv => ∃ i c sc : Nat, cc = .int .u64 (c : Int) ∧ ss = .int .u64 (sc : Int) ∧ ii = .int .i64 (i : Int) ∧ i ≤ m ∧ Hid (m - i = k) ∧ Hid (c = decv (l1.take i) ∧ sc = 10 ^ i) ∧ Hid (Frm w wv [⟨b2, .nat, .num 0⟩, ⟨b6, .nat, .num A⟩] []))
      case atStart => exact ⟨0, 0, 1, rfl, rfl, rfl, by omega, Lib.hid rfl, Lib.hid ⟨by simp [decv], by simp⟩, Lib.hid (J.out.vals fn)⟩
      case round =>
        clear J
        obtain ⟨i, c, sc, rfl, rfl, rfl, hi, HKI, HCS, J⟩ := hrel
        have hcb := parse_bounds HCS.out.1 HCS.out.2 (show i ≤ 19 by omega) HS1.out.2.1 (by have := HS1.out.1.1; have := HMS.out; omega)
        rcases Nat.lt_or_ge i m with hlt | hlt
        · have HLT : Hid (decide (((i : Nat) : Int) < ((m : Nat) : Int)) = true) := Lib.hid (decide_eq_true (by omega))
          obtain ⟨dg, hdg⟩ : ∃ dg, dg = l1.getD i 0 := ⟨_, rfl⟩
          have hd9 : dg < 10 := by rw [hdg]; exact parse_digit HS1.out.2.1 i
          have his : i < s1.size := by have := HMS.out; omega
          have HDG : Hid ((s1[i]'his).toNat = 48 + dg) := Lib.hid (by rw [hdg]; exact HS1.out.1.2 i his)
          have HIS := Lib.hid his
          have hcb2 := parse_bounds2 HCS.out.1 HCS.out.2 (show i < 19 by omega) HS1.out.2.1 (by have := HS1.out.1.1; omega)
          have HNX : Hid (10 * c + dg = decv (l1.take (i + 1)) ∧ sc * 10 = 10 ^ (i + 1)) := Lib.hid (by rw [hdg]; exact parse_step HCS.out.1 HCS.out.2 (by have := HS1.out.1.1; omega))
          clear hdg
          refine region_c [22] [.is (.bool true)] [] [] [] J ?_ ?_
          · refine .pl rfl (fun _ _ W Γ => ev_lss (Γ.s rfl) (Γ.s rfl) HLT.out) ?_
            exact .nil
          clear J; intro K17 hK17; simp only [fx]; intro _ f17 W17 J; refine hK17.out _ _ ?_; clear hK17
          refine wp_seq_h ?_; intro K18 hK18
          refine wp_cond_true rfl ?_
          refine wp_skip ?_
          refine hK18.out _ _ ?_; clear hK18
          refine wp_seq_h ?_; intro K19 hK19
          refine wp_block ?_
          refine region_c [23, 9] [.is (.int .i64 ((i : Nat) : Int)), .is (.int .i64 ((i : Nat) : Int))] [] [] [] J ?_ ?_
          · refine .pl rfl (fun _ _ W Γ => ev_move _ (Γ.s rfl)) ?_
            refine .pl rfl (fun _ _ W Γ => ev_assign _ (Γ.k 0 rfl)) ?_
            exact .nil
          clear J; intro K20 hK20; simp only [fx]; intro _ f20 W20 J; refine hK20.out _ _ ?_; clear hK20
          refine region_c [24, 25, 26, 27, 28, 29, 30, 31, 7] [.is (.int .u64 ((c : Nat) : Int)), .is (.int .u64 ((10 * c : Nat) : Int)), .is (.string s1), .is (.int .i64 ((i : Nat) : Int)), .is (.int .u8 ((48 + dg : Nat) : Int)), .is (.int .u8 ((dg : Nat) : Int)), .is (.int .u64 ((dg : Nat) : Int)), .is (.int .u64 ((10 * c + dg : Nat) : Int)), .is (.int .u64 ((10 * c + dg : Nat) : Int))] [] [] [] J ?_ ?_
          · refine .pl rfl (fun _ _ W Γ => ev_move _ (Γ.s rfl)) ?_
            refine .pl rfl (fun _ E W Γ => by
              have e1 : E (.tmp 23) = .int .u64 ((c : Nat) : Int) := (Γ.k 0 rfl)
              have hc := Γ.c
              exact Does.value (w' := W) (by go_simp <;> first | rfl | (rw [IntKind.wrap_u64]; omega) | (rw [IntKind.wrap_i64]; omega) | (rw [IntKind.wrap_u8]; omega) | omega) ⟨rfl, Below.refl _ _⟩) ?_
            refine .pl rfl (fun _ _ W Γ => ev_move _ (Γ.s rfl)) ?_
            refine .pl rfl (fun _ _ W Γ => ev_move _ (Γ.s rfl)) ?_
            refine .pl rfl (fun _ E W Γ => by
              have e1 : E (.tmp 25) = .string s1 := (Γ.k 2 rfl)
              have e2 : E (.tmp 26) = .int .i64 ((i : Nat) : Int) := (Γ.k 3 rfl)
              have hc := Γ.c
              have hdg := HDG.out
              have his := HIS.out
              exact Does.value (w' := W) (by go_simp) ⟨rfl, Below.refl _ _⟩) ?_
            refine .pl rfl (fun _ E W Γ => by
              have e1 : E (.tmp 27) = .int .u8 ((48 + dg : Nat) : Int) := (Γ.k 4 rfl)
              have hc := Γ.c
              exact Does.value (w' := W) (by go_simp <;> first | rfl | (rw [IntKind.wrap_u64]; omega) | (rw [IntKind.wrap_i64]; omega) | (rw [IntKind.wrap_u8]; omega) | omega) ⟨rfl, Below.refl _ _⟩) ?_
            refine .pl rfl (fun _ E W Γ => by
              have e1 : E (.tmp 28) = .int .u8 ((dg : Nat) : Int) := (Γ.k 5 rfl)
              have hc := Γ.c
              exact Does.value (w' := W) (by go_simp <;> first | rfl | (rw [IntKind.wrap_u64]; omega) | (rw [IntKind.wrap_i64]; omega) | (rw [IntKind.wrap_u8]; omega) | omega) ⟨rfl, Below.refl _ _⟩) ?_
            refine .pl rfl (fun _ E W Γ => by
              have e1 : E (.tmp 24) = .int .u64 ((10 * c : Nat) : Int) := (Γ.k 1 rfl)
              have e2 : E (.tmp 29) = .int .u64 ((dg : Nat) : Int) := (Γ.k 6 rfl)
              have hc := Γ.c
              exact Does.value (w' := W) (by go_simp <;> first | rfl | (rw [IntKind.wrap_u64]; omega) | (rw [IntKind.wrap_i64]; omega) | (rw [IntKind.wrap_u8]; omega) | omega) ⟨rfl, Below.refl _ _⟩) ?_
            refine .pl rfl (fun _ _ W Γ => ev_assign _ (Γ.k 7 rfl)) ?_
            exact .nil
          clear J; intro K21 hK21; simp only [fx]; intro _ f21 W21 J; refine hK21.out _ _ ?_; clear hK21
          refine region_f [32, 33, 8] [.is (.int .u64 ((sc : Nat) : Int)), .is (.int .u64 ((sc * 10 : Nat) : Int)), .is (.int .u64 ((sc * 10 : Nat) : Int))] [] [] [] J ?_ ?_
          · refine .pl rfl (fun _ _ W Γ => ev_move _ (Γ.s rfl)) ?_
            refine .pl rfl (fun _ E W Γ => by
              have e1 : E (.tmp 31) = .int .u64 ((sc : Nat) : Int) := (Γ.k 0 rfl)
              have hc := Γ.c
              exact Does.value (w' := W) (by go_simp <;> first | rfl | (rw [IntKind.wrap_u64]; omega) | (rw [IntKind.wrap_i64]; omega) | (rw [IntKind.wrap_u8]; omega) | omega) ⟨rfl, Below.refl _ _⟩) ?_
            refine .pl rfl (fun _ _ W Γ => ev_assign _ (Γ.k 1 rfl)) ?_
            exact .nil
          clear J; simp only [fx]; intro _ f22 W22 J
          refine hK19.out _ _ ?_; clear hK19
          refine region_f [34, 21] [.is (.int .i64 ((i + 1 : Nat) : Int)), .is (.int .i64 ((i + 1 : Nat) : Int))] [] [] [] J ?_ ?_
          · refine .pl rfl (fun _ E W Γ => by
              have e1 : E (.tmp 20) = .int .i64 ((i : Nat) : Int) := (Γ.s rfl)
              have hc := Γ.c
              exact Does.value (w' := W) (by go_simp <;> first | rfl | (rw [IntKind.wrap_u64]; omega) | (rw [IntKind.wrap_i64]; omega) | (rw [IntKind.wrap_u8]; omega) | omega) ⟨rfl, Below.refl _ _⟩) ?_
            refine .pl rfl (fun _ _ W Γ => ev_move _ (Γ.k 0 rfl)) ?_
            exact .nil
          clear J; simp only [fx]; intro _ f23 W23 J
          simp only [Exit.then]
          go_step
          go_roundg (m - (i + 1))
          case measure => have h1 := HKI.out; omega
          case rel => exact ⟨i + 1, 10 * c + dg, sc * 10, rfl, rfl, rfl, hlt, Lib.hid rfl, HNX, Lib.hid (J.out.vals fn)⟩
        · have HLT : Hid (decide (((i : Nat) : Int) < ((m : Nat) : Int)) = false) := Lib.hid (decide_eq_false (by omega))
          obtain rfl : m = i := by omega
          have HSZ := Lib.hid (parse_sizes HV.out HCS.out.1 HCS.out.2 HSD.out.2.1 HSD.out.2.2.2.1 hcb)
          clear hlt hi HKI
          refine region_c [22] [.is (.bool false)] [] [] [] J ?_ ?_
          · refine .pl rfl (fun _ _ W Γ => ev_lss (Γ.s rfl) (Γ.s rfl) HLT.out) ?_
            exact .nil
          clear J; intro K24 hK24; simp only [fx]; intro _ f24 W24 J; refine hK24.out _ _ ?_; clear hK24
          refine wp_seq_h ?_; intro K25 hK25
          refine wp_cond_false rfl ?_
          refine wp_exit ?_
          simp only [Exit.then, Exit.inBlock, ↓reduceIte]
          refine hK15.out _ _ ?_; clear hK15
          refine region_c [35, 36, 37, 38, 39, 40, 41, 0] [.num A, .is (.int .u64 ((sc : Nat) : Int)), .num sc, .num (A * sc), .is (.int .u64 ((c : Nat) : Int)), .num c, .num (A * sc + c), .any] [none, some (7, .num (A * sc + c))] [] [(0, 34), (2, 36), (3, 37), (5, 39), (6, 40)] J ?_ ?_
          · refine .pl rfl (fun _ _ W Γ => ev_ldN (Γ.s rfl) (Γ.u 1 rfl rfl).1) ?_
            refine .pl rfl (fun _ _ W Γ => ev_move _ (Γ.s rfl)) ?_
            refine .pl rfl (fun _ _ W Γ => ev_call1 (Γ.f _) run_Of (by rw [(show _ = Value.int .u64 ((sc : Nat) : Int) from (Γ.k (d := 35) 1 rfl))]; exact of_gives sc (by omega) W)) ?_
            refine .pl rfl (fun _ _ W Γ => ev_call2 (Γ.f _) run_nMul (nMul_gives W _ _ A sc HSZ.out.1 HSZ.out.2.1 (Γ.w (d := 34) 0 rfl) (Γ.w (d := 36) 2 rfl))) ?_
            refine .pl rfl (fun _ _ W Γ => ev_move _ (Γ.s rfl)) ?_
            refine .pl rfl (fun _ _ W Γ => ev_call1 (Γ.f _) run_Of (by rw [(show _ = Value.int .u64 ((c : Nat) : Int) from (Γ.k (d := 38) 4 rfl))]; exact of_gives c (by omega) W)) ?_
            refine .pl rfl (fun _ _ W Γ => ev_call2 (Γ.f _) run_nAdd (nAdd_gives2 W _ _ (A * sc) c HSZ.out.2.2.1 HSZ.out.2.2.2 (Γ.w (d := 37) 3 rfl) (Γ.w (d := 39) 5 rfl))) ?_
            refine .st 1 rfl rfl rfl (fun _ _ W Γ => ev_stN (Γ.s rfl) (Γ.u 1 rfl rfl) (Γ.w 6 rfl)) ?_
            exact .nil
          clear J; intro K26 hK26; simp only [fx]; intro _ f26 W26 J; refine hK26.out _ _ ?_; clear hK26
          refine region_f [42, 43, 44, 1] [.is (.string s1), .is (.int .i64 ((m : Nat) : Int)), .is (.string (s1.extract m s1.size)), .is (.string (s1.extract m s1.size))] [] [] [] J ?_ ?_
          · refine .pl rfl (fun _ _ W Γ => ev_move _ (Γ.s rfl)) ?_
            refine .pl rfl (fun _ _ W Γ => ev_move _ (Γ.s rfl)) ?_
            refine .pl rfl (fun _ E W Γ => by
              have e1 : E (.tmp 41) = .string s1 := (Γ.k 0 rfl)
              have e2 : E (.tmp 42) = .int .i64 ((m : Nat) : Int) := (Γ.k 1 rfl)
              have hc := Γ.c
              have hms := HMS.out
              exact Does.value (w' := W) (by go_simp) ⟨rfl, Below.refl _ _⟩) ?_
            refine .pl rfl (fun _ _ W Γ => ev_assign _ (Γ.k 2 rfl)) ?_
            exact .nil
          clear J; simp only [fx]; intro _ f27 W27 J
          simp only [Exit.then, Exit.inBlock]
          go_step
          go_roundg (s1.extract m s1.size).size
          case measure => have h1 := HK.out; have h2 := HMS.out; rw [ByteArray.size_extract]; omega
          case rel => exact ⟨_, l1.drop m, A * sc + c, rfl, Lib.hid rfl, Lib.hid ⟨HS1.out.1.drop m HMS.out.1, fun d hd => HS1.out.2.1 d (List.mem_of_mem_drop hd), by have := HS1.out.2.2; rw [List.length_drop]; omega⟩, Lib.hid (by rw [← HV.out]; exact parse_next HCS.out.1 HCS.out.2 (by have := HS1.out.1.1; have := HMS.out; omega)), Lib.hid (J.out.vals fn)⟩
def SB (s : ByteArray) (l : List Nat) : Prop := l.length = s.size ∧ ∀ k (h : k < s.size), (s[k]).toNat = l.getD k 0
theorem SB.digits {s : ByteArray} {l : List Nat} (h : SB s l) (hd : DecText l) : SD s (l.map (· - 48)) ∧ (∀ d ∈ l.map (· - 48), d < 10) ∧ 0 < (l.map (· - 48)).length ∧ (l.map (· - 48)).length ≤ 200 ∧ ((l.map (· - 48)).getD 0 0 ≠ 0 ∨ (l.map (· - 48)).length = 1) := by
  obtain ⟨h1, h2⟩ := h
  obtain ⟨d1, d2, d3, d4⟩ := hd
  have e : ∀ k, k < l.length → (l.map (· - 48)).getD k 0 = l.getD k 0 - 48 := fun k hk => by
    rw [List.getD_eq_getElem?_getD, List.getD_eq_getElem?_getD, List.getElem?_map, List.getElem?_eq_getElem hk]; rfl
  refine ⟨⟨by rw [List.length_map]; exact h1, fun k hk => ?_⟩, fun d hd => ?_, by rw [List.length_map]; exact d1, by rw [List.length_map]; exact d2, ?_⟩
  · rw [h2 k hk, e k (by omega)]; have := d4 k (by omega); omega
  · obtain ⟨x, hx, rfl⟩ := List.mem_map.1 hd
    obtain ⟨i, hi, rfl⟩ := List.getElem_of_mem hx
    have := d4 i hi
    rw [List.getD_eq_getElem?_getD, List.getElem?_eq_getElem hi] at this
    simp only [Option.getD_some] at this
    omega
  · rw [List.length_map, e 0 d1]
    rcases d3 with h | h
    · left; have := d4 0 d1; omega
    · right; exact h
theorem isDec_none (w : World) (s : ByteArray) (l : List Nat) (h : SB s l) (hm : s.size ≤ 9223372036854775807) (hno : ¬ DecText l) : Calls Tryz.prog 38 #[.string s] w (Gives w (.is (.bool false))) :=
  (isDec_no s l w s.size rfl hm h.1 h.2 hno).mono fun e w' ⟨h, hw⟩ => ⟨_, h, rfl, by rw [hw]; exact Below.refl _ _⟩
set_option maxRecDepth 100000 in
theorem ev_zeroN {E : Operand → Value} {w : World} {d : Option Tmp} {ty : TypeId} {pos : String} {af : Array Edge} {gd : Option (Nat × Bool)} : Does Tryz.prog ⟨d, .build 26 #[], ty, pos, af, gd⟩ E w fun v' w' => Means w' (.num 0) v' ∧ Below w.heap.size w w' :=
  Does.value (v := .agg #[.int .u64 0, .slice none 0 0]) (w' := w) (by go_simp) ⟨⟨_, _, _, _, rfl, Or.inl ⟨by show (0 : Nat) < 2 ^ 64; omega, rfl, rfl, rfl, rfl⟩⟩, Below.refl _ _⟩
set_option maxRecDepth 100000 in
set_option maxHeartbeats 8000000 in
theorem parse_noText (w : World) (s : ByteArray) (l : List Nat) (h : SB s l ∧ s.size ≤ 9223372036854775807 ∧ ¬ DecText l) :
    Calls Tryz.prog 21 #[.string s] w (Gives w (.two (.num 0) (.is (.bool false)))) := by
  have HSB := Lib.hid h; clear h
  go_enter Tryz.func21, Tryz.ntmps21
  have J := Frm.start (w := w) (V := []) fn
  refine wp_seq_h ?_; intro K1 hK1; go_wp2
  obtain ⟨W2, b2, eW2, eb2, sz2, J⟩ := Frm.putN0 J rfl
  rw [← eW2, ← eb2]
  clear eW2 eb2 sz2
  refine hK1.out _ _ ?_; clear hK1
  refine wp_seq_h ?_; intro K3 hK3
  refine region_c [10, 11, 12] [.is (.string s), .is (.bool false), .is (.bool true)] [] [] [] J ?_ ?_
  · refine .pl rfl (fun _ _ W Γ => ev_move _ (Γ.s rfl)) ?_
    refine .pl rfl (fun _ _ W Γ => ev_call1 (Γ.f _) run_isDecimal (by rw [(show _ = Value.string s from (Γ.k (d := 9) 0 rfl))]; exact isDec_none W s l HSB.out.1 HSB.out.2.1 HSB.out.2.2)) ?_
    refine .pl rfl (fun _ _ W Γ => ev_not (Γ.k 1 rfl) rfl) ?_
    exact .nil
  clear J; intro K4 hK4; simp only [fx]; intro _ f4 W4 J; refine hK4.out _ _ ?_; clear hK4
  refine wp_cond_true rfl ?_
  refine region_c [13, 0, 4] [.num 0, .any, .is (.bool false)] [some (1, .num 0)] [] [] J ?_ ?_
  · refine .pl rfl (fun _ _ W Γ => ev_zeroN) ?_
    refine .st 0 rfl rfl rfl (fun _ _ W Γ => ev_stN (Γ.s rfl) (Γ.u 0 rfl rfl) (Γ.w 0 rfl)) ?_
    refine .pl rfl (fun _ _ W Γ => ev_assign _ (Γ.c _)) ?_
    exact .nil
  clear J; intro K5 hK5; simp only [fx]; intro _ f5 W5 J; refine hK5.out _ _ ?_; clear hK5
  refine wp_ret ?_
  obtain ⟨u0, hx0, hm0⟩ := J.out.get 0 rfl
  obtain ⟨sr0, pr0, lr0, cr0, rfl, c0_0, c0_1⟩ := hx0.nat
  exact bodyPost_ret (v := .tuple #[.agg #[.int .u64 sr0, .slice pr0 lr0 cr0], .bool false]) (by simp [results, Tryz.results21, go_sem, c0_0, c0_1]) rfl ⟨_, rfl, ⟨_, _, rfl, hm0, rfl⟩, J.out.be⟩
theorem parse_text (w : World) (s : ByteArray) (l : List Nat) (h : SB s l) (hm : s.size ≤ 9223372036854775807) :
    (DecText l → Calls Tryz.prog 21 #[.string s] w (Gives w (.two (.num (decv (l.map (· - 48)))) (.is (.bool true))))) ∧ (¬ DecText l → Calls Tryz.prog 21 #[.string s] w (Gives w (.two (.num 0) (.is (.bool false))))) :=
  ⟨fun hd => parse_any w s _ (h.digits hd), fun hd => parse_noText w s l ⟨h, hm, hd⟩⟩
end Go.Proofs.YtfjjmhbffbhhdaaGreatDoor
