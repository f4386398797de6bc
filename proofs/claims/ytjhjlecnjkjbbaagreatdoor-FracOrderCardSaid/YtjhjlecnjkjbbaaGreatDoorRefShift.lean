/- The document's moves by bits. -/
import Derived.Test.YtjhjlecnjkjbbaaGreatDoorRefProd
import Derived.Test.YtjhjlecnjkjbbaaGreatDoorQNum
import Derived.Test.YtjhjlecnjkjbbaaGreatDoorDiv64
import Derived.Laws.OwnMore
import Derived.Maps.AppendAt
namespace Go.Proofs.YtjhjlecnjkjbbaaGreatDoor
open Go.RowKit

structure RUp (ys xs : List Nat) (skip part k c : Nat) : Prop where
  len : xs.length = skip + k
  lt : ∀ x ∈ xs, x < 2 ^ 32
  carry : c < 2 ^ part
  sum : val (2 ^ 32) xs + (2 ^ 32) ^ (skip + k) * c = val (2 ^ 32) (ys.take k) * 2 ^ part * (2 ^ 32) ^ skip

theorem RUp.start (ys : List Nat) (skip part : Nat) : RUp ys (List.replicate skip 0) skip part 0 0 := by
  refine ⟨by simp, fun x hx => by rw [List.eq_of_mem_replicate hx]; omega, Nat.two_pow_pos part, ?_⟩
  rw [val_replicate_zero]; simp [val]

theorem rup_digit {x c part : Nat} (hx : x < 2 ^ 32) (hc : c < 2 ^ part) (hp : part < 32) : x * 2 ^ part < 2 ^ 64 ∧ c ||| x * 2 ^ part = c + x * 2 ^ part ∧ c + x * 2 ^ part < 2 ^ 64 ∧ (c + x * 2 ^ part) / 2 ^ 32 < 2 ^ part := by
  have h1 : (x + 1) * 2 ^ part ≤ 2 ^ 32 * 2 ^ part := Nat.mul_le_mul_right _ hx
  rw [Nat.add_mul] at h1
  have h2 : (2 : Nat) ^ 32 * 2 ^ part ≤ 2 ^ 64 := by rw [← Nat.pow_add]; exact Nat.pow_le_pow_right (by omega) (by omega)
  refine ⟨by have := Nat.two_pow_pos part; omega, ?_, by omega, ?_⟩
  · rw [Nat.mul_comm x, Nat.or_comm, ← Nat.two_pow_add_eq_or_of_lt hc, Nat.add_comm]
  · rw [Nat.div_lt_iff_lt_mul (by omega), Nat.mul_comm (2 ^ part)]; omega

theorem RUp.step {ys xs : List Nat} {skip part k c : Nat} (h : RUp ys xs skip part k c) (hA : ∀ x ∈ ys, x < 2 ^ 32) (hp : part < 32) :
    RUp ys (xs ++ [(c + ys.getD k 0 * 2 ^ part) % 2 ^ 32]) skip part (k + 1) ((c + ys.getD k 0 * 2 ^ part) / 2 ^ 32) := by
  have hx := getD_lt hA (by omega) k
  obtain ⟨_, _, _, e4⟩ := rup_digit hx h.carry hp
  have hl := h.len
  refine ⟨by rw [List.length_append, List.length_singleton]; omega, ?_, e4, ?_⟩
  · intro x hx
    rcases List.mem_append.1 hx with h1 | h1
    · exact h.lt x h1
    · rw [List.mem_singleton.1 h1]; exact Nat.mod_lt _ (by omega)
  · rw [val_snoc, hl, val_take_succ' (2 ^ 32) ys]
    have h1 := h.sum
    have h2 := Nat.mod_add_div (c + ys.getD k 0 * 2 ^ part) (2 ^ 32)
    rw [show skip + (k + 1) = skip + k + 1 from by omega, Nat.pow_succ (2 ^ 32)]
    generalize ys.getD k 0 = x at *
    generalize val (2 ^ 32) xs = X at *
    generalize val (2 ^ 32) (ys.take k) = Y at *
    rw [Nat.pow_add (2 ^ 32)] at h1 ⊢
    generalize (2 ^ 32) ^ skip = S at *
    generalize (2 ^ 32) ^ k = T at *
    generalize 2 ^ part = p at *
    generalize (c + x * p) % 2 ^ 32 = lo at *
    generalize (c + x * p) / 2 ^ 32 = hi at *
    have e : S * T * (lo + 2 ^ 32 * hi) = S * T * (c + x * p) := by rw [h2]
    generalize (2 ^ 32 : Nat) = B at *
    grind

theorem RUp.done {ys xs : List Nat} {skip part c n : Nat} (h : RUp ys xs skip part (ys.length + 1) c) (hA : ∀ x ∈ ys, x < 2 ^ 32) (hp : part < 32) (hn : n = 32 * skip + part) : val (2 ^ 32) xs = val (2 ^ 32) ys * 2 ^ n := by
  have h1 := h.sum
  rw [List.take_of_length_le (by omega)] at h1
  have h2 := val_lt (2 ^ 32) ys hA
  have h3 : val (2 ^ 32) ys * 2 ^ part * (2 ^ 32) ^ skip < (2 ^ 32) ^ (skip + (ys.length + 1)) := by
    have e : (2 ^ 32) ^ (skip + (ys.length + 1)) = (2 ^ 32) ^ ys.length * 2 ^ 32 * (2 ^ 32) ^ skip := by rw [Nat.pow_add, Nat.pow_succ]; exact Nat.mul_comm _ _
    rw [e]
    refine Nat.mul_lt_mul_of_pos_right ?_ (Nat.pow_pos (by omega))
    exact Nat.mul_lt_mul'' h2 (Nat.pow_lt_pow_right (by omega) hp)
  have hc : c = 0 := by
    rcases Nat.eq_zero_or_pos c with h | h
    · exact h
    · have : (2 ^ 32) ^ (skip + (ys.length + 1)) * 1 ≤ (2 ^ 32) ^ (skip + (ys.length + 1)) * c := Nat.mul_le_mul_left _ h
      omega
  rw [hc, Nat.mul_zero, Nat.add_zero] at h1
  rw [h1, hn, Nat.pow_add, Nat.pow_mul, Nat.mul_assoc, Nat.mul_comm (2 ^ part)]

theorem cells_made (n : Nat) : (madeCells #[.int .u32 0] n).toList = cellsOfRow .u32 (List.replicate n 0) := by
  unfold madeCells cellsOfRow
  apply List.ext_getElem
  · simp
  · intro i h1 h2
    simp [Nat.mod_one]

set_option maxRecDepth 100000 in
set_option maxHeartbeats 2000000 in
theorem rShiftUp_any (p : Option Addr) (l c m n : Nat) (w : World) (hl : l ≤ 100000) (hn : n ≤ 1000000) (h : IsR w p l c m) :
    Calls Tryz.prog 144 #[.slice p l c, .int .i64 (n : Int)] w (RetR w (m * 2 ^ n)) := by
  obtain ⟨i0, hi, hz0, hz1, hz2⟩ := info_parts Tryz.infoU32
  obtain ⟨skip, hs⟩ : ∃ s, s = n / 32 := ⟨_, rfl⟩
  obtain ⟨part, hp⟩ : ∃ p, p = n % 32 := ⟨_, rfl⟩
  have t1 : IntKind.i64.wrap ((n : Int).tdiv 32) = (skip : Int) := by rw [Int.tdiv_eq_ediv_of_nonneg (by omega), IntKind.wrap_i64]; omega
  have t1' : (n : Int) / 32 = (skip : Int) := by omega
  have t2 : (n : Int).tmod 32 = (part : Int) := by rw [Int.tmod_eq_emod_of_nonneg (by omega)]; omega
  have t2' : (n : Int) % 32 = (part : Int) := by omega
  have hp32 : part < 32 := by omega
  have hskip : skip ≤ 31250 := by omega
  have HN : Hid (n = 32 * skip + part) := Lib.hid (by omega)
  have hmk := make_rn skip (by omega)
  have H := Lib.hid h; have HL1 := Lib.hid h.1
  clear h hs hp hn
  go_enter Tryz.func144, Tryz.ntmps144
  go_wp2_with fail
  have B3 : Below w.heap.size w (w.alloc (.cells (madeCells #[.int .u32 0] skip) 118)) := below_alloc (Below.refl _ _) _
  have O3 := World.ownsRow_lit (base := w.heap.size) (e := 118) (size := 1) w (madeCells #[.int .u32 0] skip) skip (Nat.le_refl _) (by unfold maxLen; omega) (by simp [madeCells])
  rw [cells_made] at O3
  obtain ⟨w3, hw3⟩ : ∃ w3, w3 = w.alloc (.cells (madeCells #[.int .u32 0] skip) 118) := ⟨_, rfl⟩
  rw [← hw3] at B3 O3 ⊢
  have HB3 := Lib.hid B3; have HO3 := Lib.hid O3; have X1 := Lib.hid (H.out.mono B3)
  clear B3 O3 hw3 hmk t1 t1'
  go_loopw [5, 6, 7] (fun o cc i wr => ∃ k c' : Nat, k ≤ l + 1 ∧ i = .int .i64 k ∧ cc = .int .u64 (c' : Int) ∧ o ≠ .slice none 0 0 ∧ ∃ xs : List Nat, Hid (RUp (dr m) xs skip part k c') ∧ Hid (wr.ownsRow w.heap.size 118 1 o xs.length (cellsOfRow .u32 xs)) ∧ Hid (IsR wr p l c m) ∧ Hid (Below w.heap.size w wr)) (fun _ _ i _ => l + 1 - (intOf i).toNat)
  case atStart => exact ⟨0, 0, Nat.zero_le _, rfl, rfl, by simp, List.replicate skip 0, Lib.hid (RUp.start _ _ _), by have := HO3; simp only [List.length_replicate]; exact this, X1, HB3⟩
  case round =>
    obtain ⟨k, c', hk, rfl, rfl, hne, xs, HI, HO, X1, HB⟩ := hrel
    have hxl := HI.out.len
    by_cases hlt : k < l + 1
    · have hx := getD_lt (dr_lt m) (by omega) k
      obtain ⟨e1, e2, e3, e4⟩ := rup_digit hx HI.out.carry hp32
      have T := Lib.hid (rAt_any m k p l c wr X1.out (by omega))
      have HS := Lib.hid (HI.out.step (dr_lt m) hp32)
      have wsl : IntKind.u64.wrap ((((dr m).getD k 0 : Nat) : Int) * 2 ^ part) = (((dr m).getD k 0 * 2 ^ part : Nat) : Int) := by
        rw [show ((((dr m).getD k 0 : Nat) : Int) * 2 ^ part) = (((dr m).getD k 0 * 2 ^ part : Nat) : Int) from by norm_cast]
        exact wrap_at (by omega)
      have hcb : c' < 2 ^ 64 := by omega
      have wor : bits .or .u64 (c' : Int) (((dr m).getD k 0 * 2 ^ part : Nat) : Int) = ((c' + (dr m).getD k 0 * 2 ^ part : Nat) : Int) := by
        rw [u64_or_nat _ _ (by omega) (by omega), e2]
      obtain ⟨t, ht⟩ : ∃ t, t = c' + (dr m).getD k 0 * 2 ^ part := ⟨_, rfl⟩
      rw [← ht] at wor HS e3
      generalize (dr m).getD k 0 * 2 ^ part = y at *
      generalize (dr m).getD k 0 = x at *
      have i1 : (k : Int) ≤ l := by omega
      have HXL := Lib.hid hxl
      obtain ⟨th, hth⟩ : ∃ th, th = t / 2 ^ 32 := ⟨_, rfl⟩
      rw [← hth] at HS
      have whi : (t : Int) / 4294967296 = (th : Int) := by omega
      clear hth
      clear hx e1 e2 e4 ht hcb hxl HI
      have HT3 := Lib.hid e3
      clear e3
      go_wp2_with fail
      refine T.out.mono ?_
      rintro e _ ⟨rfl, rfl⟩
      go_wp2_with (at_builtin; go_loud (refine wpList_append_own _ rfl (.tmp 31) (.tmp 34) 26 rfl w.heap.size 118 i0 (.int .u32 0) 1 4 Tryz.underlying26 hi hz0 hz1 hz2 rfl (by decide) u5 xs.length (cellsOfRow .u32 xs) rfl ?own ⟨wr.heap.size, 0, none⟩ 1 1 [.int .u32 ((t : Int) % 4294967296)] rfl ?c1 ?c2 ?c3 ?c4 ?c5 ?c6 ?_))
      case own => exact HO.out.alloc _
      case c1 => rfl
      case c2 => exact cell_one_new _ _ _
      case c3 => intro u hu; simp at hu; subst hu; rfl
      case c4 => unfold maxLen; have := HXL.out; omega
      case c5 => have := HXL.out; omega
      case c6 => have := HB.out.size; simp; omega
      intro v' w2 hown hg hnil
      have hB2 : Below w.heap.size w w2 := (below_alloc HB.out _).grown hg (by have := HB.out.size; simp; omega) (fun k hk => (HO.out.lt k hk).1)
      have hne2 := hnil
      have HO2 : Hid (w2.ownsRow w.heap.size 118 1 v' (xs ++ [t % 2 ^ 32]).length (cellsOfRow .u32 (xs ++ [t % 2 ^ 32]))) := by
        have e1 : cellsOfRow .u32 (xs ++ [t % 2 ^ 32]) = cellsOfRow .u32 xs ++ [.int .u32 ((t : Int) % 4294967296)] := by
          unfold cellsOfRow
          rw [List.map_append]
          have : ((t % 2 ^ 32 : Nat) : Int) = (t : Int) % 4294967296 := by omega
          simp only [List.map_cons, List.map_nil, this]
        rw [e1, List.length_append, List.length_singleton]
        exact Lib.hid hown
      have HB2 := Lib.hid hB2
      have X2 := Lib.hid (H.out.mono hB2)
      clear hown hg hnil hB2 HO HB X1
      go_wp2
      go_roundw
      case rel => exact ⟨k + 1, th, by omega, by go_num, rfl, hne2, xs ++ [t % 2 ^ 32], HS, HO2, X2, HB2⟩
      case measure => simp [intOf]; omega
    · obtain rfl : k = l + 1 := by omega
      obtain ⟨g, o, cc, he, v1, v2, v3, v4, hBw⟩ := ret_own HO.out hne HB.out
      injection he with he
      subst he
      have hlen := HL1.out
      have hI := HI.out
      rw [hlen] at hI
      have hv := hI.done (dr_lt m) hp32 HN.out
      rw [val_dr] at hv
      have HT := Lib.hid (rtrim_n g o cc xs.length xs rfl wr v3 HI.out.lt (by omega) v1)
      rw [hv] at HT
      have i1 : ¬ ((l + 1 : Nat) : Int) ≤ l := by omega
      clear hv hI v1 v2 v3 v4 hBw hxl HI HO hlen
      go_wp2_with fail
      refine HT.out.mono ?_
      rintro e w6 ⟨p6, l6, c6, rfl, h6, hb6⟩
      have H6 := Lib.hid h6
      have HB6 := Lib.hid (below_step HB.out hb6)
      clear h6 hb6
      go_wp2
      go_ret
      exact ⟨_, _, _, rfl, H6.out, HB6.out⟩

theorem rdown_digit {m skip part n j : Nat} (hp : part < 32) (hn : n = 32 * skip + part) :
    ((m / (2 ^ 32) ^ (skip + j) % 2 ^ 32) + 2 ^ 32 * (m / (2 ^ 32) ^ (skip + j + 1) % 2 ^ 32)) / 2 ^ part % 2 ^ 32 = m / 2 ^ n / (2 ^ 32) ^ j % 2 ^ 32 := by
  have e0 : m / (2 ^ 32) ^ (skip + j + 1) = m / (2 ^ 32) ^ (skip + j) / 2 ^ 32 := by rw [Nat.pow_succ (2 ^ 32), Nat.div_div_eq_div_mul]
  rw [e0, ← Nat.mod_mul]
  have e1 : (2 : Nat) ^ 32 * 2 ^ 32 = 2 ^ part * (2 ^ (32 - part) * 2 ^ 32) := by
    rw [← Nat.mul_assoc, ← Nat.pow_add 2 part, show part + (32 - part) = 32 from by omega]
  rw [e1, Nat.mod_mul_right_div_self, Nat.mod_mod_of_dvd _ (Nat.dvd_mul_left _ _), Nat.div_div_eq_div_mul, Nat.div_div_eq_div_mul]
  congr 2
  rw [← Nat.pow_mul, ← Nat.pow_mul, ← Nat.pow_add, ← Nat.pow_add]
  congr 1
  omega

structure RDown (M : Nat) (xs : List Nat) (k : Nat) : Prop where
  len : xs.length = k
  lt : ∀ x ∈ xs, x < 2 ^ 32
  sum : val (2 ^ 32) xs = M % (2 ^ 32) ^ k
theorem RDown.step {M : Nat} {xs : List Nat} {k d : Nat} (h : RDown M xs k) (hd : d = M / (2 ^ 32) ^ k % 2 ^ 32) : RDown M (xs ++ [d]) (k + 1) := by
  have hl := h.len
  refine ⟨by rw [List.length_append, List.length_singleton]; omega, fun x hx => ?_, ?_⟩
  · rcases List.mem_append.1 hx with h1 | h1
    · exact h.lt x h1
    · rw [List.mem_singleton.1 h1, hd]; exact Nat.mod_lt _ (by omega)
  · rw [val_snoc, hl, h.sum, hd]
    exact (Nat.mod_pow_succ (b := 2 ^ 32)).symm

set_option maxHeartbeats 1000000 in
theorem rtrim_none (w : World) : Calls Tryz.prog 93 #[.slice none 0 0] w fun e w' => w = w' ∧ e = .returned (.slice none 0 0) := by
  go_enter Tryz.func93, Tryz.ntmps93
  go_wp2
  go_loopw [3] (fun i wr => i = .int .i64 0 ∧ wr = w) (fun _ _ => 0)
  case atStart => exact ⟨rfl, rfl⟩
  case round =>
    obtain ⟨rfl, rfl⟩ := hrel
    go_wp2
    go_ret
    exact ⟨rfl, rfl⟩

set_option maxRecDepth 100000 in
set_option maxHeartbeats 2000000 in
theorem rShiftDown_any (p : Option Addr) (l c m n : Nat) (w : World) (hl : l ≤ 100000) (h0 : 0 < n) (hn : n ≤ 1000000) (h : IsR w p l c m) :
    Calls Tryz.prog 144 #[.slice p l c, .int .i64 (-(n : Int))] w (RetR w (m / 2 ^ n)) := by
  obtain ⟨i0, hi, hz0, hz1, hz2⟩ := info_parts Tryz.infoU32
  obtain ⟨skip, hs⟩ : ∃ s, s = n / 32 := ⟨_, rfl⟩
  obtain ⟨part, hp⟩ : ∃ p, p = n % 32 := ⟨_, rfl⟩
  obtain ⟨z, hz⟩ : ∃ z : Int, z = -(n : Int) := ⟨_, rfl⟩
  rw [← hz]
  have hneg : -z = (n : Int) := by omega
  have i0' : z < 0 := by omega
  have t1 : IntKind.i64.wrap ((n : Int).tdiv 32) = (skip : Int) := by rw [Int.tdiv_eq_ediv_of_nonneg (by omega), IntKind.wrap_i64]; omega
  have t1' : (n : Int) / 32 = (skip : Int) := by omega
  have t2 : (n : Int).tmod 32 = (part : Int) := by rw [Int.tmod_eq_emod_of_nonneg (by omega)]; omega
  have t2' : (n : Int) % 32 = (part : Int) := by omega
  have hp32 : part < 32 := by omega
  have hskip : skip ≤ 31250 := by omega
  have hnn : n ≤ 1000000 := hn
  have HN : Hid (n = 32 * skip + part) := Lib.hid (by omega)
  have H := Lib.hid h; have HL1 := Lib.hid h.1
  have HML : Hid (m < (2 ^ 32) ^ l) := Lib.hid (by rw [h.1]; exact lt_pow_digs (by omega) m)
  clear h hs hp hn hz h0
  go_enter Tryz.func144, Tryz.ntmps144
  go_wp2_with fail
  go_loopw [8, 9] (fun o i wr => ∃ k : Nat, i = .int .i64 ((skip + k : Nat) : Int) ∧ k ≤ l ∧ (0 < k → skip + k ≤ l) ∧ ∃ xs : List Nat, Hid (RDown (m / 2 ^ n) xs k) ∧ (o ≠ .slice none 0 0 ∨ o = .slice none 0 0 ∧ k = 0) ∧ Hid (wr.ownsRow w.heap.size 118 1 o xs.length (cellsOfRow .u32 xs)) ∧ Hid (IsR wr p l c m) ∧ Hid (Below w.heap.size w wr)) (fun _ i _ => l + 1 - (intOf i).toNat)
  case atStart => exact ⟨0, by simp, Nat.zero_le _, fun h => by omega, [], Lib.hid ⟨rfl, fun x hx => by simp at hx, by simp [val, Nat.mod_one]⟩, Or.inr ⟨rfl, rfl⟩, Lib.hid (World.ownsRow_nil _ _ _ _), H, Lib.hid (Below.refl _ _)⟩
  case round =>
    obtain ⟨k, rfl, hk, hkl, xs, HI, hne, HO, X1, HB⟩ := hrel
    have hxl := HI.out.len
    by_cases hlt : skip + k < l
    · have hx := getD_lt (dr_lt m) (by omega) (skip + k)
      have hy := getD_lt (dr_lt m) (by omega) (skip + k + 1)
      have T1 := Lib.hid (rAt_any m (skip + k) p l c wr X1.out (by omega))
      have T2 := Lib.hid (rAt_any m (skip + k + 1) p l c wr X1.out (by omega))
      have hdig := rdown_digit (m := m) (j := k) hp32 HN.out
      rw [← digs_getD (by omega) m (skip + k), ← digs_getD (by omega) m (skip + k + 1)] at hdig
      have hdig : ((dr m).getD (skip + k) 0 + 2 ^ 32 * (dr m).getD (skip + k + 1) 0) / 2 ^ part % 2 ^ 32 = m / 2 ^ n / (2 ^ 32) ^ k % 2 ^ 32 := hdig
      have HS := Lib.hid (HI.out.step hdig)
      generalize (dr m).getD (skip + k) 0 = x at *
      generalize (dr m).getD (skip + k + 1) 0 = y at *
      obtain ⟨t, ht⟩ : ∃ t, t = x + 2 ^ 32 * y := ⟨_, rfl⟩
      rw [← ht] at HS
      have wor : bits .or .u64 (x : Int) ((y : Int) * 4294967296) = (t : Int) := by
        rw [show (y : Int) * 4294967296 = ((2 ^ 32 * y : Nat) : Int) from by omega, u64_or_nat _ _ (by omega) (by omega), Nat.or_comm, ← Nat.two_pow_add_eq_or_of_lt hx, ht, Nat.add_comm]
      obtain ⟨u, hu⟩ : ∃ u, u = t / 2 ^ part := ⟨_, rfl⟩
      rw [← hu] at HS
      have wsr : (t : Int) / 2 ^ part = (u : Int) := by rw [hu, Int.natCast_ediv, Int.natCast_pow]; rfl
      obtain ⟨i, hi2⟩ : ∃ i, i = skip + k := ⟨_, rfl⟩
      rw [← hi2] at T1 T2 ⊢
      have i1 : (i : Int) < l := by omega
      rw [show ((i + 1 : Nat) : Int) = (i : Int) + 1 from by omega] at T2
      have HXL := Lib.hid hxl; have HI2 := Lib.hid hi2; have HNE := Lib.hid hne
      have wsl : IntKind.u64.wrap ((y : Int) * 4294967296) = (y : Int) * 4294967296 := by rw [IntKind.wrap_u64]; omega
      clear hx hy hdig ht hu hxl HI hi2 hne t1 t1' i0' hneg
      go_wp2_with fail
      refine T1.out.mono ?_
      rintro e _ ⟨rfl, rfl⟩
      go_wp2_with fail
      refine T2.out.mono ?_
      rintro e _ ⟨rfl, rfl⟩
      go_wp2_with (at_builtin; go_loud (refine wpList_append_own _ rfl (.tmp 59) (.tmp 66) 26 rfl w.heap.size 118 i0 (.int .u32 0) 1 4 Tryz.underlying26 hi hz0 hz1 hz2 rfl (by decide) u8 xs.length (cellsOfRow .u32 xs) rfl ?own ⟨wr.heap.size, 0, none⟩ 1 1 [.int .u32 ((u : Int) % 4294967296)] rfl ?c1 ?c2 ?c3 ?c4 ?c5 ?c6 ?_))
      case own => exact HO.out.alloc _
      case c1 => rfl
      case c2 => exact cell_one_new _ _ _
      case c3 => intro u hu; simp at hu; subst hu; rfl
      case c4 => unfold maxLen; have := HXL.out; omega
      case c5 => have := HXL.out; omega
      case c6 => have := HB.out.size; simp; omega
      intro v' w2 hown hg hnil
      have hB2 : Below w.heap.size w w2 := (below_alloc HB.out _).grown hg (by have := HB.out.size; simp; omega) (fun k hk => (HO.out.lt k hk).1)
      have hne2 : v' ≠ .slice none 0 0 := by simpa using hnil
      have HO2 : Hid (w2.ownsRow w.heap.size 118 1 v' (xs ++ [u % 2 ^ 32]).length (cellsOfRow .u32 (xs ++ [u % 2 ^ 32]))) := by
        have e1 : cellsOfRow .u32 (xs ++ [u % 2 ^ 32]) = cellsOfRow .u32 xs ++ [.int .u32 ((u : Int) % 4294967296)] := by
          unfold cellsOfRow
          rw [List.map_append]
          have : ((u % 2 ^ 32 : Nat) : Int) = (u : Int) % 4294967296 := by omega
          simp only [List.map_cons, List.map_nil, this]
        rw [e1, List.length_append, List.length_singleton]
        exact Lib.hid hown
      have HB2 := Lib.hid hB2; have HNE2 := Lib.hid hne2
      have X2 := Lib.hid (H.out.mono hB2)
      clear hown hg hnil hB2 HO HB X1 hne2
      go_wp2
      go_roundw
      case rel =>
        have h1 := HI2.out
        exact ⟨k + 1, by rw [show skip + (k + 1) = i + 1 by omega]; go_num, by omega, fun _ => by omega, xs ++ [u % 2 ^ 32], HS, Or.inl HNE2.out, HO2, X2, HB2⟩
      case measure => simp [intOf]; omega
    · have hval : val (2 ^ 32) xs = m / 2 ^ n := by
        rw [HI.out.sum]
        refine Nat.mod_eq_of_lt ?_
        have h1 := HML.out
        rw [Nat.div_lt_iff_lt_mul (Nat.two_pow_pos n)]
        refine Nat.lt_of_lt_of_le h1 ?_
        rw [← Nat.pow_mul, ← Nat.pow_mul, ← Nat.pow_add]
        refine Nat.pow_le_pow_right (by omega) ?_
        have := HN.out
        omega
      have HV := Lib.hid hval
      have i1 : ¬ ((skip + k : Nat) : Int) < l := by omega
      rcases hne with hne | ⟨rfl, rfl⟩
      · obtain ⟨g, o, cc, he, v1, v2, v3, v4, hBw⟩ := ret_own HO.out hne HB.out
        injection he with he
        subst he
        have HT := Lib.hid (rtrim_n g o cc xs.length xs rfl wr v3 HI.out.lt (by omega) v1)
        rw [HV.out] at HT
        clear hval v1 v2 v3 v4 hBw hxl HI HO
        go_wp2_with fail
        refine HT.out.mono ?_
        rintro e w6 ⟨p6, l6, c6, rfl, h6, hb6⟩
        have H6 := Lib.hid h6
        have HB6 := Lib.hid (below_step HB.out hb6)
        clear h6 hb6
        go_wp2
        go_ret
        exact ⟨_, _, _, rfl, H6.out, HB6.out⟩
      · have : xs = [] := List.eq_nil_of_length_eq_zero hxl
        subst this
        have hv0 : m / 2 ^ n = 0 := hval.symm
        have HZ := Lib.hid hv0
        clear hval hv0 hxl HI HO HV
        go_wp2_with fail
        refine (rtrim_none _).mono ?_
        rintro e _ ⟨rfl, rfl⟩
        go_wp2
        go_ret
        rw [HZ.out]
        exact ⟨_, _, _, rfl, ⟨by rw [dr_zero]; rfl, Nat.le_refl _, fun h => absurd rfl h⟩, HB.out⟩
end Go.Proofs.YtjhjlecnjkjbbaaGreatDoor
