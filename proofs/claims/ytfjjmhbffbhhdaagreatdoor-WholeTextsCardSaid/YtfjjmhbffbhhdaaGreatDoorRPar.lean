/- The document's number of a text. -/
import Derived.Test.YtfjjmhbffbhhdaaGreatDoorRefProd
import Derived.Test.YtfjjmhbffbhhdaaGreatDoorDivS
import Derived.Test.YtfjjmhbffbhhdaaGreatDoorInv
import Derived.Test.YtfjjmhbffbhhdaaGreatDoorParse
namespace Go.Proofs.YtfjjmhbffbhhdaaGreatDoor
open Go.RowKit

inductive TWant where
  | is (v : Value)
  | num (n : Nat)
  | any
def TMeans (w : World) : TWant → Value → Prop
  | .is x, v => v = x
  | .num n, v => ∃ p l c, v = .slice p l c ∧ IsR w p l c n
  | .any, _ => True
def TTab (t : List TWant) (off : Nat) (i : Nat) (v : Value) (w : World) : Prop := TMeans w (t.getD (i - off) .any) v
theorem TMeans.mono {w w' : World} {q : TWant} {v : Value} (h : TMeans w q v) (hb : Below w.heap.size w w') : TMeans w' q v := by
  cases q with
  | is x => exact h
  | any => trivial
  | num n => obtain ⟨p, l, c, e, h⟩ := h; exact ⟨p, l, c, e, h.mono hb⟩
theorem TTab.stable {t : List TWant} {off : Nat} : ∀ i v w w', Below w.heap.size w w' → TTab t off i v w → TTab t off i v w' := fun _ _ _ _ hb h => TMeans.mono h hb
set_option maxRecDepth 100000 in
theorem ev_ten {E : Operand → Value} {W : World} {d : Option Tmp} {ty : TypeId} {pos : String} {af : Array Edge} {gd : Option (Nat × Bool)} (hc : ∀ v, E (.const v) = v) :
    Does Tryz.prog ⟨d, .buildSlice 30 1 #[(0, .const (.int .u32 10))], ty, pos, af, gd⟩ E W fun v w' => TMeans w' (.num 10) v ∧ Below W.heap.size W w' := by
  have h10 : dr 10 = [10] := digs_val (b := 2 ^ 32) (by omega) [10] (by simp) (by simp)
  refine Does.value (v := .slice (some ⟨W.heap.size, 0, none⟩) 1 1) (w' := W.alloc (.cells #[.int .u32 10] 73)) (by go_simp) ⟨⟨_, 1, 1, rfl, by rw [h10]; rfl, by omega, fun _ => ⟨_, 0, rfl, ?_⟩⟩, below_alloc (Below.refl _ _) _⟩
  rw [h10]
  exact At.new1 W .u32 10 73

theorem IsR.as_num {w : World} {p : Option Addr} {l c n : Nat} {v : Value} (h : IsR w p l c n) (e : v = .slice p l c) : TMeans w (.num n) v := ⟨p, l, c, e, h⟩
def tdig (l : List Nat) : List Nat := l.map (· - 48)
theorem tdig_lt {l : List Nat} (h : ∀ i, i < l.length → 48 ≤ l.getD i 0 ∧ l.getD i 0 ≤ 57) : ∀ d ∈ tdig l, d < 10 := by
  intro d hd
  obtain ⟨x, hx, rfl⟩ := List.mem_map.1 hd
  obtain ⟨i, hi, rfl⟩ := List.getElem_of_mem hx
  have := h i hi
  rw [List.getD_eq_getElem?_getD, List.getElem?_eq_getElem hi] at this
  simp only [Option.getD_some] at this
  omega
theorem tdig_short {l : List Nat} (h : ∀ i, i < l.length → 48 ≤ l.getD i 0 ∧ l.getD i 0 ≤ 57) (hl : l.length ≤ 200) : (dr (decv (tdig l))).length ≤ 40 := by
  have h1 := decv_lt (tdig l) (tdig_lt h)
  have h2 : (tdig l).length ≤ 200 := by rw [tdig, List.length_map]; exact hl
  have h3 : 10 ^ (tdig l).length ≤ 10 ^ 200 := Nat.pow_le_pow_right (by omega) h2
  have h4 := ds_mono (show decv (tdig l) ≤ 10 ^ 200 by omega)
  have h5 := ten_words
  have h6 := dr_ds (decv (tdig l))
  omega
theorem tdig_step {l : List Nat} {k : Nat} (hk : k < l.length) : decv (tdig (l.take (k + 1))) = decv (tdig (l.take k)) * 10 + (l.getD k 0 - 48) := by
  have e : l.take (k + 1) = l.take k ++ [l.getD k 0] := by
    rw [List.take_add_one, List.getD_eq_getElem?_getD]; simp [hk]
  rw [e, tdig, List.map_append, List.map_cons, List.map_nil, decv_snoc, Nat.mul_comm]
  rfl
theorem take_getD {l : List Nat} {k i : Nat} (h : i < k) : (l.take k).getD i 0 = l.getD i 0 := by simp [List.getD, h]

def RetPar (w : World) (l : List Nat) : Ending → World → Prop := fun e w' =>
  ((DecText l ∧ ∃ p q c, e = .returned (.tuple #[.slice p q c, .bool true]) ∧ IsR w' p q c (decv (tdig l))) ∨ (¬ DecText l ∧ e = .returned (.tuple #[.slice none 0 0, .bool false]))) ∧ Below w.heap.size w w'

set_option maxRecDepth 100000 in
set_option maxHeartbeats 4000000 in
theorem rParse_any (s : ByteArray) (l : List Nat) (w : World) (h : SB s l) (hm : s.size ≤ 9223372036854775807) : Calls Tryz.prog 23 #[.string s] w (RetPar w l) := by
  obtain ⟨n, hn⟩ : ∃ n, n = s.size := ⟨_, rfl⟩
  have hs : (s.size : Int) = (n : Int) := by omega
  have hl : l.length = n := by rw [hn]; exact h.1
  have HD := Lib.hid h.2
  have hmax : n ≤ 9223372036854775807 := by omega
  clear h hm
  rcases Nat.eq_zero_or_pos n with h0 | h0
  · have b1 : ((n : Int) < 1) := by omega
    have HNO : Hid (¬ DecText l) := Lib.hid (fun h => by have := h.1; omega)
    clear hn hl h0
    go_enter Tryz.func23, Tryz.ntmps23
    go_wp2
    go_ret2
    exact ⟨.inr ⟨HNO.out, rfl⟩, Below.refl _ _⟩
  have b1 : ¬ ((n : Int) < 1) := by omega
  by_cases h2 : 200 < n
  · have b2 : (200 : Int) < (n : Int) := by omega
    have HNO : Hid (¬ DecText l) := Lib.hid (fun h => by have := h.2.1; omega)
    clear hn hl h0 h2
    go_enter Tryz.func23, Tryz.ntmps23
    go_wp2
    go_ret2
    exact ⟨.inr ⟨HNO.out, rfl⟩, Below.refl _ _⟩
  have b2 : ¬ (200 : Int) < (n : Int) := by omega
  have h00 : (0 : Nat) < s.size := by omega
  obtain ⟨x, hx⟩ : ∃ x : Nat, (s[0]'h00).toNat = x := ⟨_, rfl⟩
  have hxl : x = l.getD 0 0 := by rw [← hx]; exact HD.out 0 h00
  by_cases hbad : x = 48 ∧ 1 < n
  · have b3 : (1 : Int) < (n : Int) := by omega
    obtain ⟨rfl, hb⟩ := hbad
    have HNO : Hid (¬ DecText l) := Lib.hid (fun h => by have := h.2.2.1; omega)
    clear hl hxl hn
    go_enter Tryz.func23, Tryz.ntmps23
    go_wp2
    go_ret2
    exact ⟨.inr ⟨HNO.out, rfl⟩, Below.refl _ _⟩
  have HL := Lib.hid hl
  by_cases hx0 : x = 48
  · have b3 : ¬ (1 : Int) < (n : Int) := by omega
    have HF : Hid (l.getD 0 0 ≠ 48 ∨ l.length = 1) := Lib.hid (.inr (by omega))
    subst hx0
    clear hl hxl hn
    go_enter Tryz.func23, Tryz.ntmps23
    go_wp2_with fail
    go_loopw [4, 5] (fun o i wr => ∃ (k : Nat) (p : Option Addr) (q c : Nat), k ≤ n ∧ i = .int .i64 k ∧ o = .slice p q c ∧ Hid (∀ j, j < k → 48 ≤ l.getD j 0 ∧ l.getD j 0 ≤ 57) ∧ Hid (IsR wr p q c (decv (tdig (l.take k)))) ∧ Hid (Below w.heap.size w wr)) (fun _ i _ => n - (intOf i).toNat)
    case atStart => exact ⟨0, none, 0, 0, Nat.zero_le _, rfl, rfl, Lib.hid fun j hj => by omega, Lib.hid ⟨by simp [tdig, decv, dr_zero], Nat.le_refl _, fun h => absurd (by simp [tdig, decv]) h⟩, Lib.hid (Below.refl _ _)⟩
    case round =>
      obtain ⟨k, p, q, c, hk, rfl, rfl, HJ, HO, HB⟩ := hrel
      by_cases hlt : k < n
      · have hks : k < s.size := by omega
        obtain ⟨y, hy⟩ : ∃ y : Nat, (s[k]'hks).toNat = y := ⟨_, rfl⟩
        have HY : Hid (y = l.getD k 0) := Lib.hid (by rw [← hy]; exact HD.out k hks)
        rcases (show y < 48 ∨ (48 ≤ y ∧ y ≤ 57) ∨ 57 < y by omega) with h | h | h
        · go_wp2_with fail
          go_wp2
          go_ret2
          exact ⟨.inr ⟨fun hd => by have := hd.2.2.2 k (by have := HL.out; omega); have := HY.out; omega, rfl⟩, HB.out⟩
        · obtain ⟨y1, y2⟩ := h
          obtain ⟨z, hz⟩ : ∃ z, z = y - 48 := ⟨_, rfl⟩
          have hzw : IntKind.u8.wrap ((y : Int) - 48) = (z : Int) := by rw [IntKind.wrap_u8]; omega
          have hzc : IntKind.u64.wrap (z : Int) = (z : Int) := by rw [IntKind.wrap_u64]; omega
          have hdk : ∀ j, j < k → 48 ≤ l.getD j 0 ∧ l.getD j 0 ≤ 57 := HJ.out
          have hq : q ≤ 40 := by
            have h1 := tdig_short (l := l.take k) (fun i hi => by rw [List.length_take] at hi; rw [take_getD (by omega)]; exact hdk i (by omega)) (by rw [List.length_take]; omega)
            rw [← HO.out.1] at h1; exact h1
          obtain ⟨A, hA⟩ : ∃ A, A = decv (tdig (l.take k)) := ⟨_, rfl⟩
          rw [← hA] at HO
          have hMul : ∀ W u v, TMeans W (.num A) u → TMeans W (.num 10) v → Calls Tryz.prog 42 #[u, v] W fun e w' => ∃ t, e = .returned t ∧ (TMeans w' (.num (A * 10)) t ∧ Below W.heap.size W w') := by
            rintro W _ _ ⟨p1, l1, c1, rfl, h1⟩ ⟨p2, l2, c2, rfl, h2⟩
            have e1 : l1 = q := h1.1.trans HO.out.1.symm
            have e2 : l2 = 1 := by rw [h2.1, show dr 10 = [10] from digs_val (b := 2 ^ 32) (by omega) [10] (by simp) (by simp)]; rfl
            exact (rMul_any p1 p2 l1 c1 l2 c2 A 10 W (by omega) (by omega) h1 h2).mono fun e w' ⟨p3, l3, c3, he, h3, hb⟩ => ⟨_, he, ⟨p3, l3, c3, rfl, h3⟩, hb⟩
          have hOf : ∀ W, Calls Tryz.prog 43 #[.int .u64 (z : Int)] W fun e w' => ∃ t, e = .returned t ∧ (TMeans w' (.num z) t ∧ Below W.heap.size W w') := fun W =>
            (rof_any z (by omega) W).mono fun e w' ⟨p3, l3, c3, he, h3, hb⟩ => ⟨_, he, ⟨p3, l3, c3, rfl, h3⟩, hb⟩
          have hs10 : (dr (A * 10)).length ≤ 100 := by
            have h1 := dr_mul A 10
            have h2 : (dr 10).length = 1 := by rw [show dr 10 = [10] from digs_val (b := 2 ^ 32) (by omega) [10] (by simp) (by simp)]; rfl
            have h3 := HO.out.1
            omega
          have hsz : (dr z).length ≤ 100 := by have : (dr z).length ≤ 2 := digs_length_le (b := 2 ^ 32) (by omega) (by omega); omega
          have hAdd : ∀ W u v, TMeans W (.num (A * 10)) u → TMeans W (.num z) v → Calls Tryz.prog 41 #[u, v] W fun e w' => ∃ t, e = .returned t ∧ (TMeans w' (.num (A * 10 + z)) t ∧ Below W.heap.size W w') := by
            rintro W _ _ ⟨p1, l1, c1, rfl, h1⟩ ⟨p2, l2, c2, rfl, h2⟩
            exact (rAdd_any p1 p2 l1 c1 l2 c2 (A * 10) z W (by rw [h1.1]; omega) (by rw [h2.1]; omega) h1 h2).mono fun e w' ⟨p3, l3, c3, he, h3, hb⟩ => ⟨_, he, ⟨p3, l3, c3, rfl, h3⟩, hb⟩
          have HMUL := Lib.hid hMul; have HOF := Lib.hid hOf; have HADD := Lib.hid hAdd
          have HZ := Lib.hid (And.intro hz hA)
          have hyi : (48 : Int) ≤ y := by omega
          have hyi2 : (y : Int) ≤ 57 := by omega
          have i1 : ¬ (y : Int) < 48 := by omega
          have i2 : ¬ (57 : Int) < y := by omega
          clear hMul hOf hAdd hs10 hsz hdk hq hz hA
          go_wp2_with fail
--REGION9A
          refine region_v (slots := [40, 41, 42, 43, 44, 45, 46, 47, 48, 49, 4]) (V := TTab [.num A, .num 10, .num (A * 10), .is (.string s), .is (.int .i64 (k : Int)), .is (.int .u8 (y : Int)), .is (.int .u8 (z : Int)), .is (.int .u64 (z : Int)), .num z, .num (A * 10 + z), .num (A * 10 + z)] 0) (by kernel_rfl) (by kernel_rfl) TTab.stable (by kernel_rfl) (by kernel_rfl) ?_ ?_
          · skip
            refine AllV.cons rfl (fun E W hb hc hf hE hV => Or.inl ⟨rfl, ?_⟩) ?_
            · have e1 : E (.tmp 4) = .slice p q c := hE 4 (by kernel_rfl)
              clear hE hV
              exact Does.value (w' := W) (by go_simp) ⟨(HO.out.mono hb).as_num e1, Below.refl _ _⟩
            refine AllV.cons rfl (fun E W hb hc hf hE hV => Or.inl ⟨rfl, ?_⟩) ?_
            · clear hE hV
              exact ev_ten hc
            refine AllV.cons rfl (fun E W hb hc hf hE hV => Or.inl ⟨rfl, ?_⟩) ?_
            · have e1 : TMeans W (.num A) (E (.tmp 40)) := hV 0 40 (by kernel_rfl) (by kernel_rfl)
              have e2 : TMeans W (.num 10) (E (.tmp 41)) := hV 1 41 (by kernel_rfl) (by kernel_rfl)
              clear hE hV
              exact Does.call (w' := W) (by go_simp) (HMUL.out W _ _ e1 e2)
            refine AllV.cons rfl (fun E W hb hc hf hE hV => Or.inl ⟨rfl, ?_⟩) ?_
            · have e1 : E (.tmp 0) = .string s := hE 0 (by kernel_rfl)
              clear hE hV
              exact Does.value (w' := W) (by go_simp) ⟨rfl, Below.refl _ _⟩
            refine AllV.cons rfl (fun E W hb hc hf hE hV => Or.inl ⟨rfl, ?_⟩) ?_
            · have e1 : E (.tmp 5) = .int .i64 (k : Int) := hE 5 (by kernel_rfl)
              clear hE hV
              exact Does.value (w' := W) (by go_simp) ⟨rfl, Below.refl _ _⟩
            refine AllV.cons rfl (fun E W hb hc hf hE hV => Or.inl ⟨rfl, ?_⟩) ?_
            · have e1 : E (.tmp 43) = _ := hV 3 43 (by kernel_rfl) (by kernel_rfl)
              have e2 : E (.tmp 44) = _ := hV 4 44 (by kernel_rfl) (by kernel_rfl)
              clear hE hV
              exact Does.value (w' := W) (by go_simp) ⟨rfl, Below.refl _ _⟩
            refine AllV.cons rfl (fun E W hb hc hf hE hV => Or.inl ⟨rfl, ?_⟩) ?_
            · have e1 : E (.tmp 45) = _ := hV 5 45 (by kernel_rfl) (by kernel_rfl)
              clear hE hV
              exact Does.value (w' := W) (by go_simp <;> first | rfl | assumption | omega) ⟨rfl, Below.refl _ _⟩
            refine AllV.cons rfl (fun E W hb hc hf hE hV => Or.inl ⟨rfl, ?_⟩) ?_
            · have e1 : E (.tmp 46) = _ := hV 6 46 (by kernel_rfl) (by kernel_rfl)
              clear hE hV
              exact Does.value (w' := W) (by go_simp <;> first | rfl | assumption | omega) ⟨rfl, Below.refl _ _⟩
            refine AllV.cons rfl (fun E W hb hc hf hE hV => Or.inl ⟨rfl, ?_⟩) ?_
            · have e1 : E (.tmp 47) = _ := hV 7 47 (by kernel_rfl) (by kernel_rfl)
              clear hE hV
              exact Does.call (w' := W) (by go_simp) (HOF.out W)
            refine AllV.cons rfl (fun E W hb hc hf hE hV => Or.inl ⟨rfl, ?_⟩) ?_
            · have e1 : TMeans W (.num (A * 10)) (E (.tmp 42)) := hV 2 42 (by kernel_rfl) (by kernel_rfl)
              have e2 : TMeans W (.num z) (E (.tmp 48)) := hV 8 48 (by kernel_rfl) (by kernel_rfl)
              clear hE hV
              exact Does.call (w' := W) (by go_simp) (HADD.out W _ _ e1 e2)
            refine AllV.cons rfl (fun E W hb hc hf hE hV => Or.inl ⟨rfl, ?_⟩) ?_
            · have e1 : TMeans W (.num (A * 10 + z)) (E (.tmp 49)) := hV 9 49 (by kernel_rfl) (by kernel_rfl)
              clear hE hV
              exact Does.value (w' := W) (by go_simp) ⟨e1, Below.refl _ _⟩
            exact AllV.nil
          intro f W hf hb
          have g3 : f 43 = .string s := hf (3, 43) (by decide)
          have g4 : f 44 = .int .i64 (k : Int) := hf (4, 44) (by decide)
          have g5 : f 45 = .int .u8 (y : Int) := hf (5, 45) (by decide)
          have g6 : f 46 = .int .u8 (z : Int) := hf (6, 46) (by decide)
          have g7 : f 47 = .int .u64 (z : Int) := hf (7, 47) (by decide)
          obtain ⟨p9, l9, c9, g10, h9⟩ : ∃ p l c, f 4 = .slice p l c ∧ IsR W p l c (A * 10 + z) := hf (10, 4) (by decide)
          have H9 := Lib.hid h9; have HB9 := Lib.hid (below_step HB.out hb)
          clear hf hb HB HO h9 HMUL HOF HADD
          simp only [fillSlots, List.setIfInBounds_toArray, List.set_cons_succ, List.set_cons_zero, g3, g4, g5, g6, g7, g10]
          clear g3 g4 g5 g6 g7 g10
--END9A
          go_wp2
          go_roundw
          case rel =>
            refine ⟨k + 1, p9, l9, c9, by omega, by go_num, rfl, Lib.hid fun j hj => ?_, Lib.hid ?_, HB9⟩
            · by_cases e : j = k
              · subst e; rw [← HY.out]; exact ⟨y1, y2⟩
              · exact HJ.out j (by omega)
            · rw [tdig_step (by have := HL.out; omega), ← HY.out, ← HZ.out.1, ← HZ.out.2]; exact H9.out
          case measure => simp [intOf]; omega
        · go_wp2_with fail
          go_wp2
          go_ret2
          exact ⟨.inr ⟨fun hd => by have := hd.2.2.2 k (by have := HL.out; omega); have := HY.out; omega, rfl⟩, HB.out⟩
      · obtain rfl : k = n := by omega
        have hk := HL.out
        have HR : Hid (IsR wr p q c (decv (tdig l))) := Lib.hid (by have h := HO.out; rwa [List.take_of_length_le (by omega)] at h)
        have HDT : Hid (DecText l) := Lib.hid ⟨by omega, by omega, HF.out, fun i hi => HJ.out i (by omega)⟩
        clear HO HJ hk hlt
        go_wp2
        go_ret2
        exact ⟨.inl ⟨HDT.out, p, q, c, rfl, HR.out⟩, HB.out⟩
  · have hx1 : ((x : Int) == 48) = false := beq_eq_false_iff_ne.2 (by omega)
    have HF : Hid (l.getD 0 0 ≠ 48 ∨ l.length = 1) := Lib.hid (.inl (by omega))
    have HX0 := Lib.hid hx0
    clear hl hxl hn hbad hx0
    go_enter Tryz.func23, Tryz.ntmps23
    go_wp2_with fail
    go_loopw [4, 5] (fun o i wr => ∃ (k : Nat) (p : Option Addr) (q c : Nat), k ≤ n ∧ i = .int .i64 k ∧ o = .slice p q c ∧ Hid (∀ j, j < k → 48 ≤ l.getD j 0 ∧ l.getD j 0 ≤ 57) ∧ Hid (IsR wr p q c (decv (tdig (l.take k)))) ∧ Hid (Below w.heap.size w wr)) (fun _ i _ => n - (intOf i).toNat)
    case atStart => exact ⟨0, none, 0, 0, Nat.zero_le _, rfl, rfl, Lib.hid fun j hj => by omega, Lib.hid ⟨by simp [tdig, decv, dr_zero], Nat.le_refl _, fun h => absurd (by simp [tdig, decv]) h⟩, Lib.hid (Below.refl _ _)⟩
    case round =>
      obtain ⟨k, p, q, c, hk, rfl, rfl, HJ, HO, HB⟩ := hrel
      by_cases hlt : k < n
      · have hks : k < s.size := by omega
        obtain ⟨y, hy⟩ : ∃ y : Nat, (s[k]'hks).toNat = y := ⟨_, rfl⟩
        have HY : Hid (y = l.getD k 0) := Lib.hid (by rw [← hy]; exact HD.out k hks)
        rcases (show y < 48 ∨ (48 ≤ y ∧ y ≤ 57) ∨ 57 < y by omega) with h | h | h
        · go_wp2_with fail
          go_wp2
          go_ret2
          exact ⟨.inr ⟨fun hd => by have := hd.2.2.2 k (by have := HL.out; omega); have := HY.out; omega, rfl⟩, HB.out⟩
        · obtain ⟨y1, y2⟩ := h
          obtain ⟨z, hz⟩ : ∃ z, z = y - 48 := ⟨_, rfl⟩
          have hzw : IntKind.u8.wrap ((y : Int) - 48) = (z : Int) := by rw [IntKind.wrap_u8]; omega
          have hzc : IntKind.u64.wrap (z : Int) = (z : Int) := by rw [IntKind.wrap_u64]; omega
          have hdk : ∀ j, j < k → 48 ≤ l.getD j 0 ∧ l.getD j 0 ≤ 57 := HJ.out
          have hq : q ≤ 40 := by
            have h1 := tdig_short (l := l.take k) (fun i hi => by rw [List.length_take] at hi; rw [take_getD (by omega)]; exact hdk i (by omega)) (by rw [List.length_take]; omega)
            rw [← HO.out.1] at h1; exact h1
          obtain ⟨A, hA⟩ : ∃ A, A = decv (tdig (l.take k)) := ⟨_, rfl⟩
          rw [← hA] at HO
          have hMul : ∀ W u v, TMeans W (.num A) u → TMeans W (.num 10) v → Calls Tryz.prog 42 #[u, v] W fun e w' => ∃ t, e = .returned t ∧ (TMeans w' (.num (A * 10)) t ∧ Below W.heap.size W w') := by
            rintro W _ _ ⟨p1, l1, c1, rfl, h1⟩ ⟨p2, l2, c2, rfl, h2⟩
            have e1 : l1 = q := h1.1.trans HO.out.1.symm
            have e2 : l2 = 1 := by rw [h2.1, show dr 10 = [10] from digs_val (b := 2 ^ 32) (by omega) [10] (by simp) (by simp)]; rfl
            exact (rMul_any p1 p2 l1 c1 l2 c2 A 10 W (by omega) (by omega) h1 h2).mono fun e w' ⟨p3, l3, c3, he, h3, hb⟩ => ⟨_, he, ⟨p3, l3, c3, rfl, h3⟩, hb⟩
          have hOf : ∀ W, Calls Tryz.prog 43 #[.int .u64 (z : Int)] W fun e w' => ∃ t, e = .returned t ∧ (TMeans w' (.num z) t ∧ Below W.heap.size W w') := fun W =>
            (rof_any z (by omega) W).mono fun e w' ⟨p3, l3, c3, he, h3, hb⟩ => ⟨_, he, ⟨p3, l3, c3, rfl, h3⟩, hb⟩
          have hs10 : (dr (A * 10)).length ≤ 100 := by
            have h1 := dr_mul A 10
            have h2 : (dr 10).length = 1 := by rw [show dr 10 = [10] from digs_val (b := 2 ^ 32) (by omega) [10] (by simp) (by simp)]; rfl
            have h3 := HO.out.1
            omega
          have hsz : (dr z).length ≤ 100 := by have : (dr z).length ≤ 2 := digs_length_le (b := 2 ^ 32) (by omega) (by omega); omega
          have hAdd : ∀ W u v, TMeans W (.num (A * 10)) u → TMeans W (.num z) v → Calls Tryz.prog 41 #[u, v] W fun e w' => ∃ t, e = .returned t ∧ (TMeans w' (.num (A * 10 + z)) t ∧ Below W.heap.size W w') := by
            rintro W _ _ ⟨p1, l1, c1, rfl, h1⟩ ⟨p2, l2, c2, rfl, h2⟩
            exact (rAdd_any p1 p2 l1 c1 l2 c2 (A * 10) z W (by rw [h1.1]; omega) (by rw [h2.1]; omega) h1 h2).mono fun e w' ⟨p3, l3, c3, he, h3, hb⟩ => ⟨_, he, ⟨p3, l3, c3, rfl, h3⟩, hb⟩
          have HMUL := Lib.hid hMul; have HOF := Lib.hid hOf; have HADD := Lib.hid hAdd
          have HZ := Lib.hid (And.intro hz hA)
          have hyi : (48 : Int) ≤ y := by omega
          have hyi2 : (y : Int) ≤ 57 := by omega
          have i1 : ¬ (y : Int) < 48 := by omega
          have i2 : ¬ (57 : Int) < y := by omega
          clear hMul hOf hAdd hs10 hsz hdk hq hz hA
          go_wp2_with fail
--REGION9B
          refine region_v (slots := [40, 41, 42, 43, 44, 45, 46, 47, 48, 49, 4]) (V := TTab [.num A, .num 10, .num (A * 10), .is (.string s), .is (.int .i64 (k : Int)), .is (.int .u8 (y : Int)), .is (.int .u8 (z : Int)), .is (.int .u64 (z : Int)), .num z, .num (A * 10 + z), .num (A * 10 + z)] 0) (by kernel_rfl) (by kernel_rfl) TTab.stable (by kernel_rfl) (by kernel_rfl) ?_ ?_
          · skip
            refine AllV.cons rfl (fun E W hb hc hf hE hV => Or.inl ⟨rfl, ?_⟩) ?_
            · have e1 : E (.tmp 4) = .slice p q c := hE 4 (by kernel_rfl)
              clear hE hV
              exact Does.value (w' := W) (by go_simp) ⟨(HO.out.mono hb).as_num e1, Below.refl _ _⟩
            refine AllV.cons rfl (fun E W hb hc hf hE hV => Or.inl ⟨rfl, ?_⟩) ?_
            · clear hE hV
              exact ev_ten hc
            refine AllV.cons rfl (fun E W hb hc hf hE hV => Or.inl ⟨rfl, ?_⟩) ?_
            · have e1 : TMeans W (.num A) (E (.tmp 40)) := hV 0 40 (by kernel_rfl) (by kernel_rfl)
              have e2 : TMeans W (.num 10) (E (.tmp 41)) := hV 1 41 (by kernel_rfl) (by kernel_rfl)
              clear hE hV
              exact Does.call (w' := W) (by go_simp) (HMUL.out W _ _ e1 e2)
            refine AllV.cons rfl (fun E W hb hc hf hE hV => Or.inl ⟨rfl, ?_⟩) ?_
            · have e1 : E (.tmp 0) = .string s := hE 0 (by kernel_rfl)
              clear hE hV
              exact Does.value (w' := W) (by go_simp) ⟨rfl, Below.refl _ _⟩
            refine AllV.cons rfl (fun E W hb hc hf hE hV => Or.inl ⟨rfl, ?_⟩) ?_
            · have e1 : E (.tmp 5) = .int .i64 (k : Int) := hE 5 (by kernel_rfl)
              clear hE hV
              exact Does.value (w' := W) (by go_simp) ⟨rfl, Below.refl _ _⟩
            refine AllV.cons rfl (fun E W hb hc hf hE hV => Or.inl ⟨rfl, ?_⟩) ?_
            · have e1 : E (.tmp 43) = _ := hV 3 43 (by kernel_rfl) (by kernel_rfl)
              have e2 : E (.tmp 44) = _ := hV 4 44 (by kernel_rfl) (by kernel_rfl)
              clear hE hV
              exact Does.value (w' := W) (by go_simp) ⟨rfl, Below.refl _ _⟩
            refine AllV.cons rfl (fun E W hb hc hf hE hV => Or.inl ⟨rfl, ?_⟩) ?_
            · have e1 : E (.tmp 45) = _ := hV 5 45 (by kernel_rfl) (by kernel_rfl)
              clear hE hV
              exact Does.value (w' := W) (by go_simp <;> first | rfl | assumption | omega) ⟨rfl, Below.refl _ _⟩
            refine AllV.cons rfl (fun E W hb hc hf hE hV => Or.inl ⟨rfl, ?_⟩) ?_
            · have e1 : E (.tmp 46) = _ := hV 6 46 (by kernel_rfl) (by kernel_rfl)
              clear hE hV
              exact Does.value (w' := W) (by go_simp <;> first | rfl | assumption | omega) ⟨rfl, Below.refl _ _⟩
            refine AllV.cons rfl (fun E W hb hc hf hE hV => Or.inl ⟨rfl, ?_⟩) ?_
            · have e1 : E (.tmp 47) = _ := hV 7 47 (by kernel_rfl) (by kernel_rfl)
              clear hE hV
              exact Does.call (w' := W) (by go_simp) (HOF.out W)
            refine AllV.cons rfl (fun E W hb hc hf hE hV => Or.inl ⟨rfl, ?_⟩) ?_
            · have e1 : TMeans W (.num (A * 10)) (E (.tmp 42)) := hV 2 42 (by kernel_rfl) (by kernel_rfl)
              have e2 : TMeans W (.num z) (E (.tmp 48)) := hV 8 48 (by kernel_rfl) (by kernel_rfl)
              clear hE hV
              exact Does.call (w' := W) (by go_simp) (HADD.out W _ _ e1 e2)
            refine AllV.cons rfl (fun E W hb hc hf hE hV => Or.inl ⟨rfl, ?_⟩) ?_
            · have e1 : TMeans W (.num (A * 10 + z)) (E (.tmp 49)) := hV 9 49 (by kernel_rfl) (by kernel_rfl)
              clear hE hV
              exact Does.value (w' := W) (by go_simp) ⟨e1, Below.refl _ _⟩
            exact AllV.nil
          intro f W hf hb
          have g3 : f 43 = .string s := hf (3, 43) (by decide)
          have g4 : f 44 = .int .i64 (k : Int) := hf (4, 44) (by decide)
          have g5 : f 45 = .int .u8 (y : Int) := hf (5, 45) (by decide)
          have g6 : f 46 = .int .u8 (z : Int) := hf (6, 46) (by decide)
          have g7 : f 47 = .int .u64 (z : Int) := hf (7, 47) (by decide)
          obtain ⟨p9, l9, c9, g10, h9⟩ : ∃ p l c, f 4 = .slice p l c ∧ IsR W p l c (A * 10 + z) := hf (10, 4) (by decide)
          have H9 := Lib.hid h9; have HB9 := Lib.hid (below_step HB.out hb)
          clear hf hb HB HO h9 HMUL HOF HADD
          simp only [fillSlots, List.setIfInBounds_toArray, List.set_cons_succ, List.set_cons_zero, g3, g4, g5, g6, g7, g10]
          clear g3 g4 g5 g6 g7 g10
--END9B
          go_wp2
          go_roundw
          case rel =>
            refine ⟨k + 1, p9, l9, c9, by omega, by go_num, rfl, Lib.hid fun j hj => ?_, Lib.hid ?_, HB9⟩
            · by_cases e : j = k
              · subst e; rw [← HY.out]; exact ⟨y1, y2⟩
              · exact HJ.out j (by omega)
            · rw [tdig_step (by have := HL.out; omega), ← HY.out, ← HZ.out.1, ← HZ.out.2]; exact H9.out
          case measure => simp [intOf]; omega
        · go_wp2_with fail
          go_wp2
          go_ret2
          exact ⟨.inr ⟨fun hd => by have := hd.2.2.2 k (by have := HL.out; omega); have := HY.out; omega, rfl⟩, HB.out⟩
      · obtain rfl : k = n := by omega
        have hk := HL.out
        have HR : Hid (IsR wr p q c (decv (tdig l))) := Lib.hid (by have h := HO.out; rwa [List.take_of_length_le (by omega)] at h)
        have HDT : Hid (DecText l) := Lib.hid ⟨by omega, by omega, HF.out, fun i hi => HJ.out i (by omega)⟩
        clear HO HJ hk hlt
        go_wp2
        go_ret2
        exact ⟨.inl ⟨HDT.out, p, q, c, rfl, HR.out⟩, HB.out⟩
end Go.Proofs.YtfjjmhbffbhhdaaGreatDoor
