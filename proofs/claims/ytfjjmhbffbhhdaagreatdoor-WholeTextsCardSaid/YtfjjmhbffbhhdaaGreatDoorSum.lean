/- Products of rows, digit by digit. -/
import Derived.Test.YtfjjmhbffbhhdaaGreatDoorLong
import Derived.Test.YtfjjmhbffbhhdaaGreatDoorShiftS
namespace Go.Proofs.YtfjjmhbffbhhdaaGreatDoor
open Go.RowKit

def RetMul (w : World) (bz oz l : Nat) (zs xs : List Nat) (y : Nat) : Ending → World → Prop := fun e w' =>
  ∃ zs' c, e = .returned (.int .u64 ((c : Nat) : Int)) ∧ c < 2 ^ 64 ∧ zs'.length = l ∧ (∀ x ∈ zs', x < 2 ^ 64) ∧ val (2 ^ 64) zs' + (2 ^ 64) ^ l * c = val (2 ^ 64) zs + val (2 ^ 64) xs * y ∧ At w' .u64 bz oz zs' ∧ Only w w' bz oz l

theorem mul64_any (x y h l : Nat) (hx : x < 2 ^ 64) (hy : y < 2 ^ 64) (he : x * y = l + 2 ^ 64 * h) (hl : l < 2 ^ 64) (w : World) :
    Calls Tryz.prog 66 #[.int .u64 (x : Int), .int .u64 (y : Int)] w fun e w' => w = w' ∧ e = .returned (.tuple #[.int .u64 (h : Int), .int .u64 (l : Int)]) :=
  (Tryz.bits_Mul64 x y (by omega) (by omega) w).mono fun e w' ⟨h1, h2⟩ => by
    have e1 : x * y / 18446744073709551616 = h := by rw [he]; omega
    have e2 : x * y % 18446744073709551616 = l := by rw [he]; omega
    rw [e1, e2] at h1
    exact ⟨h2.symm, h1⟩

set_option maxHeartbeats 1000000 in
theorem addTimes_any (bz oz cz bx ox cx l : Nat) (zs xs : List Nat) (y : Nat) (w : World) (hz : zs.length = l) (hx : xs.length = l) (hl : l ≤ 4000000)
    (hne : bx ≠ bz) (h1 : At w .u64 bz oz zs) (hF : Fr w bz oz l) (h2 : At w .u64 bx ox xs) (hZ : ∀ x ∈ zs, x < 2 ^ 64) (hX : ∀ x ∈ xs, x < 2 ^ 64) (hy : y < 2 ^ 64) :
    Calls Tryz.prog 106 #[.slice (some ⟨bz, oz, none⟩) l cz, .slice (some ⟨bx, ox, none⟩) l cx, .int .u64 (y : Int)] w (RetMul w bz oz l zs xs y) := by
  have H1 := Lib.hid h1; have HF := Lib.hid hF; have H2 := Lib.hid h2; have HZ := Lib.hid hZ; have HX := Lib.hid hX; have HLZ := Lib.hid hz; have HLX := Lib.hid hx; have HY := Lib.hid hy
  clear h1 hF h2 hZ hX hz hx hy
  go_enter Tryz.func106, Tryz.ntmps106
  go_wp2
  go_loopw [7, 15] (fun c i wr => ∃ k c' : Nat, k ≤ l ∧ i = .int .i64 k ∧ c = .int .u64 (c' : Int) ∧ ∃ zs', Hid (MulInv (2 ^ 64) zs xs y zs' k c') ∧ At wr .u64 bz oz zs' ∧ Only w wr bz oz l) (fun _ i _ => l - (intOf i).toNat)
  case atStart => exact ⟨0, 0, Nat.zero_le _, rfl, rfl, zs, Lib.hid (MulInv.start (by omega) _ _ _ HZ.out), H1.out, Only.refl _ _ _ _⟩
  case round =>
    obtain ⟨k, c, hk, rfl, rfl, zs', HI, hA, hO⟩ := hrel
    by_cases hlt : k < l
    · have hzl : zs'.length = l := by rw [HI.out.len, HLZ.out]
      have c1 := hA k (by omega)
      have f1 := (HF.out.only hO) k (by omega)
      have c2 := (H2.out.only hO hne) k (by rw [HLX.out]; omega)
      have hx1 := getD_lt HX.out (by omega) k
      have hz1 := getD_lt HI.out.lt (by omega) k
      have hc1 := HI.out.carry
      have hb := mul_step_bound hx1 HY.out hz1 hc1
      have hm := Nat.mod_add_div (xs.getD k 0 * y) (2 ^ 64)
      have hml := Nat.mod_lt (xs.getD k 0 * y) (by omega : 0 < 2 ^ 64)
      obtain ⟨s, d, hs, hs2, hd⟩ : ∃ s d, xs.getD k 0 * y + zs'.getD k 0 + c = s + 2 ^ 64 * d ∧ s < 2 ^ 64 ∧ d < 2 ^ 64 := ⟨(xs.getD k 0 * y + zs'.getD k 0 + c) % 2 ^ 64, (xs.getD k 0 * y + zs'.getD k 0 + c) / 2 ^ 64, by omega, by omega, hb⟩
      have HN := Lib.hid (HI.out.step (by rw [HLZ.out]; omega) hs2 hd hs)
      have HM := Lib.hid (mul64_any (xs.getD k 0) y (xs.getD k 0 * y / 2 ^ 64) (xs.getD k 0 * y % 2 ^ 64) hx1 HY.out hm.symm hml)
      generalize xs.getD k 0 * y % 2 ^ 64 = lo at *
      generalize xs.getD k 0 * y / 2 ^ 64 = hi at *
      generalize xs.getD k 0 * y = p at *
      generalize zs'.getD k 0 = z at *
      generalize xs.getD k 0 = x at *
      obtain ⟨s1, d1, hs1, hs12, hd1⟩ : ∃ s d, lo + z + 0 = s + 2 ^ 64 * d ∧ s < 2 ^ 64 ∧ d ≤ 1 := ⟨(lo + z) % 2 ^ 64, (lo + z) / 2 ^ 64, by omega, by omega, by omega⟩
      obtain ⟨s2, d2, hs2', hs22, hd2⟩ : ∃ s d, s1 + c + 0 = s + 2 ^ 64 * d ∧ s < 2 ^ 64 ∧ d ≤ 1 := ⟨(s1 + c) % 2 ^ 64, (s1 + c) / 2 ^ 64, by omega, by omega, by omega⟩
      have es : s2 = s := by omega
      have ed : hi + d1 + d2 = d := by omega
      have hadd1 := call_add64' lo z 0 s1 d1 (by omega) hs1 hs12
      have hadd2 := call_add64' s1 c 0 s2 d2 (by omega) hs2' hs22
      rw [Int.natCast_zero] at hadd1 hadd2
      have hw1 : IntKind.u64.wrap ((hi : Int) + d1) = ((hi + d1 : Nat) : Int) := by rw [IntKind.wrap_u64]; omega
      have hw2 : IntKind.u64.wrap (((hi + d1 : Nat) : Int) + d2) = (d : Int) := by rw [IntKind.wrap_u64]; omega
      obtain ⟨q, hq⟩ : ∃ q, q = hi + d1 := ⟨_, rfl⟩
      rw [← hq] at hw1 hw2
      subst es
      have i1 : (0 : Int) ≤ k := by omega
      have i2 : (k : Int) < l := by omega
      clear hs hs2 hx1 hz1 hc1 hd HI hb hm hml hs1 hs12 hd1 hs2' hs22 hd2 ed hq
      go_wp2_with fail
      refine (HM.out _).mono ?_
      rintro e w1 ⟨rfl, rfl⟩
      go_wp2
      go_roundw
      case rel => exact ⟨k + 1, d, by omega, by go_num, rfl, zs'.set k s2, HN, hA.set k s2 (by omega), hO.setCell _ (by omega) (by omega) _⟩
      case measure => simp [intOf]; omega
    · obtain rfl : k = l := by omega
      go_wp2
      go_ret
      have hI := HI.out
      have hlx := HLX.out
      have e := HLZ.out
      subst e
      exact ⟨zs', c, rfl, hI.carry, hI.len, hI.lt, hI.done hlx, hA, hO⟩
end Go.Proofs.YtfjjmhbffbhhdaaGreatDoor

/- Products of rows. -/
namespace Go.Proofs.YtfjjmhbffbhhdaaGreatDoor
open Go.RowKit

theorem At.splice {w w' : World} {k : IntKind} {b i m : Nat} {L zs : List Nat} (h : At w k b 0 L) (h2 : At w' k b i zs) (hm : zs.length = m) (ho : Only w w' b i m) (hl : i + m ≤ L.length) :
    At w' k b 0 (L.take i ++ zs ++ L.drop (i + m)) := by
  have hi : (L.take i).length = i := by rw [List.length_take]; omega
  have h1 : At w' k b 0 (L.take i) := (h.take i).onlyOut ho (Or.inl (by rw [hi]; omega))
  have h3 : At w' k b (0 + (i + m)) (L.drop (i + m)) := (h.drop (i + m)).onlyOut ho (Or.inr (by omega))
  refine At.append (At.append h1 ?_) ?_
  · rw [hi, Nat.zero_add]; exact h2
  · rw [List.length_append, hi, hm]; exact h3

structure ProdInv (b : Nat) (xs ys zs : List Nat) (i : Nat) : Prop where
  len : zs.length = xs.length + ys.length
  lt : ∀ x ∈ zs, x < b
  rest : ∀ j, i + xs.length ≤ j → zs.getD j 0 = 0
  prod : val b (zs.take (i + xs.length)) = val b xs * val b (ys.take i)

theorem ProdInv.start {b : Nat} (hb : 0 < b) (xs ys : List Nat) : ProdInv b xs ys (List.replicate (xs.length + ys.length) 0) 0 := by
  refine ⟨by simp, fun x hx => by rw [List.eq_of_mem_replicate hx]; exact hb, fun j _ => ?_, ?_⟩
  · by_cases h : j < xs.length + ys.length
    · simp [List.getD, h]
    · simp [List.getD, h]
  · rw [List.take_replicate, val_replicate_zero]; simp [val]

theorem ProdInv.step {b : Nat} {xs ys zs sub : List Nat} {i c : Nat} (h : ProdInv b xs ys zs i) (hi : i < ys.length) (hl : sub.length = xs.length) (hs : ∀ x ∈ sub, x < b) (hc : c < b)
    (e : val b sub + b ^ xs.length * c = val b ((zs.drop i).take xs.length) + val b xs * ys.getD i 0) :
    ProdInv b xs ys ((zs.take i ++ sub ++ zs.drop (i + xs.length)).set (i + xs.length) c) (i + 1) := by
  have hz := h.len
  have hti : (zs.take i).length = i := by rw [List.length_take]; omega
  have hlen : (zs.take i ++ sub ++ zs.drop (i + xs.length)).length = xs.length + ys.length := by
    simp only [List.length_append, hti, hl, List.length_drop]; omega
  have hpre : (zs.take i ++ sub ++ zs.drop (i + xs.length)).take (i + xs.length) = zs.take i ++ sub := by
    rw [List.take_append_of_le_length (by rw [List.length_append, hti, hl]; exact Nat.le_refl _), List.take_of_length_le (by rw [List.length_append, hti, hl]; exact Nat.le_refl _)]
  refine ⟨by rw [List.length_set, hlen], ?_, fun j hj => ?_, ?_⟩
  · refine set_all_lt (fun x hx => ?_) hc
    rw [List.append_assoc, List.mem_append, List.mem_append] at hx
    rcases hx with hx | hx | hx
    · exact h.lt x (List.mem_of_mem_take hx)
    · exact hs x hx
    · exact h.lt x (List.mem_of_mem_drop hx)
  · have h1 := h.rest j (by omega)
    have hne : ¬ i + xs.length = j := by omega
    have hne2 : ¬ j < i + xs.length := by omega
    simp only [List.getD, List.getElem?_set_ne hne]
    rw [List.getElem?_append_right (by rw [List.length_append, hti, hl]; omega), List.getElem?_drop, List.length_append, hti, hl]
    rw [show i + xs.length + (j - (i + xs.length)) = j from by omega]
    exact h1
  · rw [show i + 1 + xs.length = (i + xs.length) + 1 from by omega, val_take_succ', take_set_self, getD_set_self _ _ _ (by rw [hlen]; omega), hpre, val_append, hti, val_take_succ', Nat.pow_add]
    have h1 := h.prod
    rw [List.take_add, val_append, hti] at h1
    generalize val b sub = S at *
    generalize val b ((zs.drop i).take xs.length) = Z at *
    generalize val b (zs.take i) = A at *
    generalize val b (ys.take i) = Y at *
    generalize ys.getD i 0 = y at *
    have e2 : b ^ i * (S + b ^ xs.length * c) = b ^ i * (Z + val b xs * y) := by rw [e]
    grind

theorem ProdInv.done {b : Nat} {xs ys zs : List Nat} (h : ProdInv b xs ys zs ys.length) : val b zs = val b xs * val b ys := by
  have h1 := h.prod
  rw [List.take_of_length_le (by rw [h.len]; omega), List.take_of_length_le (Nat.le_refl _)] at h1
  exact h1

def RetP (W : World) (l n : Nat) : Ending → World → Prop := fun e w' =>
  ∃ b zs c, e = .returned (.slice (some ⟨b, 0, none⟩) l c) ∧ zs.length = l ∧ l ≤ c ∧ (∀ x ∈ zs, x < 2 ^ 64) ∧ val (2 ^ 64) zs = n ∧ W.heap.size ≤ b ∧ At w' .u64 b 0 zs ∧ Fr w' b 0 l ∧ Below W.heap.size W w'

set_option maxHeartbeats 1000000 in
theorem plain_any (bx ox cx bY oy cy lx ly : Nat) (xs ys : List Nat) (w : World) (hx : xs.length = lx) (hy : ys.length = ly) (hlx : 1 ≤ lx) (hlx2 : lx ≤ 1000000) (hly2 : ly ≤ 1000000)
    (h1 : At w .u64 bx ox xs) (h2 : At w .u64 bY oy ys) (hX : ∀ x ∈ xs, x < 2 ^ 64) (hY : ∀ x ∈ ys, x < 2 ^ 64) :
    Calls Tryz.prog 88 #[.slice (some ⟨bx, ox, none⟩) lx cx, .slice (some ⟨bY, oy, none⟩) ly cy] w (RetP w (lx + ly) (val (2 ^ 64) xs * val (2 ^ 64) ys)) := by
  have hbx : bx < w.heap.size := h1.lt (by omega)
  have hby : ly = 0 ∨ bY < w.heap.size := by
    by_cases h : ly = 0
    · exact Or.inl h
    · exact Or.inr (h2.lt (by omega))
  have HBY := Lib.hid hby
  have H1 := Lib.hid h1; have H2 := Lib.hid h2; have HX := Lib.hid hX; have HY := Lib.hid hY; have HLX := Lib.hid hx; have HLY := Lib.hid hy
  obtain ⟨m, hm⟩ : ∃ m, m = lx + ly := ⟨_, rfl⟩
  have hmk := make_u64 m (by omega)
  have hq : (lx : Int) + ly = (m : Int) := by omega
  have HM := Lib.hid hm
  have HQ := Lib.hid hq
  rw [← hm]
  clear h1 h2 hX hY hx hy hby hm
  go_enter Tryz.func88, Tryz.ntmps88
  go_wp2_with fail
  have A3 := At.made w .u64 m 23
  have F3 := Fr.made w .u64 m m 23
  have B3 : Below w.heap.size w (w.alloc (.cells (madeCells #[.int .u64 0] m) 23)) := below_alloc (Below.refl _ _) _
  have hz2 : w.heap.size < (w.alloc (.cells (madeCells #[.int .u64 0] m) 23)).heap.size := by simp
  obtain ⟨w3, hw3⟩ : ∃ w3, w3 = w.alloc (.cells (madeCells #[.int .u64 0] m) 23) := ⟨_, rfl⟩
  rw [← hw3] at A3 F3 B3 hz2 ⊢
  obtain ⟨g, hg⟩ : ∃ g, g = w.heap.size := ⟨_, rfl⟩
  have HG := Lib.hid hg
  rw [← hg] at A3 F3 hz2 hbx ⊢
  have HA3 := Lib.hid A3; have HF3 := Lib.hid F3; have HB3 := Lib.hid B3
  clear hw3 hg A3 F3 B3 hmk hq
  try rw [HQ.out]
  go_loopw [16] (fun i wr => ∃ k : Nat, k ≤ ly ∧ i = .int .i64 k ∧ ∃ L : List Nat, Hid (ProdInv (2 ^ 64) xs ys L k) ∧ At wr .u64 g 0 L ∧ Only w3 wr g 0 m) (fun i _ => ly - (intOf i).toNat)
  case atStart =>
    have e : List.replicate m 0 = List.replicate (xs.length + ys.length) 0 := by rw [HLX.out, HLY.out, HM.out]
    exact ⟨0, Nat.zero_le _, rfl, List.replicate m 0, Lib.hid (by rw [e]; exact ProdInv.start (by omega) _ _), HA3.out, Only.refl _ _ _ _⟩
  case round =>
    obtain ⟨k, hk, rfl, L, HI, hA, hO⟩ := hrel
    by_cases hlt : k < ly
    · have hLl : L.length = m := by rw [HI.out.len, HLX.out, HLY.out, HM.out]
      have hbY : bY < g := by rw [HG.out]; exact HBY.out.resolve_left (by omega)
      have hmm := HM.out
      have c2 := (((H2.out.mono HB3.out).only hO (by omega))) k (by rw [HLY.out]; omega)
      have hyk := getD_lt HY.out (by omega) k
      have hsub := (hA.drop k).take lx
      rw [Nat.zero_add] at hsub
      have hsubl : ((L.drop k).take lx).length = lx := by rw [List.length_take, List.length_drop]; omega
      have hfr : Fr wr g k lx := fun i hi => by have := (HF3.out.only hO) (k + i) (by omega); rwa [Nat.zero_add] at this
      have hLt : ∀ x ∈ (L.drop k).take lx, x < 2 ^ 64 := fun x hx => HI.out.lt x (List.mem_of_mem_drop (List.mem_of_mem_take hx))
      have HT := Lib.hid (addTimes_any g k (m - k) bx ox cx lx _ xs (ys.getD k 0) wr hsubl HLX.out (by omega) (by omega) hsub hfr ((H1.out.mono HB3.out).only hO (by omega)) hLt HX.out hyk)
      have HST := Lib.hid (fun sub c h1 h2 h3 h4 => HI.out.step (sub := sub) (c := c) (by rw [HLY.out]; exact hlt) h1 h2 h3 h4)
      generalize hyy : ys.getD k 0 = y at *
      have HYY := Lib.hid hyy
      have i0 : (0 : Int) ≤ k := by omega
      have i1 : (k : Int) < ly := by omega
      have i2 : (k : Int) + lx < m := by omega
      have HSUBL := Lib.hid hsubl
      clear hsub hfr hLt hyk hmm hyy hsubl
      go_wp2_with fail
      refine HT.out.mono ?_
      rintro e w1 ⟨sub, c, rfl, hc1, hl1, hs1, he1, hA1, hO1⟩
      have hm := HM.out
      have hsp := hA.splice hA1 hl1 hO1 (by omega)
      have hOO : Only w3 w1 g 0 m := hO.trans (hO1.wider (Nat.zero_le _) (by omega))
      have hLL : (L.take k ++ sub ++ L.drop (k + lx)).length = m := by
        simp only [List.length_append, List.length_take, List.length_drop]; omega
      have c4 := hsp.zero (k + lx) (by omega)
      have f4 := (HF3.out.only hOO).zero (k + lx) (by omega)
      have HP := Lib.hid (HST.out sub c (by rw [hl1, HLX.out]) hs1 hc1 (by rw [HLX.out]; exact he1))
      have HA1 := Lib.hid (hsp.set (k + lx) c (by omega))
      have HO1 := Lib.hid hOO
      generalize (L.take k ++ sub ++ L.drop (k + lx)).getD (k + lx) 0 = z at *
      clear he1 hA1 hO1 hsp hOO hLL hm hs1 hl1 hc1 hA hO HT HST HI
      go_wp2
      go_roundw
      case rel =>
        refine ⟨k + 1, by omega, by go_num, _, Lib.hid (by have := HP.out; rw [HLX.out] at this; exact this), ?_, HO1.out.setCell _ (by omega) (by have := HM.out; omega) _⟩
        have := HA1.out
        rwa [Nat.zero_add] at this
      case measure => simp [intOf]; omega
    · go_wp2
      go_ret
      obtain rfl : k = ly := by omega
      have hI := HI.out
      have e := HLY.out
      subst e
      have hx := HLX.out
      subst hx
      have hm := HM.out
      subst hm
      exact ⟨g, L, _, rfl, hI.len, Nat.le_refl _, hI.lt, hI.done, by rw [HG.out]; exact Nat.le_refl _, hA, HF3.out.only hO, HB3.out.trans (hO.below (by rw [HG.out]; exact Nat.le_refl _) (by rw [← HG.out]; omega))⟩
end Go.Proofs.YtfjjmhbffbhhdaaGreatDoor

/- Sums of rows; products of rows, the longer one first. -/
namespace Go.Proofs.YtfjjmhbffbhhdaaGreatDoor
open Go.RowKit

theorem size_setCells (b : Nat) : ∀ (vs : List Value) (o : Nat) (w : World), (w.setCells b o vs).heap.size = w.heap.size
  | [], _, _ => rfl
  | v :: r, o, w => by rw [World.setCells, size_setCells b r]; simp [World.setCell]
theorem block_setCells (b : Nat) : ∀ (vs : List Value) (o : Nat) (w : World) (i : Nat), i ≠ b → (w.setCells b o vs).heap[i]? = w.heap[i]?
  | [], _, _, _, _ => rfl
  | v :: r, o, w, i, h => by rw [World.setCells, block_setCells b r _ _ i h]; exact Below.heap_setCell _ _ _ _ h
theorem rest_setCells (b : Nat) : ∀ (vs : List Value) (o : Nat) (w : World), (w.setCells b o vs).os = w.os ∧ (w.setCells b o vs).tape = w.tape ∧ (w.setCells b o vs).output = w.output
  | [], _, _ => ⟨rfl, rfl, rfl⟩
  | v :: r, o, w => by rw [World.setCells]; exact rest_setCells b r _ _

theorem Only.setCells (w : World) (b o n : Nat) (vs : List Value) (h : vs.length ≤ n) : Only w (w.setCells b o vs) b o n := by
  obtain ⟨h1, h2, h3⟩ := rest_setCells b vs o w
  exact ⟨h1, h2, h3, by rw [size_setCells]; exact Nat.le_refl _, fun k _ hk => block_setCells b vs o w k hk, fun x hx => World.cell?_setCells_out b vs o w ⟨b, x, none⟩ (fun _ _ => by show x < o ∨ o + vs.length ≤ x; omega), fun x => World.frozen?_setCells b vs o w _⟩

theorem At.copied {w : World} {k : IntKind} {b o : Nat} {L xs : List Nat} (h : At w k b o L) (hl : xs.length ≤ L.length) : At (w.setCells b o (cellsOfRow k xs)) k b o (xs ++ L.drop xs.length) := by
  have hlen : (cellsOfRow k xs).length = xs.length := by simp [cellsOfRow]
  refine At.append (fun i hi => ?_) ?_
  · rw [World.cell?_setCells_in b (cellsOfRow k xs) o w (fun j hj => by rw [h j (by omega)]; rfl) i (by omega)]
    simp [cellsOfRow, List.getD, hi]
  · exact (h.drop xs.length).onlyOut (Only.setCells w b o xs.length _ (by omega)) (Or.inr (Nat.le_refl _))

theorem copy_row (dT sT ty elem : TypeId) {P : Program} (k : IntKind) (b o dLen dCap bx ox sCap : Nat) (L xs : List Nat) (w : World)
    (hu : P.underlying dT = some (.slice elem)) (hs : (P.info? elem).map (·.size) = some 1) (hd : L.length = dLen) (hl : xs.length ≤ dLen) (h : At w k b o L) (hF : Fr w b o dLen) (hx : At w k bx ox xs) :
    (Builtin.copy_ #[dT, sT] ty #[.slice (some ⟨b, o, none⟩) dLen dCap, .slice (some ⟨bx, ox, none⟩) xs.length sCap]).run P w = .ok (goInt xs.length) (w.setCells b o (cellsOfRow k xs)) := by
  have hlen : (cellsOfRow k xs).length = xs.length := by simp [cellsOfRow]
  have := run_copy_cells (P := P) w dT sT ty elem b o dLen dCap ⟨bx, ox, none⟩ xs.length sCap (cellsOfRow k xs) hu hs (by rw [hlen]; exact (Nat.min_eq_left hl).symm)
    (fun j v hj => by
      have hjl : j < xs.length := by
        rcases Nat.lt_or_ge j xs.length with h | h
        · exact h
        · rw [List.getElem?_eq_none (by rw [hlen]; exact h)] at hj; cases hj
      have hadd : (⟨bx, ox, none⟩ : Addr).add j = ⟨bx, ox + j, none⟩ := by unfold Addr.add; split <;> simp_all
      rw [hadd, hx j hjl, ← hj]
      simp [cellsOfRow, List.getD, hjl])
    (fun j hj => by rw [h j (by omega)]; rfl) (fun j hj => hF j (by omega))
    (fun v hv => by
      simp only [cellsOfRow, List.mem_map] at hv
      obtain ⟨x, _, rfl⟩ := hv
      rfl)
  rwa [hlen] at this

theorem Tryz.sizeU64 : (Tryz.prog.info? 23).map (·.size) = some 1 := by kernel_rfl

theorem sum_fits {b : Nat} (hb : 2 ≤ b) {xs ys zs : List Nat} {c : Nat} (hl : ys.length ≤ xs.length) (hX : ∀ x ∈ xs, x < b) (hY : ∀ x ∈ ys, x < b)
    (h : val b zs + b ^ (xs.length + 1) * c = val b xs + val b ys) : val b zs = val b xs + val b ys := by
  have h1 := val_lt _ xs hX
  have h2 := val_lt _ ys hY
  have h3 : b ^ ys.length ≤ b ^ xs.length := Nat.pow_le_pow_right (by omega) hl
  rw [Nat.pow_succ] at h
  generalize b ^ xs.length = p at *
  by_cases h0 : c = 0
  · subst h0; omega
  · exfalso
    have h4 : p * b * 1 ≤ p * b * c := Nat.mul_le_mul_left _ (by omega)
    have h5 : p * 2 ≤ p * b := Nat.mul_le_mul_left _ hb
    omega

set_option maxHeartbeats 1000000 in
theorem sum_ge (bx ox cx bY oy cy lx ly : Nat) (xs ys : List Nat) (w : World) (hx : xs.length = lx) (hy : ys.length = ly) (hly : 1 ≤ ly) (hle : ly ≤ lx) (hlx2 : lx ≤ 1000000)
    (h1 : At w .u64 bx ox xs) (h2 : At w .u64 bY oy ys) (hX : ∀ x ∈ xs, x < 2 ^ 64) (hY : ∀ x ∈ ys, x < 2 ^ 64) :
    Calls Tryz.prog 71 #[.slice (some ⟨bx, ox, none⟩) lx cx, .slice (some ⟨bY, oy, none⟩) ly cy] w (RetP w (lx + 1) (val (2 ^ 64) xs + val (2 ^ 64) ys)) := by
  have hbx : bx < w.heap.size := h1.lt (by omega)
  have hby : bY < w.heap.size := h2.lt (by omega)
  have H1 := Lib.hid h1; have H2 := Lib.hid h2; have HX := Lib.hid hX; have HY := Lib.hid hY; have HLX := Lib.hid hx; have HLY := Lib.hid hy
  obtain ⟨m, hm⟩ : ∃ m, m = lx + 1 := ⟨_, rfl⟩
  have hmk := make_u64 m (by omega)
  have hq : (lx : Int) + 1 = (m : Int) := by omega
  have HM := Lib.hid hm
  have hlem : lx ≤ m := by omega
  rw [← hm]
  clear h1 h2 hX hY hx hy hm
  have d0 : decide ((lx : Int) < ly) = false := by simp; omega
  have A3 := At.made w .u64 m 23
  have F3 := Fr.made w .u64 m m 23
  have B3 : Below w.heap.size w (w.alloc (.cells (madeCells #[.int .u64 0] m) 23)) := below_alloc (Below.refl _ _) _
  have HA3 := Lib.hid A3; have HF3 := Lib.hid F3; have HB3 := Lib.hid B3
  have hcp : ∀ ty, (Builtin.copy_ #[24, 24] ty #[.slice (some ⟨w.heap.size, 0, none⟩) m m, .slice (some ⟨bx, ox, none⟩) lx cx]).run Tryz.prog (w.alloc (.cells (madeCells #[.int .u64 0] m) 23)) = .ok (goInt lx) ((w.alloc (.cells (madeCells #[.int .u64 0] m) 23)).setCells w.heap.size 0 (cellsOfRow .u64 xs)) := by
    intro ty
    have hx := HLX.out
    subst hx
    exact copy_row 24 24 ty 23 .u64 w.heap.size 0 m m bx ox cx _ xs _ Tryz.underlying24 Tryz.sizeU64 (by simp) hlem A3 F3 (H1.out.mono B3)
  clear A3 F3 B3
  go_enter Tryz.func71, Tryz.ntmps71
  go_wp2_with fail
  have A4 := HA3.out.copied (xs := xs) (by rw [HLX.out, List.length_replicate]; exact hlem)
  have O4 := Only.setCells (w.alloc (.cells (madeCells #[.int .u64 0] m) 23)) w.heap.size 0 m (cellsOfRow .u64 xs) (by simp only [cellsOfRow, List.length_map]; rw [HLX.out]; exact hlem)
  have F4 := HF3.out.only O4
  have Y4 := (H2.out.mono HB3.out).only O4 (by omega)
  have e4 : xs ++ (List.replicate m 0).drop xs.length = xs ++ [0] := by rw [List.drop_replicate, HLX.out, HM.out]; simp
  rw [e4] at A4
  have HB4 := Lib.hid (HB3.out.trans (O4.below (Nat.le_refl _) (by simp)))
  generalize (w.alloc (.cells (madeCells #[.int .u64 0] m) 23)).setCells w.heap.size 0 (cellsOfRow .u64 xs) = w4 at *
  have hz4 : w.heap.size < w4.heap.size := A4.lt (by simp)
  have hlm := HM.out
  refine (addTo_any w.heap.size 0 m bY oy cy m ly (xs ++ [0]) ys w4 (by rw [List.length_append, HLX.out, hlm]; rfl) HLY.out (by omega) (by omega) (by omega) A4 F4 Y4 (fun x hx => by
    rcases List.mem_append.1 hx with h | h
    · exact HX.out x h
    · simp at h; omega) HY.out).mono ?_
  rintro e w5 ⟨rfl, zs, c, g1, g2, g3, g4, g5, g6⟩
  have HFIN : Hid (RetP w m (val (2 ^ 64) xs + val (2 ^ 64) ys) (.returned (.slice (some ⟨w.heap.size, 0, none⟩) m m)) w5) := by
    refine Lib.hid ⟨w.heap.size, zs, m, rfl, g1, Nat.le_refl _, g2, ?_, Nat.le_refl _, g5, F4.only g6, HB4.out.trans (g6.below (Nat.le_refl _) (by omega))⟩
    rw [val_append] at g4
    have hx := HLX.out
    refine sum_fits (by omega) (by rw [hx, HLY.out]; omega) HX.out HY.out (c := c) ?_
    rw [hx, ← hlm]
    rw [show val (2 ^ 64) [0] = 0 from rfl, Nat.mul_zero, Nat.add_zero] at g4
    exact g4
  clear g1 g2 g3 g4 g5 g6 A4 O4 F4 Y4 hcp e4 hlm hq hmk
  go_wp2
  go_ret
  exact HFIN.out

set_option maxHeartbeats 1000000 in
theorem sum_lt (bx ox cx bY oy cy lx ly : Nat) (xs ys : List Nat) (w : World) (hx : xs.length = lx) (hy : ys.length = ly) (hly : 1 ≤ ly) (hle : ly < lx) (hlx2 : lx ≤ 1000000)
    (h1 : At w .u64 bx ox xs) (h2 : At w .u64 bY oy ys) (hX : ∀ x ∈ xs, x < 2 ^ 64) (hY : ∀ x ∈ ys, x < 2 ^ 64) :
    Calls Tryz.prog 71 #[.slice (some ⟨bY, oy, none⟩) ly cy, .slice (some ⟨bx, ox, none⟩) lx cx] w (RetP w (lx + 1) (val (2 ^ 64) xs + val (2 ^ 64) ys)) := by
  have hbx : bx < w.heap.size := h1.lt (by omega)
  have hby : bY < w.heap.size := h2.lt (by omega)
  have H1 := Lib.hid h1; have H2 := Lib.hid h2; have HX := Lib.hid hX; have HY := Lib.hid hY; have HLX := Lib.hid hx; have HLY := Lib.hid hy
  obtain ⟨m, hm⟩ : ∃ m, m = lx + 1 := ⟨_, rfl⟩
  have hmk := make_u64 m (by omega)
  have hq : (lx : Int) + 1 = (m : Int) := by omega
  have HM := Lib.hid hm
  have hlem : lx ≤ m := by omega
  rw [← hm]
  clear h1 h2 hX hY hx hy hm
  have d0 : decide ((ly : Int) < lx) = true := by simp; omega
  have A3 := At.made w .u64 m 23
  have F3 := Fr.made w .u64 m m 23
  have B3 : Below w.heap.size w (w.alloc (.cells (madeCells #[.int .u64 0] m) 23)) := below_alloc (Below.refl _ _) _
  have HA3 := Lib.hid A3; have HF3 := Lib.hid F3; have HB3 := Lib.hid B3
  have hcp : ∀ ty, (Builtin.copy_ #[24, 24] ty #[.slice (some ⟨w.heap.size, 0, none⟩) m m, .slice (some ⟨bx, ox, none⟩) lx cx]).run Tryz.prog (w.alloc (.cells (madeCells #[.int .u64 0] m) 23)) = .ok (goInt lx) ((w.alloc (.cells (madeCells #[.int .u64 0] m) 23)).setCells w.heap.size 0 (cellsOfRow .u64 xs)) := by
    intro ty
    have hx := HLX.out
    subst hx
    exact copy_row 24 24 ty 23 .u64 w.heap.size 0 m m bx ox cx _ xs _ Tryz.underlying24 Tryz.sizeU64 (by simp) hlem A3 F3 (H1.out.mono B3)
  clear A3 F3 B3
  go_enter Tryz.func71, Tryz.ntmps71
  go_wp2_with fail
  have A4 := HA3.out.copied (xs := xs) (by rw [HLX.out, List.length_replicate]; exact hlem)
  have O4 := Only.setCells (w.alloc (.cells (madeCells #[.int .u64 0] m) 23)) w.heap.size 0 m (cellsOfRow .u64 xs) (by simp only [cellsOfRow, List.length_map]; rw [HLX.out]; exact hlem)
  have F4 := HF3.out.only O4
  have Y4 := (H2.out.mono HB3.out).only O4 (by omega)
  have e4 : xs ++ (List.replicate m 0).drop xs.length = xs ++ [0] := by rw [List.drop_replicate, HLX.out, HM.out]; simp
  rw [e4] at A4
  have HB4 := Lib.hid (HB3.out.trans (O4.below (Nat.le_refl _) (by simp)))
  generalize (w.alloc (.cells (madeCells #[.int .u64 0] m) 23)).setCells w.heap.size 0 (cellsOfRow .u64 xs) = w4 at *
  have hz4 : w.heap.size < w4.heap.size := A4.lt (by simp)
  have hlm := HM.out
  refine (addTo_any w.heap.size 0 m bY oy cy m ly (xs ++ [0]) ys w4 (by rw [List.length_append, HLX.out, hlm]; rfl) HLY.out (by omega) (by omega) (by omega) A4 F4 Y4 (fun x hx => by
    rcases List.mem_append.1 hx with h | h
    · exact HX.out x h
    · simp at h; omega) HY.out).mono ?_
  rintro e w5 ⟨rfl, zs, c, g1, g2, g3, g4, g5, g6⟩
  have HFIN : Hid (RetP w m (val (2 ^ 64) xs + val (2 ^ 64) ys) (.returned (.slice (some ⟨w.heap.size, 0, none⟩) m m)) w5) := by
    refine Lib.hid ⟨w.heap.size, zs, m, rfl, g1, Nat.le_refl _, g2, ?_, Nat.le_refl _, g5, F4.only g6, HB4.out.trans (g6.below (Nat.le_refl _) (by omega))⟩
    rw [val_append] at g4
    have hx := HLX.out
    refine sum_fits (by omega) (by rw [hx, HLY.out]; omega) HX.out HY.out (c := c) ?_
    rw [hx, ← hlm]
    rw [show val (2 ^ 64) [0] = 0 from rfl, Nat.mul_zero, Nat.add_zero] at g4
    exact g4
  clear g1 g2 g3 g4 g5 g6 A4 O4 F4 Y4 hcp e4 hlm hq hmk
  go_wp2
  go_ret
  exact HFIN.out

end Go.Proofs.YtfjjmhbffbhhdaaGreatDoor

/- A row less a multiple of another, in place. -/
namespace Go.Proofs.YtfjjmhbffbhhdaaGreatDoor
open Go.RowKit

def RetTimes (w : World) (bz oz l : Nat) (zs xs : List Nat) (y : Nat) : Ending → World → Prop := fun e w' =>
  ∃ (zs' : List Nat) (d : Nat), d ≤ 1 ∧ e = .returned (.bool ((d : Int) != 0)) ∧ zs'.length = l + 1 ∧ (∀ x ∈ zs', x < 2 ^ 64) ∧ val (2 ^ 64) zs' + val (2 ^ 64) xs * y = val (2 ^ 64) zs + (2 ^ 64) ^ (l + 1) * d ∧ At w' .u64 bz oz zs' ∧ Only w w' bz oz (l + 1)

set_option maxHeartbeats 1000000 in
theorem subTimes_any (bz oz cz bx ox cx l m : Nat) (zs xs : List Nat) (y : Nat) (w : World) (hm : m = l + 1) (hz : zs.length = m) (hx : xs.length = l) (hl : l ≤ 4000000)
    (hne : bx ≠ bz) (h1 : At w .u64 bz oz zs) (hF : Fr w bz oz m) (h2 : At w .u64 bx ox xs) (hZ : ∀ x ∈ zs, x < 2 ^ 64) (hX : ∀ x ∈ xs, x < 2 ^ 64) (hy : y < 2 ^ 64) :
    Calls Tryz.prog 94 #[.slice (some ⟨bz, oz, none⟩) m cz, .slice (some ⟨bx, ox, none⟩) l cx, .int .u64 (y : Int)] w (RetTimes w bz oz l zs xs y) := by
  have H1 := Lib.hid h1; have HF := Lib.hid hF; have H2 := Lib.hid h2; have HZ := Lib.hid hZ; have HX := Lib.hid hX; have HLZ := Lib.hid hz; have HLX := Lib.hid hx; have HY := Lib.hid hy; have HM1 := Lib.hid hm
  clear h1 hF h2 hZ hX hz hx hy hm
  go_enter Tryz.func94, Tryz.ntmps94
  go_wp2
  go_loopw [7, 17] (fun c i wr => ∃ k c' : Nat, k ≤ l ∧ i = .int .i64 k ∧ c = .int .u64 (c' : Int) ∧ ∃ zs', Hid (TimesInv (2 ^ 64) zs xs y zs' k c') ∧ At wr .u64 bz oz zs' ∧ Only w wr bz oz m) (fun _ i _ => l - (intOf i).toNat)
  case atStart => exact ⟨0, 0, Nat.zero_le _, rfl, rfl, zs, Lib.hid (TimesInv.start (by omega) _ _ _ HZ.out), H1.out, Only.refl _ _ _ _⟩
  case round =>
    obtain ⟨k, c, hk, rfl, rfl, zs', HI, hA, hO⟩ := hrel
    have hml := HM1.out
    have hzl : zs'.length = m := by rw [HI.out.len, HLZ.out]
    have hc1 := HI.out.carry
    by_cases hlt : k < l
    · have c1 := hA k (by omega)
      have f1 := (HF.out.only hO) k (by omega)
      have c2 := (H2.out.only hO hne) k (by rw [HLX.out]; omega)
      have hx1 := getD_lt HX.out (by omega) k
      have hz1 := getD_lt HI.out.lt (by omega) k
      obtain ⟨s, d, hs, hs2, hd⟩ := times_step hx1 HY.out hz1 hc1
      have hmd := Nat.mod_add_div (xs.getD k 0 * y) (2 ^ 64)
      have hmdl := Nat.mod_lt (xs.getD k 0 * y) (by omega : 0 < 2 ^ 64)
      have HN := Lib.hid (HI.out.step (by rw [HLZ.out]; omega) hs2 hd hs)
      have HM := Lib.hid (mul64_any (xs.getD k 0) y (xs.getD k 0 * y / 2 ^ 64) (xs.getD k 0 * y % 2 ^ 64) hx1 HY.out hmd.symm hmdl)
      have hib : xs.getD k 0 * y / 2 ^ 64 < 2 ^ 64 := by
        rw [Nat.div_lt_iff_lt_mul (by omega)]
        exact Nat.mul_lt_mul'' hx1 HY.out
      generalize xs.getD k 0 * y % 2 ^ 64 = lo at *
      generalize xs.getD k 0 * y / 2 ^ 64 = hi at *
      generalize xs.getD k 0 * y = p at *
      generalize zs'.getD k 0 = z at *
      generalize xs.getD k 0 = x at *
      obtain ⟨s1, d1, hs1, hs12, hd1⟩ : ∃ s d, lo + c + 0 = s + 2 ^ 64 * d ∧ s < 2 ^ 64 ∧ d ≤ 1 := ⟨(lo + c) % 2 ^ 64, (lo + c) / 2 ^ 64, by omega, by omega, by omega⟩
      obtain ⟨s2, d2, hs2', hs22, hd2⟩ : ∃ s d, z + 2 ^ 64 * d = s + s1 + 0 ∧ s < 2 ^ 64 ∧ d ≤ 1 := by
        by_cases hb : s1 ≤ z
        · exact ⟨z - s1, 0, by omega, by omega, by omega⟩
        · exact ⟨z + 2 ^ 64 - s1, 1, by omega, by omega, by omega⟩
      have es : s2 = s := by omega
      have ed : hi + d1 + d2 = d := by omega
      have hadd1 := call_add64' lo c 0 s1 d1 (by omega) hs1 hs12
      have hsub2 := call_sub64' z s1 0 s2 d2 (by omega) hz1 hs12 hs2' hs22
      rw [Int.natCast_zero] at hadd1 hsub2
      have hw1 : IntKind.u64.wrap ((hi : Int) + d1) = ((hi + d1 : Nat) : Int) := by rw [IntKind.wrap_u64]; omega
      have hw2 : IntKind.u64.wrap (((hi + d1 : Nat) : Int) + d2) = (d : Int) := by rw [IntKind.wrap_u64]; omega
      obtain ⟨q, hq⟩ : ∃ q, q = hi + d1 := ⟨_, rfl⟩
      rw [← hq] at hw1 hw2
      subst es
      have HLW := Lib.hid hzl
      have i1 : (0 : Int) ≤ k := by omega
      have i2 : (k : Int) < l := by omega
      have i3 : (k : Int) < m := by omega
      clear hml hzl hs hs2 hx1 hz1 hc1 hd HI hib hmd hmdl hs1 hs12 hd1 hs2' hs22 hd2 ed hq
      go_wp2_with fail
      refine (HM.out _).mono ?_
      rintro e w1 ⟨rfl, rfl⟩
      go_wp2
      go_roundw
      case rel =>
        have hzl : zs'.length = m := HLW.out
        exact ⟨k + 1, d, by omega, by go_num, rfl, zs'.set k s2, HN, hA.set k s2 (by omega), hO.setCell _ (by omega) (by omega) _⟩
      case measure => simp [intOf]; omega
    · obtain rfl : k = l := by omega
      have c1 := hA k (by omega)
      have f1 := (HF.out.only hO) k (by omega)
      have hz1 := getD_lt HI.out.lt (by omega) k
      obtain ⟨s2, d2, hs2', hs22, hd2⟩ : ∃ s d, zs'.getD k 0 + 2 ^ 64 * d = s + c + 0 ∧ s < 2 ^ 64 ∧ d ≤ 1 := by
        by_cases hb : c ≤ zs'.getD k 0
        · exact ⟨zs'.getD k 0 - c, 0, by omega, by omega, by omega⟩
        · exact ⟨zs'.getD k 0 + 2 ^ 64 - c, 1, by omega, by omega, by omega⟩
      have hsub2 := call_sub64' (zs'.getD k 0) c 0 s2 d2 (by omega) hz1 hc1 hs2' hs22
      rw [Int.natCast_zero] at hsub2
      have HD := Lib.hid (HI.out.done (s := s2) (d := d2) HLX.out (by rw [HLZ.out]; exact hml) (by omega))
      have HS := Lib.hid (set_all_lt (k := k) HI.out.lt hs22)
      have HSL : Hid ((zs'.set k s2).length = k + 1) := Lib.hid (by rw [List.length_set]; omega)
      have HAS := Lib.hid (hA.set k s2 (by omega))
      have HOS := Lib.hid (hO.setCell (oz + k) (by omega) (by omega) (.int .u64 (s2 : Int)))
      have HD2 := Lib.hid hd2
      generalize zs'.getD k 0 = z at *
      have i1 : (0 : Int) ≤ k := by omega
      have i3 : (k : Int) < m := by omega
      clear hml hc1 hz1 hs2' hs22 hd2 HI hzl hO hA
      go_wp2
      go_ret
      have hO := HOS.out
      rw [HM1.out] at hO
      exact ⟨_, d2, HD2.out, rfl, HSL.out, HS.out, HD.out, HAS.out, hO⟩
end Go.Proofs.YtfjjmhbffbhhdaaGreatDoor
