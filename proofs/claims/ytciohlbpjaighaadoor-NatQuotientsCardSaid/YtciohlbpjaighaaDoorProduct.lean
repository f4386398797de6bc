/- Products of rows. -/
import Derived.Test.YtciohlbpjaighaaDoorMulWords
import Derived.Test.YtciohlbpjaighaaDoorBits
namespace Go.Proofs.YtciohlbpjaighaaDoor
open Go.RowKit

/-- A part of a row is written anew. -/
theorem At.splice {w w' : World} {k : IntKind} {b i m : Nat} {L zs : List Nat} (h : At w k b 0 L) (h2 : At w' k b i zs) (hm : zs.length = m) (ho : Only w w' b i m) (hl : i + m ≤ L.length) :
    At w' k b 0 (L.take i ++ zs ++ L.drop (i + m)) := by
  have hi : (L.take i).length = i := by rw [List.length_take]; omega
  have h1 : At w' k b 0 (L.take i) := (h.take i).onlyOut ho (Or.inl (by rw [hi]; omega))
  have h3 : At w' k b (0 + (i + m)) (L.drop (i + m)) := (h.drop (i + m)).onlyOut ho (Or.inr (by omega))
  refine At.append (At.append h1 ?_) ?_
  · rw [hi, Nat.zero_add]; exact h2
  · rw [List.length_append, hi, hm]; exact h3

/-- After i digits of a product of xs by ys: zs holds it, and zeros above. -/
structure ProdInv (b : Nat) (xs ys zs : List Nat) (i : Nat) : Prop where
  len : zs.length = xs.length + ys.length
  lt : ∀ x ∈ zs, x < b
  rest : ∀ j, i + xs.length ≤ j → zs.getD j 0 = 0
  prod : val b (zs.take (i + xs.length)) = val b xs * val b (ys.take i)

theorem ProdInv.start {b : Nat} (hb : 0 < b) (xs ys : List Nat) : ProdInv b xs ys (List.replicate (xs.length + ys.length) 0) 0 := by
  refine ⟨by simp, fun x hx => by rw [List.eq_of_mem_replicate hx]; exact hb, fun j _ => ?_, ?_⟩
  · by_cases h : j < xs.length + ys.length
    · simp [List.getD, h]
    · simp [List.getD, h]
  · rw [List.take_replicate, val_replicate_zero]; simp [val]

theorem ProdInv.step {b : Nat} {xs ys zs sub : List Nat} {i c : Nat} (h : ProdInv b xs ys zs i) (hi : i < ys.length) (hl : sub.length = xs.length) (hs : ∀ x ∈ sub, x < b) (hc : c < b)
    (e : val b sub + b ^ xs.length * c = val b ((zs.drop i).take xs.length) + val b xs * ys.getD i 0) :
    ProdInv b xs ys ((zs.take i ++ sub ++ zs.drop (i + xs.length)).set (i + xs.length) c) (i + 1) := by
  have hz := h.len
  have hti : (zs.take i).length = i := by rw [List.length_take]; omega
  have hlen : (zs.take i ++ sub ++ zs.drop (i + xs.length)).length = xs.length + ys.length := by
    simp only [List.length_append, hti, hl, List.length_drop]; omega
  have hpre : (zs.take i ++ sub ++ zs.drop (i + xs.length)).take (i + xs.length) = zs.take i ++ sub := by
    rw [List.take_append_of_le_length (by rw [List.length_append, hti, hl]; exact Nat.le_refl _), List.take_of_length_le (by rw [List.length_append, hti, hl]; exact Nat.le_refl _)]
  refine ⟨by rw [List.length_set, hlen], ?_, fun j hj => ?_, ?_⟩
  · refine set_all_lt (fun x hx => ?_) hc
    rw [List.append_assoc, List.mem_append, List.mem_append] at hx
    rcases hx with hx | hx | hx
    · exact h.lt x (List.mem_of_mem_take hx)
    · exact hs x hx
    · exact h.lt x (List.mem_of_mem_drop hx)
  · have h1 := h.rest j (by omega)
    have hne : ¬ i + xs.length = j := by omega
    have hne2 : ¬ j < i + xs.length := by omega
    simp only [List.getD, List.getElem?_set_ne hne]
    rw [List.getElem?_append_right (by rw [List.length_append, hti, hl]; omega), List.getElem?_drop, List.length_append, hti, hl]
    rw [show i + xs.length + (j - (i + xs.length)) = j from by omega]
    exact h1
  · rw [show i + 1 + xs.length = (i + xs.length) + 1 from by omega, val_take_succ', take_set_self, getD_set_self _ _ _ (by rw [hlen]; omega), hpre, val_append, hti, val_take_succ', Nat.pow_add]
    have h1 := h.prod
    rw [List.take_add, val_append, hti] at h1
    generalize val b sub = S at *
    generalize val b ((zs.drop i).take xs.length) = Z at *
    generalize val b (zs.take i) = A at *
    generalize val b (ys.take i) = Y at *
    generalize ys.getD i 0 = y at *
    have e2 : b ^ i * (S + b ^ xs.length * c) = b ^ i * (Z + val b xs * y) := by rw [e]
    grind

theorem ProdInv.done {b : Nat} {xs ys zs : List Nat} (h : ProdInv b xs ys zs ys.length) : val b zs = val b xs * val b ys := by
  have h1 := h.prod
  rw [List.take_of_length_le (by rw [h.len]; omega), List.take_of_length_le (Nat.le_refl _)] at h1
  exact h1

/-- What a product of rows leaves. -/
def RetP (W : World) (l n : Nat) : Ending → World → Prop := fun e w' =>
  ∃ b zs c, e = .returned (.slice (some ⟨b, 0, none⟩) l c) ∧ zs.length = l ∧ l ≤ c ∧ (∀ x ∈ zs, x < 2 ^ 64) ∧ val (2 ^ 64) zs = n ∧ W.heap.size ≤ b ∧ At w' .u64 b 0 zs ∧ Fr w' b 0 l ∧ Below W.heap.size W w'

set_option maxHeartbeats 1000000 in
theorem plain_any (bx ox cx bY oy cy lx ly : Nat) (xs ys : List Nat) (w : World) (hx : xs.length = lx) (hy : ys.length = ly) (hlx : 1 ≤ lx) (hlx2 : lx ≤ 1000000) (hly2 : ly ≤ 1000000)
    (h1 : At w .u64 bx ox xs) (h2 : At w .u64 bY oy ys) (hX : ∀ x ∈ xs, x < 2 ^ 64) (hY : ∀ x ∈ ys, x < 2 ^ 64) :
    Calls Tryd.prog 70 #[.slice (some ⟨bx, ox, none⟩) lx cx, .slice (some ⟨bY, oy, none⟩) ly cy] w (RetP w (lx + ly) (val (2 ^ 64) xs * val (2 ^ 64) ys)) := by
  have hbx : bx < w.heap.size := h1.lt (by omega)
  have hby : ly = 0 ∨ bY < w.heap.size := by
    by_cases h : ly = 0
    · exact Or.inl h
    · exact Or.inr (h2.lt (by omega))
  have HBY := Lib.hid hby
  have H1 := Lib.hid h1; have H2 := Lib.hid h2; have HX := Lib.hid hX; have HY := Lib.hid hY; have HLX := Lib.hid hx; have HLY := Lib.hid hy
  obtain ⟨m, hm⟩ : ∃ m, m = lx + ly := ⟨_, rfl⟩
  have hmk := make_u64 m (by omega)
  have hq : (lx : Int) + ly = (m : Int) := by omega
  have HM := Lib.hid hm
  have HQ := Lib.hid hq
  rw [← hm]
  clear h1 h2 hX hY hx hy hby hm
  go_enter Tryd.func70, Tryd.ntmps70
  go_wp2_with fail
  have A3 := At.made w .u64 m 23
  have F3 := Fr.made w .u64 m m 23
  have B3 : Below w.heap.size w (w.alloc (.cells (madeCells #[.int .u64 0] m) 23)) := below_alloc (Below.refl _ _) _
  have hz2 : w.heap.size < (w.alloc (.cells (madeCells #[.int .u64 0] m) 23)).heap.size := by simp
  obtain ⟨w3, hw3⟩ : ∃ w3, w3 = w.alloc (.cells (madeCells #[.int .u64 0] m) 23) := ⟨_, rfl⟩
  rw [← hw3] at A3 F3 B3 hz2 ⊢
  obtain ⟨g, hg⟩ : ∃ g, g = w.heap.size := ⟨_, rfl⟩
  have HG := Lib.hid hg
  rw [← hg] at A3 F3 hz2 hbx ⊢
  have HA3 := Lib.hid A3; have HF3 := Lib.hid F3; have HB3 := Lib.hid B3
  clear hw3 hg A3 F3 B3 hmk hq
  try rw [HQ.out]
  go_loopw [16] (fun i wr => ∃ k : Nat, k ≤ ly ∧ i = .int .i64 k ∧ ∃ L : List Nat, Hid (ProdInv (2 ^ 64) xs ys L k) ∧ At wr .u64 g 0 L ∧ Only w3 wr g 0 m) (fun i _ => ly - (intOf i).toNat)
  case atStart =>
    have e : List.replicate m 0 = List.replicate (xs.length + ys.length) 0 := by rw [HLX.out, HLY.out, HM.out]
    exact ⟨0, Nat.zero_le _, rfl, List.replicate m 0, Lib.hid (by rw [e]; exact ProdInv.start (by omega) _ _), HA3.out, Only.refl _ _ _ _⟩
  case round =>
    obtain ⟨k, hk, rfl, L, HI, hA, hO⟩ := hrel
    by_cases hlt : k < ly
    · have hLl : L.length = m := by rw [HI.out.len, HLX.out, HLY.out, HM.out]
      have hbY : bY < g := by rw [HG.out]; exact HBY.out.resolve_left (by omega)
      have hmm := HM.out
      have c2 := (((H2.out.mono HB3.out).only hO (by omega))) k (by rw [HLY.out]; omega)
      have hyk := getD_lt HY.out (by omega) k
      have hsub := (hA.drop k).take lx
      rw [Nat.zero_add] at hsub
      have hsubl : ((L.drop k).take lx).length = lx := by rw [List.length_take, List.length_drop]; omega
      have hfr : Fr wr g k lx := fun i hi => by have := (HF3.out.only hO) (k + i) (by omega); rwa [Nat.zero_add] at this
      have hLt : ∀ x ∈ (L.drop k).take lx, x < 2 ^ 64 := fun x hx => HI.out.lt x (List.mem_of_mem_drop (List.mem_of_mem_take hx))
      have HT := Lib.hid (addTimes_any g k (m - k) bx ox cx lx _ xs (ys.getD k 0) wr hsubl HLX.out (by omega) (by omega) hsub hfr ((H1.out.mono HB3.out).only hO (by omega)) hLt HX.out hyk)
      have HST := Lib.hid (fun sub c h1 h2 h3 h4 => HI.out.step (sub := sub) (c := c) (by rw [HLY.out]; exact hlt) h1 h2 h3 h4)
      generalize hyy : ys.getD k 0 = y at *
      have HYY := Lib.hid hyy
      have i0 : (0 : Int) ≤ k := by omega
      have i1 : (k : Int) < ly := by omega
      have i2 : (k : Int) + lx < m := by omega
      have HSUBL := Lib.hid hsubl
      clear hsub hfr hLt hyk hmm hyy hsubl
      go_wp2_with fail
      refine HT.out.mono ?_
      rintro e w1 ⟨sub, c, rfl, hc1, hl1, hs1, he1, hA1, hO1⟩
      have hm := HM.out
      have hsp := hA.splice hA1 hl1 hO1 (by omega)
      have hOO : Only w3 w1 g 0 m := hO.trans (hO1.wider (Nat.zero_le _) (by omega))
      have hLL : (L.take k ++ sub ++ L.drop (k + lx)).length = m := by
        simp only [List.length_append, List.length_take, List.length_drop]; omega
      have c4 := hsp.zero (k + lx) (by omega)
      have f4 := (HF3.out.only hOO).zero (k + lx) (by omega)
      have HP := Lib.hid (HST.out sub c (by rw [hl1, HLX.out]) hs1 hc1 (by rw [HLX.out]; exact he1))
      have HA1 := Lib.hid (hsp.set (k + lx) c (by omega))
      have HO1 := Lib.hid hOO
      generalize (L.take k ++ sub ++ L.drop (k + lx)).getD (k + lx) 0 = z at *
      clear he1 hA1 hO1 hsp hOO hLL hm hs1 hl1 hc1 hA hO HT HST HI
      go_wp2
      go_roundw
      case rel =>
        refine ⟨k + 1, by omega, by go_num, _, Lib.hid (by have := HP.out; rw [HLX.out] at this; exact this), ?_, HO1.out.setCell _ (by omega) (by have := HM.out; omega) _⟩
        have := HA1.out
        rwa [Nat.zero_add] at this
      case measure => simp [intOf]; omega
    · go_wp2
      go_ret
      obtain rfl : k = ly := by omega
      have hI := HI.out
      have e := HLY.out
      subst e
      have hx := HLX.out
      subst hx
      have hm := HM.out
      subst hm
      exact ⟨g, L, _, rfl, hI.len, Nat.le_refl _, hI.lt, hI.done, by rw [HG.out]; exact Nat.le_refl _, hA, HF3.out.only hO, HB3.out.trans (hO.below (by rw [HG.out]; exact Nat.le_refl _) (by rw [← HG.out]; omega))⟩
end Go.Proofs.YtciohlbpjaighaaDoor
