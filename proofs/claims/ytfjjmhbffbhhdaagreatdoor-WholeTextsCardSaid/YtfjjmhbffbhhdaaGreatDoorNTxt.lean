/- nat.Text of any number. -/
import Derived.Test.YtfjjmhbffbhhdaaGreatDoorShiftS
import Derived.Test.YtfjjmhbffbhhdaaGreatDoorMove
import Derived.Test.YtfjjmhbffbhhdaaGreatDoorDivS
import Derived.Test.YtfjjmhbffbhhdaaGreatDoorFmt
import Derived.Test.YtfjjmhbffbhhdaaGreatDoorDecTxt
namespace Go.Proofs.YtfjjmhbffbhhdaaGreatDoor
open Go.RowKit

def decS (n : Nat) : Value := .string ⟨(Lib.decDigits n).toArray⟩
theorem strCells_dec (n : Nat) : Lib.strCells ⟨(Lib.decDigits n).toArray⟩ = Lib.byteCells (Lib.decDigits n) := rfl
theorem strCells_arr (l : List UInt8) : Lib.strCells ⟨l.toArray⟩ = Lib.byteCells l := rfl
theorem byteCells_app (l m : List UInt8) : Lib.byteCells (l ++ m) = Lib.byteCells l ++ Lib.byteCells m := by simp [Lib.byteCells]
theorem repeat_one (b : UInt8) : ∀ c, Lib.repeatL [b] c = List.replicate c b
  | 0 => rfl
  | c + 1 => by rw [Lib.repeatL, repeat_one b c]; rfl
theorem grown_below {w w' : World} (hb : Below w.heap.size w w') : w.grownBy w' none := ⟨hb.os, hb.tape, hb.output, hb.size, fun k hk _ => hb.block k hk⟩
theorem grown_only {w w' : World} {g o n : Nat} (hb : Only w w' g o n) : w.grownBy w' (some g) := ⟨hb.os, hb.tape, hb.output, hb.size, fun k hk hne => hb.block k hk (fun e => hne (by rw [e]))⟩
theorem isB_mono {B b : Nat} {bs : List Value} {w w' : World} (h : Lib.IsBuilder 97 5 B b bs w) (hb : Below w.heap.size w w') : Lib.IsBuilder 97 5 B b bs w' := by
  have key : ∀ p, Lib.BuilderAt 97 5 B b p bs w → Lib.BuilderAt 97 5 B b p bs w' := fun p h => by
    have hl := h.lt
    obtain ⟨h1, v, h2, h3, h4⟩ := h
    exact ⟨h1, v, by rw [hb.block b hl]; exact h2, h3.kept (grown_below hb) (by cases hv : v.ownBlock <;> simp), h4⟩
  exact h.imp (key _) (key _)
theorem isB_fresh (w : World) : Lib.IsBuilder 97 5 w.heap.size w.heap.size [] (w.alloc (.cells #[.pointer none, .slice none 0 0] 97)) :=
  Or.inl ⟨Nat.le_refl _, .slice none 0 0, heap_alloc_new w _, World.ownsRow_nil _ _ _ _, by simp [Value.ownBlock]⟩

theorem At.grown {w w' : World} {k : IntKind} {b off : Nat} {xs : List Nat} {row : Option Nat} (h : At w k b off xs) (hg : w.grownBy w' row) (hb : b < w.heap.size) (hne : some b ≠ row) : At w' k b off xs := fun i hi => by
  rw [World.cell?_of_block (w := w) (hg.block b hb hne)]; exact h i hi
theorem Fr.grown {w w' : World} {b off n : Nat} {row : Option Nat} (h : Fr w b off n) (hg : w.grownBy w' row) (hb : b < w.heap.size) (hne : some b ≠ row) : Fr w' b off n := fun i hi => by
  rw [World.frozen?_of_block (w := w) (hg.block b hb hne)]; exact h i hi
theorem chunks_few {n N l k : Nat} (hl : l = (digs (2 ^ 64) n).length) (hN : N ≠ 0) (h : 2 ^ k * N ≤ n) : k < 64 * l := by
  have h1 := lt_pow_digs (b := 2 ^ 64) (by omega) n
  rw [← hl, ← Nat.pow_mul] at h1
  have h2 : 2 ^ k ≤ 2 ^ k * N := Nat.le_mul_of_pos_right _ (by omega)
  exact (Nat.pow_lt_pow_iff_right (by omega)).1 (show 2 ^ k < 2 ^ (64 * l) by omega)
theorem chunks_next {n N k : Nat} (h : 2 ^ k * N ≤ n) : 2 ^ (k + 1) * (N / 10000000000000000000) ≤ n := by
  have h1 : 2 * (N / 10000000000000000000) ≤ N := by omega
  have h2 := Nat.mul_le_mul_left (2 ^ k) h1
  rw [Nat.pow_succ, Nat.mul_assoc]
  omega
theorem news_u64 (w : World) (x : Nat) (t : TypeId) : At (w.alloc (.cells #[.int .u64 (x : Int)] t)) .u64 w.heap.size 0 [x] := At.new1 w .u64 x t
theorem last_snoc (cs : List Nat) (x : Nat) : (cs ++ [x]).getD ((cs ++ [x]).length - 1) 0 = x := by simp [List.getD]

set_option maxRecDepth 100000 in
set_option maxHeartbeats 4000000 in
theorem text_long (n b off l c : Nat) (w : World) (hn : 2 ^ 64 ≤ n) (hl : l = (ds n).length) (hl2 : l ≤ 1000) (h : At w .u64 b off (ds n)) (ht : TabP w) :
    Calls Tryz.prog 31 #[.agg #[.int .u64 0, .slice (some ⟨b, off, none⟩) l c]] w fun e w' => e = .returned (decS n) ∧ Below w.heap.size w w' := by
  have hn0 : n ≠ 0 := by have : 0 < 2 ^ 64 := Nat.pow_pos (by omega); omega
  have hl0 : 0 < l := by rw [hl]; exact List.length_pos_iff.2 (by rw [ds_big hn0]; exact digs_ne_nil (by omega) hn0)
  have hd : ds n = digs (2 ^ 64) n := ds_big hn0
  rw [hd] at h hl
  have H := Lib.hid h; have HL := Lib.hid hl.symm; have HT := Lib.hid ht; have HN0 := Lib.hid hn0
  clear h hl ht hn0 hn hd
  go_enter Tryz.func31, Tryz.ntmps31
  go_wp2_with fail
  refine (short_no _ _ _ _ hl0 _).mono ?_
  rintro e w1 ⟨rfl, hb1⟩
  obtain ⟨hcc, hff⟩ := bcell hb1
  have hB1 := (below_alloc (Below.refl w.heap.size w) (.cells #[.int .u64 0, .slice (some ⟨b, off, none⟩) l c] 26)).trans (hb1.mono (by simp only [World.alloc, Array.size_push]; omega))
  have H1 := Lib.hid (H.out.mono hB1); have HT1 := Lib.hid (HT.out.mono hB1); have HB1 := Lib.hid hB1
  clear hb1 hB1 H HT
  go_wp2_with fail
  refine (clone_any b off c l (digs (2 ^ 64) n) w1 HL.out (by omega) H1.out).mono ?_
  rintro e w2 ⟨g, o2, c2, rfl, hc2, hg2, hA2, hF2, hb2⟩
  rw [HL.out] at hF2 hc2 ⊢
  have B2 := Lib.hid (below_step HB1.out hb2); have T2 := Lib.hid (HT1.out.mono hb2)
  have A2 := Lib.hid hA2; have F2 := Lib.hid hF2
  have hwg : w.heap.size ≤ g := by have := HB1.out.size; omega
  have hgt : 2 < g := by have := HT1.out.lt; omega
  have hg3 := hA2.lt (by rw [HL.out]; exact hl0)
  have HS2 : Hid (g + 1 ≤ w2.heap.size) := Lib.hid hg3
  clear hA2 hF2 hb2 hg2 hg3 hcc hff H1 HT1 HB1
  obtain ⟨i0, hi, hz0, hz1, hz2⟩ := info_parts Tryz.infoU64
  go_wp2_with fail
  go_loopg [3, 4] n (fun k v r wr => ∃ (N lr : Nat) (cs : List Nat), r = .slice (some ⟨g, o2, none⟩) lr c2 ∧ lr ≤ l ∧ cs.length ≤ 64000 ∧ Hid (N = k ∧ lr = (digs (2 ^ 64) N).length ∧ 2 ^ cs.length * N ≤ n ∧ (∀ x ∈ cs, x < 10000000000000000000) ∧ chk cs N = n ∧ (N = 0 → cs.getD (cs.length - 1) 0 ≠ 0)) ∧ Hid (At wr .u64 g o2 (digs (2 ^ 64) N) ∧ Fr wr g o2 lr) ∧ Hid (wr.ownsRow (g + 1) 23 1 v cs.length (cellsOfRow .u64 cs)) ∧ Hid (Below w.heap.size w wr ∧ TabP wr ∧ g + 1 ≤ wr.heap.size))
  case atStart => exact ⟨n, l, [], rfl, Nat.le_refl _, Nat.zero_le _, Lib.hid ⟨rfl, HL.out.symm, by simp, (fun x hx => by cases hx), rfl, fun h => absurd h HN0.out⟩, Lib.hid ⟨A2.out, F2.out⟩, Lib.hid (World.ownsRow_nil _ _ _ _), Lib.hid ⟨B2.out, T2.out, HS2.out⟩⟩
  case round =>
    clear A2 F2 B2 T2 HS2
    obtain ⟨N, lr, cs, rfl, hlr, hcs, HK, HA, HO, HB⟩ := hrel
    rcases Nat.eq_zero_or_pos lr with h0 | h0
    · have hN0 : N = 0 := by
        rcases Nat.eq_zero_or_pos N with e | e
        · exact e
        · have h1 := HK.out.2.1
          have h2 := List.length_pos_iff.2 (digs_ne_nil (b := 2 ^ 64) (n := N) (by omega) (by omega))
          omega
      have hch := HK.out.2.2.2.2.1
      rw [hN0] at hch
      have hlast := HK.out.2.2.2.2.2 hN0
      have hclt := HK.out.2.2.2.1
      have hcl : 0 < cs.length := by
        rcases Nat.eq_zero_or_pos cs.length with e | e
        · rw [List.eq_nil_of_length_eq_zero e] at hch; exact absurd hch.symm HN0.out
        · exact e
      obtain ⟨gc, cc, rfl⟩ := ownsRow_pos HO.out hcl
      obtain ⟨hgc, hcc, hAc, _⟩ := ownsRow_at HO.out rfl
      obtain ⟨L, hL⟩ : ∃ L, L = cs.length - 1 := ⟨_, rfl⟩
      obtain ⟨M, hM⟩ : ∃ M, M = cs.length := ⟨_, rfl⟩
      have hL2 : (M : Int) - 1 = (L : Int) := by omega
      have hLw : IntKind.i64.wrap ((M : Int) - 1) = (L : Int) := by rw [IntKind.wrap_i64]; omega
      have hLM : L < M := by omega
      have hLM2 : (L : Int) < M := by omega
      have hL0 : (0 : Int) ≤ L := by omega
      rw [← hL] at hlast
      have hcell := hAc.zero L (by omega)
      have hdrop : cs.getD L 0 = chk (cs.drop L) 0 := by
        rw [chk_drop (by omega), List.drop_of_length_le (by omega)]; rfl
      have hclast : cs.getD L 0 < 10000000000000000000 := hclt _ (by rw [List.getD_eq_getElem?_getD, List.getElem?_eq_getElem (by omega)]; exact List.getElem_mem _)
      obtain ⟨top, htop⟩ : ∃ top, top = cs.getD L 0 := ⟨_, rfl⟩
      rw [← htop] at hcell hlast hdrop hclast
      obtain ⟨wz, hwz⟩ : ∃ wz, wz = wr.alloc (.cells #[.pointer none, .slice none 0 0] 97) := ⟨_, rfl⟩
      obtain ⟨bb, hbb⟩ : ∃ bb, bb = wr.heap.size := ⟨_, rfl⟩
      have hst : Below wr.heap.size wr wz := by rw [hwz]; exact below_alloc (Below.refl _ _) _
      have hBz := isB_fresh wr
      rw [← hwz, ← hbb] at hBz
      have hgb : gc < bb := by have := hAc.lt hcl; omega
      have hwb : w.heap.size ≤ bb := by have := HB.out.1.size; omega
      have hpb : 2 < bb := by have := HB.out.2.1.lt; omega
      have hcell2 : (wr.alloc (.cells #[.pointer none, .slice none 0 0] 97)).cell? ⟨gc, L, none⟩ = some (.int .u64 (top : Int)) := by rw [← hwz, hst.cell (p := ⟨gc, L, none⟩) (by show gc < wr.heap.size; omega)]; exact hcell
      have hbz : bb ≤ wz.heap.size := by have := hst.size; omega
      have HBZ := Lib.hid hBz; have HAZ := Lib.hid (hAc.mono hst); have HTZ := Lib.hid (HB.out.2.1.mono hst); have HWZ := Lib.hid (below_step HB.out.1 hst)
      have HC := Lib.hid (And.intro hch (And.intro hclt (And.intro hL (And.intro hdrop hlast))))
      have HWZE := Lib.hid (And.intro hwz hbb)
      have HML := Lib.hid (And.intro hM hL)
      rw [← hM]
      have hM9 : M ≤ 64000 := by omega
      clear hN0 HA HK HO HB hch hlast hclt hAc hdrop hBz htop hgc hst hwz hbb hM hL hcs hcl
      go_wp2_with fail
      try rw [← HWZE.out.1]
      try rw [← HWZE.out.2]
      refine (fmt_any top wz (by omega) HTZ.out).mono ?_
      rintro e w3 ⟨rfl, hb3⟩
      have B3 := Lib.hid (isB_mono HBZ.out hb3); have A3 := Lib.hid (HAZ.out.mono hb3); have T3 := Lib.hid (HTZ.out.mono hb3); have W3 := Lib.hid (below_step HWZ.out hb3)
      have hs3 : bb ≤ w3.heap.size := by have := hb3.size; omega
      have hdl := dec_len_le 18 top hclast
      clear hb3 HBZ HAZ HTZ HWZ hclast hcell2
      go_wp2_with fail
      refine (write_any bb bb [] ⟨(Lib.decDigits top).toArray⟩ w3 B3.out (by show 0 + (Lib.decDigits top).toArray.size ≤ _; rw [List.size_toArray]; omega) hs3).mono ?_
      rintro e w4 ⟨rfl, hB4, hb4⟩
      rw [List.nil_append, strCells_dec] at hB4
      have B4 := Lib.hid hB4; have A4 := Lib.hid (A3.out.monoB hb4 hgb); have T4 := Lib.hid (T3.out.monoB hb4 hpb); have W4 := Lib.hid (W3.out.trans (hb4.mono hwb))
      have hs4 : bb ≤ w4.heap.size := by have := hb4.size; omega
      have HDL := Lib.hid hdl
      clear hB4 hb4 B3 A3 T3 W3 hs3 hdl
      have hM2 : IntKind.i64.wrap ((M : Int) - 2) = (L : Int) - 1 := by rw [IntKind.wrap_i64]; omega
      have hM3 : (M : Int) - 2 = (L : Int) - 1 := by omega
      go_wp2
      go_loopw [6] (fun i wy => ∃ k : Nat, k ≤ L ∧ i = .int .i64 ((k : Int) - 1) ∧ Hid (Lib.IsBuilder 97 5 bb bb (Lib.byteCells (Lib.decDigits (chk (cs.drop k) 0))) wy) ∧ Hid (chk (cs.drop k) 0 ≠ 0 ∧ (Lib.decDigits (chk (cs.drop k) 0)).length ≤ 19 * (M - k)) ∧ Hid (At wy .u64 gc 0 cs ∧ TabP wy ∧ Below w.heap.size w wy ∧ bb ≤ wy.heap.size)) (fun i _ => (intOf i + 1).toNat)
      case atStart => exact ⟨L, Nat.le_refl _, rfl, Lib.hid (by rw [← HC.out.2.2.2.1]; exact B4.out), Lib.hid (by rw [← HC.out.2.2.2.1]; exact ⟨HC.out.2.2.2.2, by have := HDL.out; omega⟩), Lib.hid ⟨A4.out, T4.out, W4.out, hs4⟩⟩
      case round =>
        clear B4 A4 T4 W4 hs4
        obtain ⟨k, hk, rfl, HB, HM, HW⟩ := hrel
        rcases Nat.eq_zero_or_pos k with h0 | h0
        · subst h0
          have hch := HC.out.1
          have hb0 := HB.out
          rw [List.drop_zero, hch] at hb0
          have HS := Lib.hid (Tryz.Builder_String_any bb bb (Lib.decDigits n) wr hb0 HW.out.2.2.2)
          clear hch hb0
          go_wp2_with fail
          refine HS.out.mono ?_
          rintro e w9 ⟨rfl, hb9⟩
          have W9 := Lib.hid (HW.out.2.2.1.trans (hb9.mono hwb))
          clear hb9
          go_wp2
          go_ret
          exact ⟨rfl, W9.out⟩
        · obtain ⟨i, rfl⟩ : ∃ i, k = i + 1 := ⟨k - 1, by omega⟩
          have hM1 := HML.out.1
          have hil : i < cs.length := by omega
          have hcell := HW.out.1.zero i hil
          have hclt : cs.getD i 0 < 10000000000000000000 := HC.out.2.1 _ (by rw [List.getD_eq_getElem?_getD, List.getElem?_eq_getElem hil]; exact List.getElem_mem _)
          have hdrop := chk_drop hil
          obtain ⟨x, hx⟩ : ∃ x, x = cs.getD i 0 := ⟨_, rfl⟩
          obtain ⟨m, hm⟩ : ∃ m, m = chk (cs.drop (i + 1)) 0 := ⟨_, rfl⟩
          rw [← hx] at hcell hclt hdrop
          rw [← hm] at hdrop HB HM
          have hst := dec_step hclt HM.out.1
          obtain ⟨s, hs⟩ : ∃ s : ByteArray, s = ⟨(Lib.decDigits x).toArray⟩ := ⟨_, rfl⟩
          have hsz : s.size = (Lib.decDigits x).length := by rw [hs]; rfl
          obtain ⟨z, hz⟩ : ∃ z, z = 19 - s.size := ⟨_, rfl⟩
          have hz1 : (19 : Int) - (s.size : Int) = (z : Int) := by omega
          have hz2 : IntKind.i64.wrap ((19 : Int) - (s.size : Int)) = (z : Int) := by rw [IntKind.wrap_i64]; omega
          have hF := fmt_any x wr (by omega) HW.out.2.1
          rw [← hs] at hF
          have hiw : IntKind.i64.wrap ((i : Int) - 1) = (i : Int) - 1 := by rw [IntKind.wrap_i64]; omega
          have hiM : i < M := by omega
          have hiM2 : (i : Int) < M := by omega
          have hi0 : (0 : Int) ≤ i := by omega
          have HF := Lib.hid hF
          have HE := Lib.hid (And.intro hst (And.intro hdrop (And.intro hs (And.intro hsz hz))))
          clear hF hst hdrop hs hsz hz hm hx hM1 hil
          go_wp2_with fail
          refine HF.out.mono ?_
          rintro e w5 ⟨rfl, hb5⟩
          have B5 := Lib.hid (isB_mono HB.out hb5); have W5 := Lib.hid (And.intro (HW.out.1.mono hb5) (And.intro (HW.out.2.1.mono hb5) (And.intro (below_step HW.out.2.2.1 hb5) (show bb ≤ w5.heap.size by have := hb5.size; have := HW.out.2.2.2; omega))))
          clear hb5 HB HW HF hcell
          go_wp2_with fail
          refine (Tryz.strings_Repeat ⟨#[48]⟩ z w5 (by omega) (by show 1 * z ≤ _; omega)).mono ?_
          rintro e w6 ⟨rfl, hb6⟩
          have B6 := Lib.hid (isB_mono B5.out hb6); have W6 := Lib.hid (And.intro (W5.out.1.mono hb6) (And.intro (W5.out.2.1.mono hb6) (And.intro (below_step W5.out.2.2.1 hb6) (show bb ≤ w6.heap.size by have := hb6.size; have := W5.out.2.2.2; omega))))
          clear hb6 B5 W5
          have hlm := HM.out.2
          have hzl : z ≤ 19 := by omega
          obtain ⟨s0, hs0⟩ : ∃ s0 : ByteArray, s0 = ⟨(Lib.repeatL (ByteArray.mk #[48]).data.toList z).toArray⟩ := ⟨_, rfl⟩
          have hs0l : s0.size = z := by rw [hs0]; show (Lib.repeatL [48] z).toArray.size = z; rw [repeat_one, List.size_toArray, List.length_replicate]
          rw [← hs0]
          have HS0 := Lib.hid (And.intro hs0 hs0l)
          clear hs0 hs0l
          go_wp2_with fail
          refine (write_any bb bb (Lib.byteCells (Lib.decDigits m)) s0 w6 B6.out (by have := HS0.out.2; rw [Lib.byteCells_length]; omega) W6.out.2.2.2).mono ?_
          rintro e w7 ⟨rfl, hB7, hb7⟩
          have B7 := Lib.hid hB7; have W7 := Lib.hid (And.intro (W6.out.1.monoB hb7 hgb) (And.intro (W6.out.2.1.monoB hb7 hpb) (And.intro (W6.out.2.2.1.trans (hb7.mono hwb)) (show bb ≤ w7.heap.size by have := hb7.size; have := W6.out.2.2.2; omega))))
          have hs0l := HS0.out.2
          clear hB7 hb7 B6 W6
          have hsl : s.size ≤ 19 := by have := HE.out.1.2; have := HE.out.2.2.2.1; omega
          have HS1 := Lib.hid hs0l
          clear hs0l
          go_wp2_with fail
          refine (write_any bb bb (Lib.byteCells (Lib.decDigits m) ++ Lib.strCells s0) s w7 B7.out (by have := HS1.out; rw [List.length_append, Lib.byteCells_length, Lib.strCells_length]; omega) W7.out.2.2.2).mono ?_
          rintro e w8 ⟨rfl, hB8, hb8⟩
          have B8 := Lib.hid hB8; have W8 := Lib.hid (And.intro (W7.out.1.monoB hb8 hgb) (And.intro (W7.out.2.1.monoB hb8 hpb) (And.intro (W7.out.2.2.1.trans (hb8.mono hwb)) (show bb ≤ w8.heap.size by have := hb8.size; have := W7.out.2.2.2; omega))))
          clear hB8 hb8 B7 W7 hlm
          go_wp2
          go_roundw
          case rel =>
            have hE := HE.out
            have hS := HS0.out.1
            refine ⟨i, by omega, rfl, Lib.hid ?_, Lib.hid ?_, W8⟩
            · rw [hE.2.1, hE.1.1, byteCells_app, byteCells_app]
              have hb := B8.out
              rw [hS, hE.2.2.1, strCells_arr, strCells_arr, repeat_one, List.append_assoc] at hb
              rw [show 19 - (Lib.decDigits x).length = z from by have := hE.2.2.2.2; have := hE.2.2.2.1; omega]
              exact hb
            · rw [hE.2.1]
              refine ⟨by have := HM.out.1; omega, ?_⟩
              rw [hE.1.1, List.length_append, List.length_append, List.length_replicate]
              have h1 := HM.out.2
              have h2 := hE.1.2
              omega
          case measure => simp [intOf]
    · have hN0 : N ≠ 0 := fun e => by have := HK.out.2.1; rw [e, digs_zero] at this; simp at this; omega
      have hdv := divByWord_any g o2 c2 lr 10000000000000000000 (digs (2 ^ 64) N) wr HK.out.2.1.symm h0 (by omega) (by omega) (by omega) HA.out.1 HA.out.2 (digs_lt (by omega) N)
      rw [val_digs (by omega)] at hdv
      have HDV := Lib.hid hdv; have HN := Lib.hid hN0
      clear hdv hN0
      go_wp2_with fail
      refine HDV.out.mono ?_
      rintro e w3 ⟨ws, r, rfl, hr, hwl, hws, hval, hA3, ho3⟩
      have hrb : r < 10000000000000000000 := by rw [hr]; exact Nat.mod_lt _ (by omega)
      have hgl := hA3.lt (by omega)
      have hown0 := HO.out.kept (grown_only ho3) (by
        cases hv : u3.ownBlock with
        | none => exact .inl rfl
        | some k => right; intro e; have := (HO.out.lt k hv).1; simp at e; omega)
      have hne : some g ≠ Value.ownBlock u3 := fun e => by have := (HO.out.lt g e.symm).1; omega
      have hln := cells_len .u64 [r]
      have hown := hown0.alloc (.cells #[.int .u64 (r : Int)] 23)
      have hte : g + 1 ≤ (w3.alloc (.cells #[.int .u64 (r : Int)] 23)).heap.size := by simp only [World.alloc, Array.size_push]; omega
      have hfew := chunks_few (N := N) HL.out.symm HN.out HK.out.2.2.1
      have hb3 : Below w.heap.size w w3 := HB.out.1.trans (ho3.below hwg (by have := HB.out.1.size; omega))
      have ht3 : TabP w3 := HB.out.2.1.monoB (ho3.below (Nat.le_refl g) (by have := HB.out.2.2; omega)) hgt
      have hF3 := HA.out.2.only ho3
      have HW := Lib.hid (And.intro hr (And.intro hwl (And.intro hws hval))); have HA3 := Lib.hid hA3; have HF3 := Lib.hid hF3; have HB3 := Lib.hid hb3; have HT3 := Lib.hid ht3
      clear hr hwl hws hval hA3 hF3 hb3 ht3 ho3 HA HB HDV hown0
      go_wp2_with (at_builtin; go_loud (refine wpList_append_own _ rfl (.tmp 19) (.tmp 22) 24 rfl (g + 1) 23 i0 (.int .u64 0) 1 8 Tryz.underlying24 hi hz0 hz1 hz2 rfl (by decide) _ cs.length (cellsOfRow .u64 cs) rfl hown ⟨w3.heap.size, 0, none⟩ 1 1 (cellsOfRow .u64 [r]) rfl hln (cells_at (news_u64 w3 r 23)) (cells_one _ _) (by unfold maxLen; omega) (by omega) hte ?_))
      intro v' w5 h1 h2 _
      rw [← cells_app, show cs.length + 1 = (cs ++ [r]).length from by simp] at h1
      have hgl4 : g < (w3.alloc (.cells #[.int .u64 (r : Int)] 23)).heap.size := by simp only [World.alloc, Array.size_push]; omega
      have hb4 : Below w.heap.size w (w3.alloc (.cells #[.int .u64 (r : Int)] 23)) := HB3.out.alloc HB3.out.size _
      have hb5 : Below w.heap.size w w5 := hb4.grown h2 hb4.size (fun k hk => by have := (hown.lt k hk).1; omega)
      have hb5' : Below (g + 1) w3 w5 := ((Below.refl (g + 1) w3).alloc (by omega) _).grown h2 hte (fun k hk => (hown.lt k hk).1)
      have hA5 := ((HA3.out.mono (below_alloc (Below.refl _ _) (.cells #[.int .u64 (r : Int)] 23))).grown h2 hgl4 hne)
      have hF5 := ((HF3.out.mono (below_alloc (Below.refl _ _) (.cells #[.int .u64 (r : Int)] 23)) hgl).grown h2 hgl4 hne)
      have HT5 := Lib.hid (HT3.out.monoB hb5' (by omega)); have HB5 := Lib.hid hb5; have H1 := Lib.hid h1; have HF5 := Lib.hid hF5
      have htr := trim_any g o2 c2 ws w5 hA5 HW.out.2.2.1 (by have := HW.out.2.1; omega) (by have := HW.out.2.1; omega)
      rw [HW.out.2.1] at htr
      have HTR := Lib.hid htr; have HA5 := Lib.hid hA5
      have hsz5 : g + 1 ≤ w5.heap.size := by have := hb5'.size; omega
      clear h1 h2 hgl4 hb4 hb5 hb5' hA5 hF5 htr hown hte hln hne HA3 HF3 HB3 HT3 hgl
      go_wp2_with fail
      refine HTR.out.mono ?_
      rintro e w6 ⟨rfl, rfl, htk⟩
      rw [HW.out.2.2.2] at htk ⊢
      obtain ⟨l2, hl2⟩ : ∃ l2, l2 = (digs (2 ^ 64) (N / 10000000000000000000)).length := ⟨_, rfl⟩
      rw [← hl2] at htk ⊢
      have hll : l2 ≤ lr := by
        have := congrArg List.length htk
        rw [List.length_take, ← hl2] at this
        have := HW.out.2.1
        omega
      have hA6 := HA5.out.take l2
      rw [htk] at hA6
      have HL2 := Lib.hid hl2
      have HA6 := Lib.hid hA6
      clear htk hA6 HTR HA5 hl2
      go_wp2
      go_roundg (N / 10000000000000000000)
      case measure =>
        have h1 := HK.out.1; have h2 := HN.out
        have : N / 10000000000000000000 < N := Nat.div_lt_self (by omega) (by omega)
        omega
      case rel =>
        have hk := HK.out
        refine ⟨N / 10000000000000000000, l2, cs ++ [r], rfl, by omega, by rw [List.length_append, List.length_singleton]; omega, Lib.hid ⟨rfl, HL2.out, ?_, ?_, ?_, fun h => ?_⟩, Lib.hid ⟨HA6.out, fun i hi => HF5.out i (by omega)⟩, H1, Lib.hid ⟨HB5.out, HT5.out, hsz5⟩⟩
        · rw [List.length_append, List.length_singleton]; exact chunks_next hk.2.2.1
        · intro x hx
          rcases List.mem_append.1 hx with hx | hx
          · exact hk.2.2.2.1 x hx
          · rw [List.mem_singleton.1 hx]; exact hrb
        · rw [chk_snoc, HW.out.1, Nat.mod_add_div]; exact hk.2.2.2.2.1
        · rw [last_snoc, HW.out.1]
          have := HN.out
          omega

set_option maxRecDepth 100000 in
set_option maxHeartbeats 1000000 in
theorem text_below (n : Nat) (w : World) (hn : n < 2 ^ 64) (ht : TabP w) :
    Calls Tryz.prog 31 #[.agg #[.int .u64 (n : Int), .slice none 0 0]] w fun e w' => e = .returned (decS n) ∧ Below w.heap.size w w' := by
  have HT := Lib.hid ht
  have hn2 : n < 18446744073709551616 := hn
  clear ht hn
  go_enter Tryz.func31, Tryz.ntmps31
  go_wp2_with fail
  refine (short_yes _ _ _ _).mono ?_
  rintro e w1 ⟨rfl, hb⟩
  obtain ⟨hc, hf⟩ := bcell hb
  have hB1 := (below_alloc (Below.refl w.heap.size w) (.cells #[.int .u64 (n : Int), .slice none 0 0] 26)).trans (hb.mono (by simp only [World.alloc, Array.size_push]; omega))
  have HB1 := Lib.hid hB1; have HT1 := Lib.hid (HT.out.mono hB1)
  clear hb hB1
  go_wp2_with fail
  refine (fmt_any n w1 hn2 HT1.out).mono ?_
  rintro e w2 ⟨rfl, hb2⟩
  have HB2 := Lib.hid (below_step HB1.out hb2)
  clear hb2
  go_wp2
  go_ret
  exact ⟨rfl, HB2.out⟩
theorem text_any (n : Nat) (s : Int) (p : Option Addr) (l c : Nat) (w : World) (h : IsN w s p l c n) (hl : (ds n).length ≤ 1000) (ht : TabP w) :
    Calls Tryz.prog 31 #[.agg #[.int .u64 s, .slice p l c]] w fun e w' => e = .returned (decS n) ∧ Below w.heap.size w w' := by
  rcases h with ⟨h1, rfl, rfl, rfl, rfl⟩ | ⟨h1, rfl, b, off, rfl, h4, h5, h6⟩
  · exact text_below n w h1 ht
  · exact text_long n b off l c w h1 h4 (by omega) h6 ht
end Go.Proofs.YtfjjmhbffbhhdaaGreatDoor
