/- Numbers of any length moved by bits. -/
import Derived.Test.YtmhpaadanpianaaDoorMove
import Derived.Test.YtmhpaadanpianaaDoorShiftS
import Derived.Test.YtmhpaadanpianaaDoorDivN
namespace Go.Proofs.YtmhpaadanpianaaDoor
open Go.RowKit

set_option maxHeartbeats 1000000 in
theorem trim_none (w : World) : Calls Tryd.prog 56 #[.slice none 0 0] w fun e w' => w = w' ∧ e = .returned (.slice none 0 0) := by
  go_enter Tryd.func56, Tryd.ntmps56
  go_wp2
  go_loopw [3] (fun i wr => i = .int .i64 0 ∧ wr = w) (fun _ _ => 0)
  case atStart => exact ⟨rfl, rfl⟩
  case round =>
    obtain ⟨rfl, rfl⟩ := hrel
    go_wp2
    go_ret
    exact ⟨rfl, rfl⟩
theorem ofWords_none (w : World) : Calls Tryd.prog 48 #[.slice none 0 0] w (RetN w 0) := by
  go_enter Tryd.func48, Tryd.ntmps48
  go_wp2_with (go_at_call 56; refine (trim_none _).mono ?_; rintro e w1 ⟨rfl, rfl⟩)
  exact bodyPost_ret (v := .agg #[.int .u64 0, .slice none 0 0]) (by simp [results, Tryd.results48, go_sem]) rfl (RetN.short (n := 0) (by omega) (by repeat' first | exact Below.refl _ _ | refine below_alloc ?_ _ | (refine Below.setCell ?_ (by simp) _)))

set_option maxRecDepth 100000 in
set_option maxHeartbeats 2000000 in
theorem up_long (m n : Nat) (s : Int) (p : Option Addr) (l c : Nat) (w : World) (hm : (ds m).length ≤ 1000000) (hn : n ≤ 100000000) (hl : 0 < l) (h : IsN w s p l c m) :
    Calls Tryd.prog 53 #[.agg #[.int .u64 s, .slice p l c], .int .i64 (n : Int)] w (RetN w (m * 2 ^ n)) := by
  have H := Lib.hid h
  have HU := Lib.hid (fun W b off cc a => shiftUp_any b off cc (ds m).length n ((ds m).length + n / 64 + 1) (ds m) W rfl (ds_pos m) hm hn rfl a (ds_lt m))
  rw [val_ds] at HU
  have hrow : (ds m).length + n / 64 + 1 ≤ 281474976710656 := by omega
  have HR := Lib.hid hrow
  generalize (ds m).length + n / 64 + 1 = lr at *
  clear h hrow
  go_enter Tryd.func53, Tryd.ntmps53
  go_wp2_with fail
  refine (short_no _ _ _ _ hl _).mono ?_
  rintro e w1 ⟨rfl, hb1⟩
  obtain ⟨hc1, hf1⟩ := bcell hb1
  have HB1 : Below w.heap.size w w1 := (by repeat' first | exact Below.refl _ _ | refine below_alloc ?_ _ | refine below_step ?_ (by assumption))
  go_wp2_with fail
  refine (list_any m s p l c _ (H.out.mono HB1)).mono ?_
  rintro e w2 ⟨b, off, cc, rfl, e1, e2, hb2⟩
  have E2 := Lib.hid e2
  replace hb2 := below_step hb1 hb2
  obtain ⟨hc2, hf2⟩ := bcell hb2
  clear hc1 hf1 hb1 e2
  go_wp2_with fail
  refine (HU.out _ _ _ _ E2.out).mono ?_
  rintro e w3 ⟨g, zs, cz, rfl, z1, z2, z3, z4, z5, z6, z7, hb3⟩
  have Z1 := Lib.hid z1; have Z3 := Lib.hid z3; have Z4 := Lib.hid z4; have Z6 := Lib.hid z6; have Z2 := Lib.hid z2
  replace hb3 := below_step hb2 hb3
  obtain ⟨hc3, hf3⟩ := bcell hb3
  clear hc2 hf2 hb2 z1 z2 z3 z4 z5 z6 z7 HU
  go_wp2_with fail
  refine (ofWords_any g 0 cz lr zs Z1.out _ Z6.out Z3.out HR.out Z2.out).mono ?_
  rintro e w4 ⟨s1, p1, l1, c1, rfl, n1, hb4⟩
  rw [Z4.out] at n1
  have N1 := Lib.hid n1
  replace hb4 := below_step hb3 hb4
  obtain ⟨hc4, hf4⟩ := bcell hb4
  clear hc3 hf3 hb3 n1
  have HB4 : Below w.heap.size w w4 := (by repeat' first | exact Below.refl _ _ | refine below_alloc ?_ _ | refine below_step ?_ (by assumption))
  have r1 : w4.cell? ⟨w.heap.size + 1, 1, none⟩ = some (.slice none 0 0) := by simp [hc4, go_sem]
  go_wp2
  exact bodyPost_ret (v := .agg #[.int .u64 s1, .slice p1 l1 c1]) (by simp [results, Tryd.results53, go_sem, hc4]) rfl ⟨s1, p1, l1, c1, rfl, N1.out.box r1, (by repeat' first | exact HB4 | (refine Below.setCell ?_ (by simp) _))⟩
set_option maxRecDepth 100000 in
set_option maxHeartbeats 2000000 in
theorem up_over (m n : Nat) (w : World) (hm2 : m < 2 ^ 64) (hbig : 64 < bitLen m + n) (hn : n ≤ 100000000) :
    Calls Tryd.prog 53 #[.agg #[.int .u64 (m : Int), .slice none 0 0], .int .i64 (n : Int)] w (RetN w (m * 2 ^ n)) := by
  have H := Lib.hid (fun W => IsN.short (w := W) hm2)
  have hm : (ds m).length ≤ 1000000 := by rw [ds_one hm2]; omega
  have hbl : bitLen m ≤ 64 := bitLen_lt_pow.1 hm2
  have HLEN := Lib.hid (len64_any m hm2)
  have HU := Lib.hid (fun W b off cc a => shiftUp_any b off cc (ds m).length n ((ds m).length + n / 64 + 1) (ds m) W rfl (ds_pos m) hm hn rfl a (ds_lt m))
  rw [val_ds] at HU
  have hrow : (ds m).length + n / 64 + 1 ≤ 281474976710656 := by omega
  have HR := Lib.hid hrow
  generalize (ds m).length + n / 64 + 1 = lr at *
  have d1 : ¬ ((bitLen m : Nat) : Int) + n ≤ 64 := by omega
  generalize bitLen m = bl at *
  clear hrow hm hbig hm2
  go_enter Tryd.func53, Tryd.ntmps53
  go_wp2_with fail
  refine (short_yes _ _ _ _).mono ?_
  rintro e w1 ⟨rfl, hb1⟩
  obtain ⟨hc1, hf1⟩ := bcell hb1
  have HB1 : Below w.heap.size w w1 := (by repeat' first | exact Below.refl _ _ | refine below_alloc ?_ _ | refine below_step ?_ (by assumption))
  go_wp2_with (go_at_call 52; refine (HLEN.out _).mono ?_; rintro e w2 ⟨rfl, rfl⟩)
  refine (list_any m _ none 0 0 _ (H.out _)).mono ?_
  rintro e w2 ⟨b, off, cc, rfl, e1, e2, hb2⟩
  have E2 := Lib.hid e2
  replace hb2 := below_step hb1 hb2
  obtain ⟨hc2, hf2⟩ := bcell hb2
  clear hc1 hf1 hb1 e2
  go_wp2_with fail
  refine (HU.out _ _ _ _ E2.out).mono ?_
  rintro e w3 ⟨g, zs, cz, rfl, z1, z2, z3, z4, z5, z6, z7, hb3⟩
  have Z1 := Lib.hid z1; have Z3 := Lib.hid z3; have Z4 := Lib.hid z4; have Z6 := Lib.hid z6; have Z2 := Lib.hid z2
  replace hb3 := below_step hb2 hb3
  obtain ⟨hc3, hf3⟩ := bcell hb3
  clear hc2 hf2 hb2 z1 z2 z3 z4 z5 z6 z7 HU
  go_wp2_with fail
  refine (ofWords_any g 0 cz lr zs Z1.out _ Z6.out Z3.out HR.out Z2.out).mono ?_
  rintro e w4 ⟨s1, p1, l1, c1, rfl, n1, hb4⟩
  rw [Z4.out] at n1
  have N1 := Lib.hid n1
  replace hb4 := below_step hb3 hb4
  obtain ⟨hc4, hf4⟩ := bcell hb4
  clear hc3 hf3 hb3 n1
  have HB4 : Below w.heap.size w w4 := (by repeat' first | exact Below.refl _ _ | refine below_alloc ?_ _ | refine below_step ?_ (by assumption))
  have r1 : w4.cell? ⟨w.heap.size + 1, 1, none⟩ = some (.slice none 0 0) := by simp [hc4, go_sem]
  go_wp2
  exact bodyPost_ret (v := .agg #[.int .u64 s1, .slice p1 l1 c1]) (by simp [results, Tryd.results53, go_sem, hc4]) rfl ⟨s1, p1, l1, c1, rfl, N1.out.box r1, (by repeat' first | exact HB4 | (refine Below.setCell ?_ (by simp) _))⟩

theorem up_any (m n : Nat) (s : Int) (p : Option Addr) (l c : Nat) (w : World) (hm : (ds m).length ≤ 1000000) (hn : n ≤ 100000000) (h : IsN w s p l c m) :
    Calls Tryd.prog 53 #[.agg #[.int .u64 s, .slice p l c], .int .i64 (n : Int)] w (RetN w (m * 2 ^ n)) := by
  rcases Nat.eq_zero_or_pos l with hl | hl
  · obtain ⟨rfl, rfl, rfl, hm2⟩ := word_of h hl
    subst hl
    rcases Nat.lt_or_ge 64 (bitLen m + n) with h2 | h2
    · exact up_over m n w hm2 h2 hn
    · exact up_s m n hm2 h2 w
  · exact up_long m n s p l c w hm hn hl h

set_option maxRecDepth 100000 in
set_option maxHeartbeats 2000000 in
theorem down_long (m n : Nat) (s : Int) (p : Option Addr) (l c : Nat) (w : World) (hm : (ds m).length ≤ 1000000) (hn : n ≤ 100000000) (hl : 0 < l) (h : IsN w s p l c m) :
    Calls Tryd.prog 54 #[.agg #[.int .u64 s, .slice p l c], .int .i64 (n : Int)] w (RetN w (m / 2 ^ n)) := by
  obtain ⟨hm64, rfl, b, off, rfl, hl2, hlc, ha⟩ := h.row hl
  have HSD := Lib.hid (fun W a => shiftDown_any b off c l n (ds m) W hl2.symm hlc (by omega) hn a (ds_lt m))
  rw [val_ds] at HSD
  have HA := Lib.hid ha
  have HLL : Hid (l ≤ 1000000) := Lib.hid (by omega)
  clear h ha hm64 hl2 hm
  go_enter Tryd.func54, Tryd.ntmps54
  go_wp2_with fail
  refine (short_no _ _ _ _ hl _).mono ?_
  rintro e w1 ⟨rfl, hb1⟩
  obtain ⟨hc1, hf1⟩ := bcell hb1
  have HB1 : Below w.heap.size w w1 := (by repeat' first | exact Below.refl _ _ | refine below_alloc ?_ _ | refine below_step ?_ (by assumption))
  go_wp2_with fail
  refine (HSD.out _ (HA.out.mono HB1)).mono ?_
  rintro e w2 ⟨q, k, d, zs, rfl, z1, z2, z3, z4, z5, hb2⟩
  replace hb2 := below_step hb1 hb2
  obtain ⟨hc2, hf2⟩ := bcell hb2
  have HOW : Calls Tryd.prog 48 #[.slice q k d] w2 (RetN w2 (m / 2 ^ n)) := by
    rcases z5 with ⟨rfl, rfl, rfl, _⟩ | ⟨g, o, rfl, z6, z7⟩
    · have : zs = [] := List.eq_nil_of_length_eq_zero z1
      subst this
      rw [← z4]
      exact ofWords_none w2
    · have := ofWords_any g o d k zs z1 w2 z7 z3 (by have := HLL.out; omega) z6
      rwa [z4] at this
  have HO := Lib.hid HOW
  clear hc1 hf1 hb1 z1 z2 z3 z4 z5 HSD HOW
  go_wp2_with fail
  refine HO.out.mono ?_
  rintro e w4 ⟨s1, p1, l1, c1, rfl, n1, hb4⟩
  have N1 := Lib.hid n1
  replace hb4 := below_step hb2 hb4
  obtain ⟨hc4, hf4⟩ := bcell hb4
  clear hc2 hf2 hb2 n1
  have HB4 : Below w.heap.size w w4 := (by repeat' first | exact Below.refl _ _ | refine below_alloc ?_ _ | refine below_step ?_ (by assumption))
  have r1 : w4.cell? ⟨w.heap.size + 1, 1, none⟩ = some (.slice none 0 0) := by simp [hc4, go_sem]
  go_wp2
  exact bodyPost_ret (v := .agg #[.int .u64 s1, .slice p1 l1 c1]) (by simp [results, Tryd.results54, go_sem, hc4]) rfl ⟨s1, p1, l1, c1, rfl, N1.out.box r1, (by repeat' first | exact HB4 | (refine Below.setCell ?_ (by simp) _))⟩

theorem down_any (m n : Nat) (s : Int) (p : Option Addr) (l c : Nat) (w : World) (hm : (ds m).length ≤ 1000000) (hn : n ≤ 100000000) (h : IsN w s p l c m) :
    Calls Tryd.prog 54 #[.agg #[.int .u64 s, .slice p l c], .int .i64 (n : Int)] w (RetN w (m / 2 ^ n)) := by
  rcases Nat.eq_zero_or_pos l with hl | hl
  · obtain ⟨rfl, rfl, rfl, hm2⟩ := word_of h hl
    subst hl
    exact down_s m n hm2 w
  · exact down_long m n s p l c w hm hn hl h

set_option maxHeartbeats 1000000 in
theorem shift_up (m n : Nat) (s : Int) (p : Option Addr) (l c : Nat) (w : World) (hm : (ds m).length ≤ 1000000) (hn : n ≤ 65536) (h : IsN w s p l c m) :
    Calls Tryd.prog 24 #[.agg #[.int .u64 s, .slice p l c], .int .i64 (n : Int)] w (RetN w (m * 2 ^ n)) := by
  have HU := Lib.hid (fun W a => up_any m n s p l c W hm (by omega) a)
  have H := Lib.hid h
  have hmin : min (n : Int) 65536 = n := by omega
  clear h hm
  go_enter Tryd.func24, Tryd.ntmps24
  go_wp2_with fail
  refine (HU.out _ (H.out.mono (by repeat' first | exact Below.refl _ _ | refine below_alloc ?_ _))).mono ?_
  rintro e w4 ⟨s1, p1, l1, c1, rfl, n1, hb4⟩
  have N1 := Lib.hid n1
  obtain ⟨hc4, hf4⟩ := bcell hb4
  clear n1
  have HB4 : Below w.heap.size w w4 := (by repeat' first | exact Below.refl _ _ | refine below_alloc ?_ _ | refine below_step ?_ (by assumption))
  have r1 : w4.cell? ⟨w.heap.size + 1, 1, none⟩ = some (.slice none 0 0) := by simp [hc4, go_sem]
  go_wp2
  exact bodyPost_ret (v := .agg #[.int .u64 s1, .slice p1 l1 c1]) (by simp [results, Tryd.results24, go_sem, hc4]) rfl ⟨s1, p1, l1, c1, rfl, N1.out.box r1, (by repeat' first | exact HB4 | (refine Below.setCell ?_ (by simp) _))⟩
set_option maxHeartbeats 1000000 in
theorem shift_down (m n : Nat) (s : Int) (p : Option Addr) (l c : Nat) (w : World) (hm : (ds m).length ≤ 1000000) (h0 : 0 < n) (hn : n ≤ 65536) (h : IsN w s p l c m) :
    Calls Tryd.prog 24 #[.agg #[.int .u64 s, .slice p l c], .int .i64 (-(n : Int))] w (RetN w (m / 2 ^ n)) := by
  have HU := Lib.hid (fun W a => down_any m n s p l c W hm (by omega) a)
  have H := Lib.hid h
  obtain ⟨z, hz⟩ : ∃ z : Int, z = -(n : Int) := ⟨_, rfl⟩
  rw [← hz]
  have hmax : max z (-65536) = z := by omega
  have hneg : -z = (n : Int) := by omega
  have i0 : z < 0 := by omega
  clear h hm hz h0
  go_enter Tryd.func24, Tryd.ntmps24
  go_wp2_with fail
  refine (HU.out _ (H.out.mono (by repeat' first | exact Below.refl _ _ | refine below_alloc ?_ _))).mono ?_
  rintro e w4 ⟨s1, p1, l1, c1, rfl, n1, hb4⟩
  have N1 := Lib.hid n1
  obtain ⟨hc4, hf4⟩ := bcell hb4
  clear n1
  have HB4 : Below w.heap.size w w4 := (by repeat' first | exact Below.refl _ _ | refine below_alloc ?_ _ | refine below_step ?_ (by assumption))
  have r1 : w4.cell? ⟨w.heap.size + 1, 1, none⟩ = some (.slice none 0 0) := by simp [hc4, go_sem]
  go_wp2
  exact bodyPost_ret (v := .agg #[.int .u64 s1, .slice p1 l1 c1]) (by simp [results, Tryd.results24, go_sem, hc4]) rfl ⟨s1, p1, l1, c1, rfl, N1.out.box r1, (by repeat' first | exact HB4 | (refine Below.setCell ?_ (by simp) _))⟩
end Go.Proofs.YtmhpaadanpianaaDoor
