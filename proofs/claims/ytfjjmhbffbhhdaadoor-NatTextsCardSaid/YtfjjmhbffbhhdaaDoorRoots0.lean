/- The examples of chapter 1. -/
import Derived.Test.YtfjjmhbffbhhdaaDoorRoot
import Derived.Test.YtfjjmhbffbhhdaaDoorQNum
import Derived.Test.YtfjjmhbffbhhdaaDoorMove
import Derived.Test.YtfjjmhbffbhhdaaDoorShiftS
import Derived.Test.YtfjjmhbffbhhdaaDoorDivN
namespace Go.Proofs.YtfjjmhbffbhhdaaDoor
open Go.RowKit

set_option maxRecDepth 100000 in
set_option maxHeartbeats 400000 in
theorem small_1 (w : World) : Calls Tryd.prog 39 #[.int .u64 1, .int .i64 10] w fun e w' => e = .returned (.string ⟨#[49]⟩) ∧ w = w' := by
  go_enter Tryd.func39, Tryd.ntmps39
  go_wp2
  go_ret
  exact ⟨rfl, rfl⟩
set_option maxRecDepth 100000 in
set_option maxHeartbeats 400000 in
theorem small_3 (w : World) : Calls Tryd.prog 39 #[.int .u64 3, .int .i64 10] w fun e w' => e = .returned (.string ⟨#[51]⟩) ∧ w = w' := by
  go_enter Tryd.func39, Tryd.ntmps39
  go_wp2
  go_ret
  exact ⟨rfl, rfl⟩
set_option maxRecDepth 100000 in
set_option maxHeartbeats 400000 in
theorem small_4 (w : World) : Calls Tryd.prog 39 #[.int .u64 4, .int .i64 10] w fun e w' => e = .returned (.string ⟨#[52]⟩) ∧ w = w' := by
  go_enter Tryd.func39, Tryd.ntmps39
  go_wp2
  go_ret
  exact ⟨rfl, rfl⟩

set_option maxHeartbeats 400000 in
theorem text_short (n : Int) (t : ByteArray) (w : World) (H : ∀ w, Calls Tryd.prog 39 #[.int .u64 n, .int .i64 10] w fun e w' => e = .returned (.string t) ∧ w = w') :
    Calls Tryd.prog 14 #[.agg #[.int .u64 n, .slice none 0 0]] w fun e w' => e = .returned (.string t) ∧ Below w.heap.size w w' := by
  have HH := Lib.hid H; clear H
  go_enter Tryd.func14, Tryd.ntmps14
  go_wp2_with fail
  refine (short_yes _ _ _ _).mono ?_
  rintro e w1 ⟨rfl, hb⟩
  obtain ⟨hc, hf⟩ := bcell hb
  go_wp2_with fail
  refine (HH.out w1).mono ?_
  rintro e w2 ⟨rfl, rfl⟩
  go_wp2
  go_ret
  exact ⟨rfl, (by repeat' first | exact Below.refl _ _ | refine below_alloc ?_ _ | refine below_step ?_ (by assumption))⟩

set_option maxHeartbeats 400000 in
theorem dec_007 (w : World) : Calls Tryd.prog 25 #[.string ⟨#[48, 48, 55]⟩] w fun e w' => e = .returned (.bool false) ∧ w = w' := by
  go_enter Tryd.func25, Tryd.ntmps25
  go_wp2
  go_ret
  exact ⟨rfl, rfl⟩

set_option maxHeartbeats 400000 in
theorem parse_no (s : ByteArray) (w : World) (H : ∀ w, Calls Tryd.prog 25 #[.string s] w fun e w' => e = .returned (.bool false) ∧ w = w') :
    Calls Tryd.prog 5 #[.string s] w fun e w' => e = .returned (.tuple #[.agg #[.int .u64 0, .slice none 0 0], .bool false]) ∧ Below w.heap.size w w' := by
  have HH := Lib.hid H; clear H
  go_enter Tryd.func5, Tryd.ntmps5
  go_wp2_with fail
  refine (HH.out _).mono ?_
  rintro e w2 ⟨rfl, rfl⟩
  go_wp2
  exact bodyPost_ret (v := .tuple #[.agg #[.int .u64 0, .slice none 0 0], .bool false]) (by simp [results, Tryd.results5, go_sem]) rfl ⟨rfl, below_alloc (Below.refl _ _) _⟩

theorem ds_17 : (ds 17).length = 1 := ds_one (by omega)

theorem bitLen_17 : bitLen 17 = 5 := by
  unfold bitLen
  rw [if_neg (by omega)]
  decide

theorem root_17 (w : World) : Calls Tryd.prog 13 #[.agg #[.int .u64 17, .slice none 0 0]] w (RetN w 4) := by
  refine root_of 17 4 3 (by omega) (by omega) (by omega) (by rw [bitLen_17]) (by rw [ds_17]; omega) (by rw [ds_one (by omega)]; omega) (fun w => ?_) (fun w s p l c t q k d x h1 h2 h3 h4 => ?_)
    (fun w s p l c t q k d x y h1 h2 h3 h4 => ?_) (fun w s p l c x h1 h2 => ?_) w ((17 : Nat) : Int) none 0 0 (IsN.short (n := 17) (by omega))
  · exact up_s 1 3 (by omega) (by decide) w
  · rcases h1 with ⟨_, rfl, rfl, rfl, rfl⟩ | ⟨h, _⟩
    · rcases h2 with ⟨_, rfl, rfl, rfl, rfl⟩ | ⟨h, _⟩
      · exact div_ss 17 x (by omega) (by omega) h3 w
      · omega
    · omega
  · rcases h1 with ⟨_, rfl, rfl, rfl, rfl⟩ | ⟨h, _⟩
    · rcases h2 with ⟨_, rfl, rfl, rfl, rfl⟩ | ⟨h, _⟩
      · exact add_ss x y (by omega) (by omega) w
      · omega
    · omega
  · rcases h1 with ⟨_, rfl, rfl, rfl, rfl⟩ | ⟨h, _⟩
    · exact down_s x 1 (by omega) w
    · omega

set_option maxRecDepth 100000 in
set_option maxHeartbeats 1000000 in
theorem known_any (w : World) : Calls Tryd.prog 11 #[] w fun e w' => e = .returned (.bool true) ∧ Below w.heap.size w w' := by
  go_enter Tryd.func11, Tryd.ntmps11
  go_wp2_with fail
  refine (parse_no _ _ dec_007).mono ?_
  rintro e w1 ⟨rfl, hb1⟩
  go_wp2_with fail
  refine (of_any _ _).mono ?_
  rintro e w2 ⟨rfl, hb2⟩
  go_wp2_with fail
  refine (of_any _ _).mono ?_
  rintro e w3 ⟨rfl, hb3⟩
  go_wp2_with fail
  refine (div_ss 7 2 (by omega) (by omega) (by omega) _).mono ?_
  rintro e w4 ⟨s, p, l, c, t, q, k, d, rfl, h1, h2, hb4⟩
  obtain ⟨_, rfl, rfl, rfl, rfl⟩ : 7 / 2 < 2 ^ 64 ∧ s = ((7 / 2 : Nat) : Int) ∧ p = none ∧ l = 0 ∧ c = 0 := h1.resolve_right (fun h => by have := h.1; omega)
  obtain ⟨_, rfl, rfl, rfl, rfl⟩ : 7 % 2 < 2 ^ 64 ∧ t = ((7 % 2 : Nat) : Int) ∧ q = none ∧ k = 0 ∧ d = 0 := h2.resolve_right (fun h => by have := h.1; omega)
  rw [show ((7 / 2 : Nat) : Int) = 3 from rfl, show ((7 % 2 : Nat) : Int) = 1 from rfl]
  go_wp2_with fail
  refine (of_any _ _).mono ?_
  rintro e w5 ⟨rfl, hb5⟩
  obtain ⟨hc5, hf5⟩ := bcell hb5
  go_wp2_with fail
  refine (root_17 _).mono ?_
  rintro e w6 ⟨s, p, l, c, rfl, h1, hb6⟩
  obtain ⟨_, rfl, rfl, rfl, rfl⟩ : 4 < 2 ^ 64 ∧ s = ((4 : Nat) : Int) ∧ p = none ∧ l = 0 ∧ c = 0 := h1.resolve_right (fun h => by have := h.1; omega)
  go_wp2_with fail
  refine (text_short _ _ _ small_4).mono ?_
  rintro e w7 ⟨rfl, hb7⟩
  replace hb7 := below_step (below_step hb5 hb6) hb7
  obtain ⟨hc7, hf7⟩ := bcell hb7
  clear hc5 hf5
  go_wp2_with fail
  refine (text_short _ _ _ small_3).mono ?_
  rintro e w8 ⟨rfl, hb8⟩
  replace hb8 := below_step hb7 hb8
  obtain ⟨hc8, hf8⟩ := bcell hb8
  clear hc7 hf7
  go_wp2_with fail
  refine (text_short _ _ _ small_1).mono ?_
  rintro e w9 ⟨rfl, hb9⟩
  replace hb9 := below_step hb8 hb9
  go_wp2
  go_ret
  refine ⟨rfl, below_step ?_ hb9⟩
  exact (by repeat' first | exact Below.refl _ _ | refine below_alloc ?_ _ | refine below_step ?_ (by assumption))
end Go.Proofs.YtfjjmhbffbhhdaaDoor

/- Two numbers of two arguments, the program's and the document's. -/
namespace Go.Proofs.YtfjjmhbffbhhdaaDoor
open Go.RowKit

def RetTwo (W : World) (m n : Nat) : Ending → World → Prop := fun e w' =>
  ∃ s p l c t q k d p' l' c' q' k' d', e = .returned (.tuple #[.agg #[.int .u64 s, .slice p l c], .agg #[.int .u64 t, .slice q k d], .slice p' l' c', .slice q' k' d']) ∧
    IsN w' s p l c m ∧ IsN w' t q k d n ∧ IsR w' p' l' c' m ∧ IsR w' q' k' d' n ∧ Below W.heap.size W w'

set_option maxHeartbeats 1000000 in
theorem two_any (p q : Option Addr) (l c k d : Nat) (bs cs : List Nat) (w : World) (h1 : IsB w p l c bs) (h2 : IsB w q k d cs) :
    Calls Tryd.prog 18 #[.slice p l c, .slice q k d] w (RetTwo w (nb (bs.take 48)) (nb (cs.take 48))) := by
  have H1 := Lib.hid h1; have H2 := Lib.hid h2
  have hb1 : ∀ x ∈ bs.take 48, x < 256 := fun x hx => h1.2.1 x (List.mem_of_mem_take hx)
  have hb2 : ∀ x ∈ cs.take 48, x < 256 := fun x hx => h2.2.1 x (List.mem_of_mem_take hx)
  have hl1 : (bs.take 48).length ≤ 48 := by rw [List.length_take]; omega
  have hl2 : (cs.take 48).length ≤ 48 := by rw [List.length_take]; omega
  have T1 := Lib.hid (fun w => few_any p l c 48 bs w (by omega))
  have T2 := Lib.hid (fun w => few_any q k d 48 cs w (by omega))
  have D1 := dr_nb _ hb1 (by omega)
  have D2 := dr_nb _ hb2 (by omega)
  generalize bs.take 48 = B1 at *
  generalize cs.take 48 = B2 at *
  have HB1 := Lib.hid hb1; have HB2 := Lib.hid hb2
  clear h1 h2 hb1 hb2
  go_enter Tryd.func18, Tryd.ntmps18
  go_wp2_with fail
  refine (T1.out _ (H1.out.mono (below_alloc (below_alloc (Below.refl _ _) _) _))).mono ?_
  rintro e w1 ⟨g1, o1, c1, rfl, x1, x2, x3, x4, hb⟩
  obtain ⟨hc, hf⟩ := bcell hb
  have X3 := Lib.hid x3; clear x3 x4
  go_wp2_with fail
  refine (rFrom_any g1 o1 c1 _ B1 w1 rfl (by omega) X3.out HB1.out).mono ?_
  rintro e w2 ⟨p1, l1, e1, rfl, r1, hb2⟩
  have R1 := Lib.hid r1; clear r1
  replace hb := below_step hb hb2
  clear hc hf hb2
  obtain ⟨hc, hf⟩ := bcell hb
  have HBa : Below w.heap.size w w2 := (by repeat' first | exact Below.refl _ _ | refine below_alloc ?_ _ | refine below_step ?_ (by assumption))
  have HB := Lib.hid HBa; clear HBa
  go_wp2_with fail
  refine (T2.out _ (H2.out.mono HB.out)).mono ?_
  rintro e w3 ⟨g2, o2, c2, rfl, y1, y2, y3, y4, hb2⟩
  have Y3 := Lib.hid y3; clear y3 y4
  have R1 := Lib.hid (R1.out.mono hb2)
  have HB := Lib.hid (below_step HB.out hb2)
  replace hb := below_step hb hb2
  clear hc hf hb2
  obtain ⟨hc, hf⟩ := bcell hb
  go_wp2_with fail
  refine (rFrom_any g2 o2 c2 _ B2 w3 rfl (by omega) Y3.out HB2.out).mono ?_
  rintro e w4 ⟨p2, l2, e2, rfl, r2, hb2⟩
  have R2 := Lib.hid r2; clear r2
  have R1 := Lib.hid (R1.out.mono hb2)
  have HB := Lib.hid (below_step HB.out hb2)
  replace hb := below_step hb hb2
  clear hc hf hb2
  obtain ⟨hc, hf⟩ := bcell hb
  go_wp2_with fail
  refine (hNat_any (nb B1) p1 l1 e1 w4 R1.out (by omega)).mono ?_
  rintro e w5 ⟨s5, p5, l5, c5, rfl, n5, hb2⟩
  have N5 := Lib.hid n5; clear n5
  have R1 := Lib.hid (R1.out.mono hb2)
  have R2 := Lib.hid (R2.out.mono hb2)
  have HB := Lib.hid (below_step HB.out hb2)
  replace hb := below_step hb hb2
  clear hc hf hb2
  obtain ⟨hc, hf⟩ := bcell hb
  go_wp2_with fail
  refine (hNat_any (nb B2) p2 l2 e2 w5 R2.out (by omega)).mono ?_
  rintro e w6 ⟨s6, p6, l6, c6, rfl, n6, hb2⟩
  have N6 := Lib.hid n6; clear n6
  have N5 := Lib.hid (N5.out.mono hb2)
  have R1 := Lib.hid (R1.out.mono hb2)
  have R2 := Lib.hid (R2.out.mono hb2)
  have HB := Lib.hid (below_step HB.out hb2)
  replace hb := below_step hb hb2
  clear hc hf hb2
  obtain ⟨hc, hf⟩ := bcell hb
  have a0 : w6.cell? ⟨w.heap.size, 0, none⟩ = some (.int .u64 0) := by simp [hc, go_sem]
  have a1 : w6.cell? ⟨w.heap.size, 1, none⟩ = some (.slice none 0 0) := by simp [hc, go_sem]
  have b0 : w6.cell? ⟨w.heap.size + 1, 0, none⟩ = some (.int .u64 0) := by simp [hc, go_sem]
  have b1 : w6.cell? ⟨w.heap.size + 1, 1, none⟩ = some (.slice none 0 0) := by simp [hc, go_sem]
  have fa0 : w6.frozen? ⟨w.heap.size, 0, none⟩ = false := by simp [hf, go_sem]
  have fa1 : w6.frozen? ⟨w.heap.size, 1, none⟩ = false := by simp [hf, go_sem]
  have fb0 : w6.frozen? ⟨w.heap.size + 1, 0, none⟩ = false := by simp [hf, go_sem]
  have fb1 : w6.frozen? ⟨w.heap.size + 1, 1, none⟩ = false := by simp [hf, go_sem]
  clear hc hf hb
  go_wp2
  have HBB : Below w.heap.size w ((((w6.setCell ⟨w.heap.size, 0, none⟩ (.int .u64 s5)).setCell ⟨w.heap.size, 1, none⟩ (.slice p5 l5 c5)).setCell ⟨w.heap.size + 1, 0, none⟩ (.int .u64 s6)).setCell ⟨w.heap.size + 1, 1, none⟩ (.slice p6 l6 c6)) :=
    (((HB.out.setCell (by simp) _).setCell (by simp) _).setCell (by simp) _).setCell (by simp) _
  have N5' := N5.out.box (u := .int .u64 s5) (v := .slice p5 l5 c5) a1
  have N6' := N6.out.box (u := .int .u64 s5) (v := .slice p5 l5 c5) a1
  have R1' := R1.out.box (u := .int .u64 s5) (v := .slice p5 l5 c5) a0 a1
  have R2' := R2.out.box (u := .int .u64 s5) (v := .slice p5 l5 c5) a0 a1
  have b0' : ((w6.setCell ⟨w.heap.size, 0, none⟩ (.int .u64 s5)).setCell ⟨w.heap.size, 1, none⟩ (.slice p5 l5 c5)).cell? ⟨w.heap.size + 1, 0, none⟩ = some (.int .u64 0) := by simp [go_sem, b0]
  have b1' : ((w6.setCell ⟨w.heap.size, 0, none⟩ (.int .u64 s5)).setCell ⟨w.heap.size, 1, none⟩ (.slice p5 l5 c5)).cell? ⟨w.heap.size + 1, 1, none⟩ = some (.slice none 0 0) := by simp [go_sem, b1]
  refine bodyPost_ret (v := .tuple #[.agg #[.int .u64 s5, .slice p5 l5 c5], .agg #[.int .u64 s6, .slice p6 l6 c6], .slice p1 l1 e1, .slice p2 l2 e2]) (by simp [results, Tryd.results18, go_sem, a0, a1, b0, b1]) rfl
    ⟨s5, p5, l5, c5, s6, p6, l6, c6, p1, l1, e1, p2, l2, e2, rfl, N5'.box b1', N6'.box b1', R1'.box b0' b1', R2'.box b0' b1', HBB⟩
end Go.Proofs.YtfjjmhbffbhhdaaDoor

/- What the laws over two numbers share. -/
namespace Go.Proofs.YtfjjmhbffbhhdaaDoor
end Go.Proofs.YtfjjmhbffbhhdaaDoor

/- Numbers of any length moved by bits. -/
namespace Go.Proofs.YtfjjmhbffbhhdaaDoor
open Go.RowKit

set_option maxHeartbeats 1000000 in
theorem trim_none (w : World) : Calls Tryd.prog 40 #[.slice none 0 0] w fun e w' => w = w' ∧ e = .returned (.slice none 0 0) := by
  go_enter Tryd.func40, Tryd.ntmps40
  go_wp2
  go_loopw [3] (fun i wr => i = .int .i64 0 ∧ wr = w) (fun _ _ => 0)
  case atStart => exact ⟨rfl, rfl⟩
  case round =>
    obtain ⟨rfl, rfl⟩ := hrel
    go_wp2
    go_ret
    exact ⟨rfl, rfl⟩
theorem ofWords_none (w : World) : Calls Tryd.prog 32 #[.slice none 0 0] w (RetN w 0) := by
  go_enter Tryd.func32, Tryd.ntmps32
  go_wp2_with (go_at_call 40; refine (trim_none _).mono ?_; rintro e w1 ⟨rfl, rfl⟩)
  exact bodyPost_ret (v := .agg #[.int .u64 0, .slice none 0 0]) (by simp [results, Tryd.results32, go_sem]) rfl (RetN.short (n := 0) (by omega) (by repeat' first | exact Below.refl _ _ | refine below_alloc ?_ _ | (refine Below.setCell ?_ (by simp) _)))

set_option maxRecDepth 100000 in
set_option maxHeartbeats 2000000 in
theorem up_long (m n : Nat) (s : Int) (p : Option Addr) (l c : Nat) (w : World) (hm : (ds m).length ≤ 1000000) (hn : n ≤ 100000000) (hl : 0 < l) (h : IsN w s p l c m) :
    Calls Tryd.prog 37 #[.agg #[.int .u64 s, .slice p l c], .int .i64 (n : Int)] w (RetN w (m * 2 ^ n)) := by
  have H := Lib.hid h
  have HU := Lib.hid (fun W b off cc a => shiftUp_any b off cc (ds m).length n ((ds m).length + n / 64 + 1) (ds m) W rfl (ds_pos m) hm hn rfl a (ds_lt m))
  rw [val_ds] at HU
  have hrow : (ds m).length + n / 64 + 1 ≤ 281474976710656 := by omega
  have HR := Lib.hid hrow
  generalize (ds m).length + n / 64 + 1 = lr at *
  clear h hrow
  go_enter Tryd.func37, Tryd.ntmps37
  go_wp2_with fail
  refine (short_no _ _ _ _ hl _).mono ?_
  rintro e w1 ⟨rfl, hb1⟩
  obtain ⟨hc1, hf1⟩ := bcell hb1
  have HB1 : Below w.heap.size w w1 := (by repeat' first | exact Below.refl _ _ | refine below_alloc ?_ _ | refine below_step ?_ (by assumption))
  go_wp2_with fail
  refine (list_any m s p l c _ (H.out.mono HB1)).mono ?_
  rintro e w2 ⟨b, off, cc, rfl, e1, e2, hb2⟩
  have E2 := Lib.hid e2
  replace hb2 := below_step hb1 hb2
  obtain ⟨hc2, hf2⟩ := bcell hb2
  clear hc1 hf1 hb1 e2
  go_wp2_with fail
  refine (HU.out _ _ _ _ E2.out).mono ?_
  rintro e w3 ⟨g, zs, cz, rfl, z1, z2, z3, z4, z5, z6, z7, hb3⟩
  have Z1 := Lib.hid z1; have Z3 := Lib.hid z3; have Z4 := Lib.hid z4; have Z6 := Lib.hid z6; have Z2 := Lib.hid z2
  replace hb3 := below_step hb2 hb3
  obtain ⟨hc3, hf3⟩ := bcell hb3
  clear hc2 hf2 hb2 z1 z2 z3 z4 z5 z6 z7 HU
  go_wp2_with fail
  refine (ofWords_any g 0 cz lr zs Z1.out _ Z6.out Z3.out HR.out Z2.out).mono ?_
  rintro e w4 ⟨s1, p1, l1, c1, rfl, n1, hb4⟩
  rw [Z4.out] at n1
  have N1 := Lib.hid n1
  replace hb4 := below_step hb3 hb4
  obtain ⟨hc4, hf4⟩ := bcell hb4
  clear hc3 hf3 hb3 n1
  have HB4 : Below w.heap.size w w4 := (by repeat' first | exact Below.refl _ _ | refine below_alloc ?_ _ | refine below_step ?_ (by assumption))
  have r1 : w4.cell? ⟨w.heap.size + 1, 1, none⟩ = some (.slice none 0 0) := by simp [hc4, go_sem]
  go_wp2
  exact bodyPost_ret (v := .agg #[.int .u64 s1, .slice p1 l1 c1]) (by simp [results, Tryd.results37, go_sem, hc4]) rfl ⟨s1, p1, l1, c1, rfl, N1.out.box r1, (by repeat' first | exact HB4 | (refine Below.setCell ?_ (by simp) _))⟩
set_option maxRecDepth 100000 in
set_option maxHeartbeats 2000000 in
theorem up_over (m n : Nat) (w : World) (hm2 : m < 2 ^ 64) (hbig : 64 < bitLen m + n) (hn : n ≤ 100000000) :
    Calls Tryd.prog 37 #[.agg #[.int .u64 (m : Int), .slice none 0 0], .int .i64 (n : Int)] w (RetN w (m * 2 ^ n)) := by
  have H := Lib.hid (fun W => IsN.short (w := W) hm2)
  have hm : (ds m).length ≤ 1000000 := by rw [ds_one hm2]; omega
  have hbl : bitLen m ≤ 64 := bitLen_lt_pow.1 hm2
  have HLEN := Lib.hid (len64_any m hm2)
  have HU := Lib.hid (fun W b off cc a => shiftUp_any b off cc (ds m).length n ((ds m).length + n / 64 + 1) (ds m) W rfl (ds_pos m) hm hn rfl a (ds_lt m))
  rw [val_ds] at HU
  have hrow : (ds m).length + n / 64 + 1 ≤ 281474976710656 := by omega
  have HR := Lib.hid hrow
  generalize (ds m).length + n / 64 + 1 = lr at *
  have d1 : ¬ ((bitLen m : Nat) : Int) + n ≤ 64 := by omega
  generalize bitLen m = bl at *
  clear hrow hm hbig hm2
  go_enter Tryd.func37, Tryd.ntmps37
  go_wp2_with fail
  refine (short_yes _ _ _ _).mono ?_
  rintro e w1 ⟨rfl, hb1⟩
  obtain ⟨hc1, hf1⟩ := bcell hb1
  have HB1 : Below w.heap.size w w1 := (by repeat' first | exact Below.refl _ _ | refine below_alloc ?_ _ | refine below_step ?_ (by assumption))
  go_wp2_with (go_at_call 36; refine (HLEN.out _).mono ?_; rintro e w2 ⟨rfl, rfl⟩)
  refine (list_any m _ none 0 0 _ (H.out _)).mono ?_
  rintro e w2 ⟨b, off, cc, rfl, e1, e2, hb2⟩
  have E2 := Lib.hid e2
  replace hb2 := below_step hb1 hb2
  obtain ⟨hc2, hf2⟩ := bcell hb2
  clear hc1 hf1 hb1 e2
  go_wp2_with fail
  refine (HU.out _ _ _ _ E2.out).mono ?_
  rintro e w3 ⟨g, zs, cz, rfl, z1, z2, z3, z4, z5, z6, z7, hb3⟩
  have Z1 := Lib.hid z1; have Z3 := Lib.hid z3; have Z4 := Lib.hid z4; have Z6 := Lib.hid z6; have Z2 := Lib.hid z2
  replace hb3 := below_step hb2 hb3
  obtain ⟨hc3, hf3⟩ := bcell hb3
  clear hc2 hf2 hb2 z1 z2 z3 z4 z5 z6 z7 HU
  go_wp2_with fail
  refine (ofWords_any g 0 cz lr zs Z1.out _ Z6.out Z3.out HR.out Z2.out).mono ?_
  rintro e w4 ⟨s1, p1, l1, c1, rfl, n1, hb4⟩
  rw [Z4.out] at n1
  have N1 := Lib.hid n1
  replace hb4 := below_step hb3 hb4
  obtain ⟨hc4, hf4⟩ := bcell hb4
  clear hc3 hf3 hb3 n1
  have HB4 : Below w.heap.size w w4 := (by repeat' first | exact Below.refl _ _ | refine below_alloc ?_ _ | refine below_step ?_ (by assumption))
  have r1 : w4.cell? ⟨w.heap.size + 1, 1, none⟩ = some (.slice none 0 0) := by simp [hc4, go_sem]
  go_wp2
  exact bodyPost_ret (v := .agg #[.int .u64 s1, .slice p1 l1 c1]) (by simp [results, Tryd.results37, go_sem, hc4]) rfl ⟨s1, p1, l1, c1, rfl, N1.out.box r1, (by repeat' first | exact HB4 | (refine Below.setCell ?_ (by simp) _))⟩

theorem up_any (m n : Nat) (s : Int) (p : Option Addr) (l c : Nat) (w : World) (hm : (ds m).length ≤ 1000000) (hn : n ≤ 100000000) (h : IsN w s p l c m) :
    Calls Tryd.prog 37 #[.agg #[.int .u64 s, .slice p l c], .int .i64 (n : Int)] w (RetN w (m * 2 ^ n)) := by
  rcases Nat.eq_zero_or_pos l with hl | hl
  · obtain ⟨rfl, rfl, rfl, hm2⟩ := word_of h hl
    subst hl
    rcases Nat.lt_or_ge 64 (bitLen m + n) with h2 | h2
    · exact up_over m n w hm2 h2 hn
    · exact up_s m n hm2 h2 w
  · exact up_long m n s p l c w hm hn hl h

set_option maxRecDepth 100000 in
set_option maxHeartbeats 2000000 in
theorem down_long (m n : Nat) (s : Int) (p : Option Addr) (l c : Nat) (w : World) (hm : (ds m).length ≤ 1000000) (hn : n ≤ 100000000) (hl : 0 < l) (h : IsN w s p l c m) :
    Calls Tryd.prog 38 #[.agg #[.int .u64 s, .slice p l c], .int .i64 (n : Int)] w (RetN w (m / 2 ^ n)) := by
  obtain ⟨hm64, rfl, b, off, rfl, hl2, hlc, ha⟩ := h.row hl
  have HSD := Lib.hid (fun W a => shiftDown_any b off c l n (ds m) W hl2.symm hlc (by omega) hn a (ds_lt m))
  rw [val_ds] at HSD
  have HA := Lib.hid ha
  have HLL : Hid (l ≤ 1000000) := Lib.hid (by omega)
  clear h ha hm64 hl2 hm
  go_enter Tryd.func38, Tryd.ntmps38
  go_wp2_with fail
  refine (short_no _ _ _ _ hl _).mono ?_
  rintro e w1 ⟨rfl, hb1⟩
  obtain ⟨hc1, hf1⟩ := bcell hb1
  have HB1 : Below w.heap.size w w1 := (by repeat' first | exact Below.refl _ _ | refine below_alloc ?_ _ | refine below_step ?_ (by assumption))
  go_wp2_with fail
  refine (HSD.out _ (HA.out.mono HB1)).mono ?_
  rintro e w2 ⟨q, k, d, zs, rfl, z1, z2, z3, z4, z5, hb2⟩
  replace hb2 := below_step hb1 hb2
  obtain ⟨hc2, hf2⟩ := bcell hb2
  have HOW : Calls Tryd.prog 32 #[.slice q k d] w2 (RetN w2 (m / 2 ^ n)) := by
    rcases z5 with ⟨rfl, rfl, rfl, _⟩ | ⟨g, o, rfl, z6, z7⟩
    · have : zs = [] := List.eq_nil_of_length_eq_zero z1
      subst this
      rw [← z4]
      exact ofWords_none w2
    · have := ofWords_any g o d k zs z1 w2 z7 z3 (by have := HLL.out; omega) z6
      rwa [z4] at this
  have HO := Lib.hid HOW
  clear hc1 hf1 hb1 z1 z2 z3 z4 z5 HSD HOW
  go_wp2_with fail
  refine HO.out.mono ?_
  rintro e w4 ⟨s1, p1, l1, c1, rfl, n1, hb4⟩
  have N1 := Lib.hid n1
  replace hb4 := below_step hb2 hb4
  obtain ⟨hc4, hf4⟩ := bcell hb4
  clear hc2 hf2 hb2 n1
  have HB4 : Below w.heap.size w w4 := (by repeat' first | exact Below.refl _ _ | refine below_alloc ?_ _ | refine below_step ?_ (by assumption))
  have r1 : w4.cell? ⟨w.heap.size + 1, 1, none⟩ = some (.slice none 0 0) := by simp [hc4, go_sem]
  go_wp2
  exact bodyPost_ret (v := .agg #[.int .u64 s1, .slice p1 l1 c1]) (by simp [results, Tryd.results38, go_sem, hc4]) rfl ⟨s1, p1, l1, c1, rfl, N1.out.box r1, (by repeat' first | exact HB4 | (refine Below.setCell ?_ (by simp) _))⟩

theorem down_any (m n : Nat) (s : Int) (p : Option Addr) (l c : Nat) (w : World) (hm : (ds m).length ≤ 1000000) (hn : n ≤ 100000000) (h : IsN w s p l c m) :
    Calls Tryd.prog 38 #[.agg #[.int .u64 s, .slice p l c], .int .i64 (n : Int)] w (RetN w (m / 2 ^ n)) := by
  rcases Nat.eq_zero_or_pos l with hl | hl
  · obtain ⟨rfl, rfl, rfl, hm2⟩ := word_of h hl
    subst hl
    exact down_s m n hm2 w
  · exact down_long m n s p l c w hm hn hl h

set_option maxHeartbeats 1000000 in
theorem shift_down (m n : Nat) (s : Int) (p : Option Addr) (l c : Nat) (w : World) (hm : (ds m).length ≤ 1000000) (h0 : 0 < n) (hn : n ≤ 65536) (h : IsN w s p l c m) :
    Calls Tryd.prog 17 #[.agg #[.int .u64 s, .slice p l c], .int .i64 (-(n : Int))] w (RetN w (m / 2 ^ n)) := by
  have HU := Lib.hid (fun W a => down_any m n s p l c W hm (by omega) a)
  have H := Lib.hid h
  obtain ⟨z, hz⟩ : ∃ z : Int, z = -(n : Int) := ⟨_, rfl⟩
  rw [← hz]
  have hmax : max z (-65536) = z := by omega
  have hneg : -z = (n : Int) := by omega
  have i0 : z < 0 := by omega
  clear h hm hz h0
  go_enter Tryd.func17, Tryd.ntmps17
  go_wp2_with fail
  refine (HU.out _ (H.out.mono (by repeat' first | exact Below.refl _ _ | refine below_alloc ?_ _))).mono ?_
  rintro e w4 ⟨s1, p1, l1, c1, rfl, n1, hb4⟩
  have N1 := Lib.hid n1
  obtain ⟨hc4, hf4⟩ := bcell hb4
  clear n1
  have HB4 : Below w.heap.size w w4 := (by repeat' first | exact Below.refl _ _ | refine below_alloc ?_ _ | refine below_step ?_ (by assumption))
  have r1 : w4.cell? ⟨w.heap.size + 1, 1, none⟩ = some (.slice none 0 0) := by simp [hc4, go_sem]
  go_wp2
  exact bodyPost_ret (v := .agg #[.int .u64 s1, .slice p1 l1 c1]) (by simp [results, Tryd.results17, go_sem, hc4]) rfl ⟨s1, p1, l1, c1, rfl, N1.out.box r1, (by repeat' first | exact HB4 | (refine Below.setCell ?_ (by simp) _))⟩
end Go.Proofs.YtfjjmhbffbhhdaaDoor

/- Roots of any number; boxes; the moves and the root in the words of an open statement. -/
namespace Go.Proofs.YtfjjmhbffbhhdaaDoor
open Go.RowKit

theorem ds_pow (K : Nat) : (ds (2 ^ K)).length ≤ K / 64 + 1 := by
  refine ds_le (by omega) ?_
  rw [← Nat.pow_mul]
  exact Nat.pow_lt_pow_right (by omega) (by omega)

theorem root_any (n r : Nat) (s : Int) (p : Option Addr) (l c : Nat) (w : World) (hr : r * r ≤ n) (hr2 : n < (r + 1) * (r + 1)) (hn : (ds n).length ≤ 200000) (h : IsN w s p l c n) :
    Calls Tryd.prog 13 #[.agg #[.int .u64 s, .slice p l c]] w (RetN w r) := by
  by_cases h0 : n = 0
  · subst h0
    have : r = 0 := by
      rcases Nat.eq_zero_or_pos r with h | h
      · exact h
      · have : 1 * 1 ≤ r * r := Nat.mul_le_mul h h
        omega
    subst this
    exact root_zero w s p l c h
  · have hb : bitLen n ≤ 64 * (ds n).length := by
      apply bitLen_lt_pow.1
      rw [Nat.pow_mul]
      exact lt_ds n
    obtain ⟨K, hK⟩ : ∃ K, K = (bitLen n + 1) / 2 := ⟨_, rfl⟩
    have hp := ds_pow K
    have hd1 := ds_add (2 ^ K) n
    have hpos := ds_pos n
    refine root_of n r K hr hr2 h0 hK (by omega) (by omega) (fun w => ?_) (fun w s p l c t q k d x h1 h2 h3 _ => div_any s t p q l c k d n x w (by omega) h3 h1 h2)
      (fun w s p l c t q k d x y h1 h2 h3 h4 => add_any s t p q l c k d x y w (Nat.le_trans (ds_mono h3) (by omega)) (Nat.le_trans (ds_mono h4) (by omega)) h1 h2)
      (fun w s p l c x h1 h2 => ?_) w s p l c h
    · have := up_any 1 K 1 none 0 0 w (by rw [ds_one (by omega)]; omega) (by omega) (Or.inl ⟨by omega, rfl, rfl, rfl, rfl⟩)
      rwa [Nat.one_mul] at this
    · have := down_any x 1 s p l c w (Nat.le_trans (ds_mono h2) (by omega)) (by omega) h1
      exact this

theorem root_want (w : World) (u : Value) (n r : Nat) (hr : r * r ≤ n) (hr2 : n < (r + 1) * (r + 1)) (hn : (ds n).length ≤ 200000) (h1 : Num w u n) :
    Calls Tryd.prog 13 #[u] w fun e w' => ∃ v', e = .returned v' ∧ Num w' v' r ∧ Below w.heap.size w w' := by
  obtain ⟨s, p, l, c, rfl, h1⟩ := h1
  exact (root_any n r s p l c w hr hr2 hn h1).mono fun _ _ h => h.want
end Go.Proofs.YtfjjmhbffbhhdaaDoor
