/- The document's quotient of integers, rounded down. -/
import Derived.Test.YtjhjlecnjkjbbaaGreatDoorFrm
import Derived.Test.YtjhjlecnjkjbbaaGreatDoorISums2
import Derived.Test.YtjhjlecnjkjbbaaGreatDoorQuot
namespace Go.Proofs.YtjhjlecnjkjbbaaGreatDoor
open Go.RowKit

theorem rDiv_want (w : World) (u v : Value) (m n : Nat) (hm : (ds m).length ≤ 1000) (hn : 0 < n) (h1 : RNum w u m) (h2 : RNum w v n) :
    Calls Tryz.prog 95 #[u, v] w (Gives w (.two (.rnum (m / n)) (.rnum (m % n)))) := by
  obtain ⟨p, l, c, rfl, h1⟩ := h1
  obtain ⟨q, k, d, rfl, h2⟩ := h2
  have := h1.short hm
  exact (rDiv_any p q l k c d m n w (by omega) hn h1 h2).mono fun _ _ ⟨_, _, _, _, _, _, h, a, b, hb⟩ => ⟨_, h, ⟨_, _, rfl, ⟨_, _, _, rfl, a⟩, ⟨_, _, _, rfl, b⟩⟩, hb⟩
theorem rI_gives (w : World) (g : Bool) (u : Value) (n : Nat) (z : Int) (hz : sgn g n = z) (h : RNum w u n) : Calls Tryz.prog 42 #[.bool g, u] w (Gives w (.rint z)) :=
  (rI_want w g u n z hz h).mono fun _ _ ⟨v, h1, h2, h3⟩ => ⟨v, h1, h2, h3⟩
theorem rOf_gives (n : Nat) (hn : n < 2 ^ 64) (w : World) : Calls Tryz.prog 40 #[.int .u64 (n : Int)] w (Gives w (.rnum n)) :=
  (rof_any n hn w).mono fun _ _ h => (RetR.want h)
set_option maxRecDepth 100000 in
theorem rIOf_any (n : Int) (w : World) (h1 : -9223372036854775808 ≤ n) (h2 : n ≤ 9223372036854775807) : Calls Tryz.prog 106 #[.int .i64 n] w (Gives w (.rint n)) := by
  have HF : ∀ (g : Bool) (m : Nat), sgn g m = n → Hid (∀ (p : Option Addr) (l c : Nat) (W : World), IsR W p l c m → Calls Tryz.prog 42 #[.bool g, .slice p l c] W (RetRI W n)) := fun g m hm => Lib.hid (fun p l c W a => by rw [← hm]; exact rI_any g m p l c W a)
  rcases Int.lt_or_le n 0 with hn | hn
  · obtain ⟨m, hm⟩ : ∃ m : Nat, m = n.natAbs := ⟨_, rfl⟩
    have wn : IntKind.u64.wrap (-IntKind.u64.wrap n) = (m : Int) := by rw [IntKind.wrap_u64, IntKind.wrap_u64]; omega
    have HO := Lib.hid (fun W => rof_any m (by omega) W)
    have HG := HF true m (by unfold sgn; rw [if_pos rfl]; omega)
    clear h1 h2 hm HF
    go_enter Tryz.func106, Tryz.ntmps106
    go_wp2_with fail
    refine (HO.out _).mono ?_
    rintro e w1 ⟨p, l, c, rfl, i1, hb⟩
    have I1 := Lib.hid i1
    obtain ⟨hc, hf⟩ := bcell hb
    have r0 : w1.cell? ⟨w.heap.size, 0, none⟩ = some (.bool false) := by simp [hc, go_sem]
    have r1 : w1.cell? ⟨w.heap.size, 1, none⟩ = some (.slice none 0 0) := by simp [hc, go_sem]
    have f0 : w1.frozen? ⟨w.heap.size, 0, none⟩ = false := by simp [hf, go_sem]
    have f1 : w1.frozen? ⟨w.heap.size, 1, none⟩ = false := by simp [hf, go_sem]
    have HB := Lib.hid (below_step (below_alloc (Below.refl w.heap.size w) _) hb)
    have zl : w.heap.size < w1.heap.size := by have := hb.size; simp [go_sem] at this; omega
    clear i1 hb hc hf
    go_wp2_with fail
    refine (HG.out p l c _ I1.out).mono ?_
    rintro e w2 ⟨g3, p3, l3, c3, rfl, i3, hb⟩
    replace f0 := wfree hb r0 f0; replace f1 := wfree hb r1 f1
    replace r0 := wcell hb r0; replace r1 := wcell hb r1
    have I3 := Lib.hid i3
    have HB := Lib.hid (below_step HB.out hb)
    clear i3 hb
    go_wp2
    exact bodyPost_ret (v := .agg #[.bool g3, .slice p3 l3 c3]) (by simp [results, Tryz.results106, go_sem, r0, r1]) rfl ⟨_, rfl, ⟨_, _, _, _, rfl, I3.out.setRint r0 r1⟩, (HB.out.setCell (Nat.le_refl _) _).setCell (Nat.le_refl _) _⟩
  · obtain ⟨m, rfl⟩ := Int.eq_ofNat_of_zero_le hn
    have wn : IntKind.u64.wrap (m : Int) = (m : Int) := by rw [IntKind.wrap_u64]; omega
    have HO := Lib.hid (fun W => rof_any m (by omega) W)
    have HG := HF false m rfl
    have hn' : ¬ (m : Int) < 0 := by omega
    clear h1 h2 HF
    go_enter Tryz.func106, Tryz.ntmps106
    go_wp2_with fail
    refine (HO.out _).mono ?_
    rintro e w1 ⟨p, l, c, rfl, i1, hb⟩
    have I1 := Lib.hid i1
    obtain ⟨hc, hf⟩ := bcell hb
    have r0 : w1.cell? ⟨w.heap.size, 0, none⟩ = some (.bool false) := by simp [hc, go_sem]
    have r1 : w1.cell? ⟨w.heap.size, 1, none⟩ = some (.slice none 0 0) := by simp [hc, go_sem]
    have f0 : w1.frozen? ⟨w.heap.size, 0, none⟩ = false := by simp [hf, go_sem]
    have f1 : w1.frozen? ⟨w.heap.size, 1, none⟩ = false := by simp [hf, go_sem]
    have HB := Lib.hid (below_step (below_alloc (Below.refl w.heap.size w) _) hb)
    clear i1 hb hc hf
    go_wp2_with fail
    refine (HG.out p l c _ I1.out).mono ?_
    rintro e w2 ⟨g3, p3, l3, c3, rfl, i3, hb⟩
    replace f0 := wfree hb r0 f0; replace f1 := wfree hb r1 f1
    replace r0 := wcell hb r0; replace r1 := wcell hb r1
    have I3 := Lib.hid i3
    have HB := Lib.hid (below_step HB.out hb)
    clear i3 hb
    go_wp2
    exact bodyPost_ret (v := .agg #[.bool g3, .slice p3 l3 c3]) (by simp [results, Tryz.results106, go_sem, r0, r1]) rfl ⟨_, rfl, ⟨_, _, _, _, rfl, I3.out.setRint r0 r1⟩, (HB.out.setCell (Nat.le_refl _) _).setCell (Nat.le_refl _) _⟩
theorem run_rDiv : RowKit.Hid (∀ (a : Array Value) (w : World), Sem.run Tryz.prog (callFunc 95 a) w = .ok (.enter 95 a) w) := fun a w => by go_simp
theorem run_rI : RowKit.Hid (∀ (a : Array Value) (w : World), Sem.run Tryz.prog (callFunc 42 a) w = .ok (.enter 42 a) w) := fun a w => by go_simp
theorem run_rIOf : RowKit.Hid (∀ (a : Array Value) (w : World), Sem.run Tryz.prog (callFunc 106 a) w = .ok (.enter 106 a) w) := fun a w => by go_simp
end Go.Proofs.YtjhjlecnjkjbbaaGreatDoor
