/- Sums of rows; products of rows, the longer one first. -/
import Derived.Test.YtfjjmhbffbhhdaaDoorSubFrom
import Derived.Test.YtfjjmhbffbhhdaaDoorCut
import Derived.Test.YtfjjmhbffbhhdaaDoorProduct
namespace Go.Proofs.YtfjjmhbffbhhdaaDoor
open Go.RowKit

theorem size_setCells (b : Nat) : ∀ (vs : List Value) (o : Nat) (w : World), (w.setCells b o vs).heap.size = w.heap.size
  | [], _, _ => rfl
  | v :: r, o, w => by rw [World.setCells, size_setCells b r]; simp [World.setCell]
theorem block_setCells (b : Nat) : ∀ (vs : List Value) (o : Nat) (w : World) (i : Nat), i ≠ b → (w.setCells b o vs).heap[i]? = w.heap[i]?
  | [], _, _, _, _ => rfl
  | v :: r, o, w, i, h => by rw [World.setCells, block_setCells b r _ _ i h]; exact Below.heap_setCell _ _ _ _ h
theorem rest_setCells (b : Nat) : ∀ (vs : List Value) (o : Nat) (w : World), (w.setCells b o vs).os = w.os ∧ (w.setCells b o vs).tape = w.tape ∧ (w.setCells b o vs).output = w.output
  | [], _, _ => ⟨rfl, rfl, rfl⟩
  | v :: r, o, w => by rw [World.setCells]; exact rest_setCells b r _ _

theorem Only.setCells (w : World) (b o n : Nat) (vs : List Value) (h : vs.length ≤ n) : Only w (w.setCells b o vs) b o n := by
  obtain ⟨h1, h2, h3⟩ := rest_setCells b vs o w
  exact ⟨h1, h2, h3, by rw [size_setCells]; exact Nat.le_refl _, fun k _ hk => block_setCells b vs o w k hk, fun x hx => World.cell?_setCells_out b vs o w ⟨b, x, none⟩ (fun _ _ => by show x < o ∨ o + vs.length ≤ x; omega), fun x => World.frozen?_setCells b vs o w _⟩

theorem At.copied {w : World} {k : IntKind} {b o : Nat} {L xs : List Nat} (h : At w k b o L) (hl : xs.length ≤ L.length) : At (w.setCells b o (cellsOfRow k xs)) k b o (xs ++ L.drop xs.length) := by
  have hlen : (cellsOfRow k xs).length = xs.length := by simp [cellsOfRow]
  refine At.append (fun i hi => ?_) ?_
  · rw [World.cell?_setCells_in b (cellsOfRow k xs) o w (fun j hj => by rw [h j (by omega)]; rfl) i (by omega)]
    simp [cellsOfRow, List.getD, hi]
  · exact (h.drop xs.length).onlyOut (Only.setCells w b o xs.length _ (by omega)) (Or.inr (Nat.le_refl _))

theorem copy_row (dT sT ty elem : TypeId) {P : Program} (k : IntKind) (b o dLen dCap bx ox sCap : Nat) (L xs : List Nat) (w : World)
    (hu : P.underlying dT = some (.slice elem)) (hs : (P.info? elem).map (·.size) = some 1) (hd : L.length = dLen) (hl : xs.length ≤ dLen) (h : At w k b o L) (hF : Fr w b o dLen) (hx : At w k bx ox xs) :
    (Builtin.copy_ #[dT, sT] ty #[.slice (some ⟨b, o, none⟩) dLen dCap, .slice (some ⟨bx, ox, none⟩) xs.length sCap]).run P w = .ok (goInt xs.length) (w.setCells b o (cellsOfRow k xs)) := by
  have hlen : (cellsOfRow k xs).length = xs.length := by simp [cellsOfRow]
  have := run_copy_cells (P := P) w dT sT ty elem b o dLen dCap ⟨bx, ox, none⟩ xs.length sCap (cellsOfRow k xs) hu hs (by rw [hlen]; exact (Nat.min_eq_left hl).symm)
    (fun j v hj => by
      have hjl : j < xs.length := by
        rcases Nat.lt_or_ge j xs.length with h | h
        · exact h
        · rw [List.getElem?_eq_none (by rw [hlen]; exact h)] at hj; cases hj
      have hadd : (⟨bx, ox, none⟩ : Addr).add j = ⟨bx, ox + j, none⟩ := by unfold Addr.add; split <;> simp_all
      rw [hadd, hx j hjl, ← hj]
      simp [cellsOfRow, List.getD, hjl])
    (fun j hj => by rw [h j (by omega)]; rfl) (fun j hj => hF j (by omega))
    (fun v hv => by
      simp only [cellsOfRow, List.mem_map] at hv
      obtain ⟨x, _, rfl⟩ := hv
      rfl)
  rwa [hlen] at this

theorem Tryd.sizeU64 : (Tryd.prog.info? 22).map (·.size) = some 1 := by kernel_rfl

theorem sum_fits {b : Nat} (hb : 2 ≤ b) {xs ys zs : List Nat} {c : Nat} (hl : ys.length ≤ xs.length) (hX : ∀ x ∈ xs, x < b) (hY : ∀ x ∈ ys, x < b)
    (h : val b zs + b ^ (xs.length + 1) * c = val b xs + val b ys) : val b zs = val b xs + val b ys := by
  have h1 := val_lt _ xs hX
  have h2 := val_lt _ ys hY
  have h3 : b ^ ys.length ≤ b ^ xs.length := Nat.pow_le_pow_right (by omega) hl
  rw [Nat.pow_succ] at h
  generalize b ^ xs.length = p at *
  by_cases h0 : c = 0
  · subst h0; omega
  · exfalso
    have h4 : p * b * 1 ≤ p * b * c := Nat.mul_le_mul_left _ (by omega)
    have h5 : p * 2 ≤ p * b := Nat.mul_le_mul_left _ hb
    omega

set_option maxHeartbeats 1000000 in
theorem sum_ge (bx ox cx bY oy cy lx ly : Nat) (xs ys : List Nat) (w : World) (hx : xs.length = lx) (hy : ys.length = ly) (hly : 1 ≤ ly) (hle : ly ≤ lx) (hlx2 : lx ≤ 1000000)
    (h1 : At w .u64 bx ox xs) (h2 : At w .u64 bY oy ys) (hX : ∀ x ∈ xs, x < 2 ^ 64) (hY : ∀ x ∈ ys, x < 2 ^ 64) :
    Calls Tryd.prog 58 #[.slice (some ⟨bx, ox, none⟩) lx cx, .slice (some ⟨bY, oy, none⟩) ly cy] w (RetP w (lx + 1) (val (2 ^ 64) xs + val (2 ^ 64) ys)) := by
  have hbx : bx < w.heap.size := h1.lt (by omega)
  have hby : bY < w.heap.size := h2.lt (by omega)
  have H1 := Lib.hid h1; have H2 := Lib.hid h2; have HX := Lib.hid hX; have HY := Lib.hid hY; have HLX := Lib.hid hx; have HLY := Lib.hid hy
  obtain ⟨m, hm⟩ : ∃ m, m = lx + 1 := ⟨_, rfl⟩
  have hmk := make_u64 m (by omega)
  have hq : (lx : Int) + 1 = (m : Int) := by omega
  have HM := Lib.hid hm
  have hlem : lx ≤ m := by omega
  rw [← hm]
  clear h1 h2 hX hY hx hy hm
  have d0 : decide ((lx : Int) < ly) = false := by simp; omega
  have A3 := At.made w .u64 m 22
  have F3 := Fr.made w .u64 m m 22
  have B3 : Below w.heap.size w (w.alloc (.cells (madeCells #[.int .u64 0] m) 22)) := below_alloc (Below.refl _ _) _
  have HA3 := Lib.hid A3; have HF3 := Lib.hid F3; have HB3 := Lib.hid B3
  have hcp : ∀ ty, (Builtin.copy_ #[23, 23] ty #[.slice (some ⟨w.heap.size, 0, none⟩) m m, .slice (some ⟨bx, ox, none⟩) lx cx]).run Tryd.prog (w.alloc (.cells (madeCells #[.int .u64 0] m) 22)) = .ok (goInt lx) ((w.alloc (.cells (madeCells #[.int .u64 0] m) 22)).setCells w.heap.size 0 (cellsOfRow .u64 xs)) := by
    intro ty
    have hx := HLX.out
    subst hx
    exact copy_row 23 23 ty 22 .u64 w.heap.size 0 m m bx ox cx _ xs _ Tryd.underlying23 Tryd.sizeU64 (by simp) hlem A3 F3 (H1.out.mono B3)
  clear A3 F3 B3
  go_enter Tryd.func58, Tryd.ntmps58
  go_wp2_with fail
  have A4 := HA3.out.copied (xs := xs) (by rw [HLX.out, List.length_replicate]; exact hlem)
  have O4 := Only.setCells (w.alloc (.cells (madeCells #[.int .u64 0] m) 22)) w.heap.size 0 m (cellsOfRow .u64 xs) (by simp only [cellsOfRow, List.length_map]; rw [HLX.out]; exact hlem)
  have F4 := HF3.out.only O4
  have Y4 := (H2.out.mono HB3.out).only O4 (by omega)
  have e4 : xs ++ (List.replicate m 0).drop xs.length = xs ++ [0] := by rw [List.drop_replicate, HLX.out, HM.out]; simp
  rw [e4] at A4
  have HB4 := Lib.hid (HB3.out.trans (O4.below (Nat.le_refl _) (by simp)))
  generalize (w.alloc (.cells (madeCells #[.int .u64 0] m) 22)).setCells w.heap.size 0 (cellsOfRow .u64 xs) = w4 at *
  have hz4 : w.heap.size < w4.heap.size := A4.lt (by simp)
  have hlm := HM.out
  refine (addTo_any w.heap.size 0 m bY oy cy m ly (xs ++ [0]) ys w4 (by rw [List.length_append, HLX.out, hlm]; rfl) HLY.out (by omega) (by omega) (by omega) A4 F4 Y4 (fun x hx => by
    rcases List.mem_append.1 hx with h | h
    · exact HX.out x h
    · simp at h; omega) HY.out).mono ?_
  rintro e w5 ⟨rfl, zs, c, g1, g2, g3, g4, g5, g6⟩
  have HFIN : Hid (RetP w m (val (2 ^ 64) xs + val (2 ^ 64) ys) (.returned (.slice (some ⟨w.heap.size, 0, none⟩) m m)) w5) := by
    refine Lib.hid ⟨w.heap.size, zs, m, rfl, g1, Nat.le_refl _, g2, ?_, Nat.le_refl _, g5, F4.only g6, HB4.out.trans (g6.below (Nat.le_refl _) (by omega))⟩
    rw [val_append] at g4
    have hx := HLX.out
    refine sum_fits (by omega) (by rw [hx, HLY.out]; omega) HX.out HY.out (c := c) ?_
    rw [hx, ← hlm]
    rw [show val (2 ^ 64) [0] = 0 from rfl, Nat.mul_zero, Nat.add_zero] at g4
    exact g4
  clear g1 g2 g3 g4 g5 g6 A4 O4 F4 Y4 hcp e4 hlm hq hmk
  go_wp2
  go_ret
  exact HFIN.out

set_option maxHeartbeats 1000000 in
theorem sum_lt (bx ox cx bY oy cy lx ly : Nat) (xs ys : List Nat) (w : World) (hx : xs.length = lx) (hy : ys.length = ly) (hly : 1 ≤ ly) (hle : ly < lx) (hlx2 : lx ≤ 1000000)
    (h1 : At w .u64 bx ox xs) (h2 : At w .u64 bY oy ys) (hX : ∀ x ∈ xs, x < 2 ^ 64) (hY : ∀ x ∈ ys, x < 2 ^ 64) :
    Calls Tryd.prog 58 #[.slice (some ⟨bY, oy, none⟩) ly cy, .slice (some ⟨bx, ox, none⟩) lx cx] w (RetP w (lx + 1) (val (2 ^ 64) xs + val (2 ^ 64) ys)) := by
  have hbx : bx < w.heap.size := h1.lt (by omega)
  have hby : bY < w.heap.size := h2.lt (by omega)
  have H1 := Lib.hid h1; have H2 := Lib.hid h2; have HX := Lib.hid hX; have HY := Lib.hid hY; have HLX := Lib.hid hx; have HLY := Lib.hid hy
  obtain ⟨m, hm⟩ : ∃ m, m = lx + 1 := ⟨_, rfl⟩
  have hmk := make_u64 m (by omega)
  have hq : (lx : Int) + 1 = (m : Int) := by omega
  have HM := Lib.hid hm
  have hlem : lx ≤ m := by omega
  rw [← hm]
  clear h1 h2 hX hY hx hy hm
  have d0 : decide ((ly : Int) < lx) = true := by simp; omega
  have A3 := At.made w .u64 m 22
  have F3 := Fr.made w .u64 m m 22
  have B3 : Below w.heap.size w (w.alloc (.cells (madeCells #[.int .u64 0] m) 22)) := below_alloc (Below.refl _ _) _
  have HA3 := Lib.hid A3; have HF3 := Lib.hid F3; have HB3 := Lib.hid B3
  have hcp : ∀ ty, (Builtin.copy_ #[23, 23] ty #[.slice (some ⟨w.heap.size, 0, none⟩) m m, .slice (some ⟨bx, ox, none⟩) lx cx]).run Tryd.prog (w.alloc (.cells (madeCells #[.int .u64 0] m) 22)) = .ok (goInt lx) ((w.alloc (.cells (madeCells #[.int .u64 0] m) 22)).setCells w.heap.size 0 (cellsOfRow .u64 xs)) := by
    intro ty
    have hx := HLX.out
    subst hx
    exact copy_row 23 23 ty 22 .u64 w.heap.size 0 m m bx ox cx _ xs _ Tryd.underlying23 Tryd.sizeU64 (by simp) hlem A3 F3 (H1.out.mono B3)
  clear A3 F3 B3
  go_enter Tryd.func58, Tryd.ntmps58
  go_wp2_with fail
  have A4 := HA3.out.copied (xs := xs) (by rw [HLX.out, List.length_replicate]; exact hlem)
  have O4 := Only.setCells (w.alloc (.cells (madeCells #[.int .u64 0] m) 22)) w.heap.size 0 m (cellsOfRow .u64 xs) (by simp only [cellsOfRow, List.length_map]; rw [HLX.out]; exact hlem)
  have F4 := HF3.out.only O4
  have Y4 := (H2.out.mono HB3.out).only O4 (by omega)
  have e4 : xs ++ (List.replicate m 0).drop xs.length = xs ++ [0] := by rw [List.drop_replicate, HLX.out, HM.out]; simp
  rw [e4] at A4
  have HB4 := Lib.hid (HB3.out.trans (O4.below (Nat.le_refl _) (by simp)))
  generalize (w.alloc (.cells (madeCells #[.int .u64 0] m) 22)).setCells w.heap.size 0 (cellsOfRow .u64 xs) = w4 at *
  have hz4 : w.heap.size < w4.heap.size := A4.lt (by simp)
  have hlm := HM.out
  refine (addTo_any w.heap.size 0 m bY oy cy m ly (xs ++ [0]) ys w4 (by rw [List.length_append, HLX.out, hlm]; rfl) HLY.out (by omega) (by omega) (by omega) A4 F4 Y4 (fun x hx => by
    rcases List.mem_append.1 hx with h | h
    · exact HX.out x h
    · simp at h; omega) HY.out).mono ?_
  rintro e w5 ⟨rfl, zs, c, g1, g2, g3, g4, g5, g6⟩
  have HFIN : Hid (RetP w m (val (2 ^ 64) xs + val (2 ^ 64) ys) (.returned (.slice (some ⟨w.heap.size, 0, none⟩) m m)) w5) := by
    refine Lib.hid ⟨w.heap.size, zs, m, rfl, g1, Nat.le_refl _, g2, ?_, Nat.le_refl _, g5, F4.only g6, HB4.out.trans (g6.below (Nat.le_refl _) (by omega))⟩
    rw [val_append] at g4
    have hx := HLX.out
    refine sum_fits (by omega) (by rw [hx, HLY.out]; omega) HX.out HY.out (c := c) ?_
    rw [hx, ← hlm]
    rw [show val (2 ^ 64) [0] = 0 from rfl, Nat.mul_zero, Nat.add_zero] at g4
    exact g4
  clear g1 g2 g3 g4 g5 g6 A4 O4 F4 Y4 hcp e4 hlm hq hmk
  go_wp2
  go_ret
  exact HFIN.out

end Go.Proofs.YtfjjmhbffbhhdaaDoor
