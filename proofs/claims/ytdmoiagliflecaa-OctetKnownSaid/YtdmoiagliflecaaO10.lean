/- Next: what the bytes begin with. -/
import Derived.Test.YtdmoiagliflecaaO8
import Derived.Test.YtdmoiagliflecaaO9
import Derived.Test.YtdmoiagliflecaaOReg
namespace Go.Proofs.Ytdmoiagliflecaa
open Go.RowKit

theorem nextSpec_find (b : List Nat) : nextSpec b = if (findSpec b).2.2 ≠ 0 then (0, [], 0, (findSpec b).2.2) else if b.length < (findSpec b).2.1 + 8 then (0, [], 0, 3)
    else if (b.drop (findSpec b).2.1).take 8 ≠ be8 (fnv (b.take (findSpec b).2.1)) then (0, [], 0, 13)
    else (b.getD 0 0, (b.drop (findSpec b).1).take ((findSpec b).2.1 - (findSpec b).1), (findSpec b).2.1 + 8, 0) := by
  unfold nextSpec findSpec
  by_cases h0 : b.length = 0
  · rw [if_pos h0, if_pos h0, if_pos (by simp)]
  · rw [if_neg h0, if_neg h0]
    by_cases h1 : b.getD 0 0 = 0
    · rw [if_pos h1, if_pos h1, if_pos (by simp)]
    · rw [if_neg h1, if_neg h1]
      by_cases h2 : (readSpec (b.drop 1)).2.2 ≠ 0
      · rw [if_pos h2, if_pos h2, if_pos h2]
      · rw [if_neg h2, if_neg h2]
        by_cases h3 : 4194304 < (readSpec (b.drop 1)).1
        · rw [if_pos h3, if_pos h3, if_pos (by simp)]
        · rw [if_neg h3, if_neg h3, if_neg (show ¬ (0 : Nat) ≠ 0 from fun h => h rfl)]
          simp only [Nat.add_sub_cancel_left]
theorem findSpec_le {b : List Nat} (h : (findSpec b).2.2 = 0) : 0 < b.length ∧ 1 ≤ (findSpec b).1 ∧ (findSpec b).1 ≤ 10 ∧ (findSpec b).1 ≤ (findSpec b).2.1 ∧ (findSpec b).2.1 ≤ 10 + 4194304 := by
  have h9 := readSpec_le (b.drop 1)
  unfold findSpec at h ⊢
  by_cases h0 : b.length = 0
  · rw [if_pos h0] at h; cases h
  · rw [if_neg h0] at h ⊢
    by_cases h1 : b.getD 0 0 = 0
    · rw [if_pos h1] at h; cases h
    · rw [if_neg h1] at h ⊢
      by_cases h2 : (readSpec (b.drop 1)).2.2 ≠ 0
      · rw [if_pos h2] at h; exact absurd h h2
      · rw [if_neg h2] at h ⊢
        by_cases h3 : 4194304 < (readSpec (b.drop 1)).1
        · rw [if_pos h3] at h; cases h
        · rw [if_neg h3]
          simp only
          omega

/-- What the reading of a record leaves. -/
def RetNext (W : World) (x : Nat × List Nat × Nat × Nat) : Ending → World → Prop := fun e w' =>
  ∃ p l c, e = .returned (.tuple #[.int .i64 (x.1 : Int), .slice p l c, .int .i64 (x.2.2.1 : Int), .int .i64 (x.2.2.2 : Int)]) ∧ IsS w' p l c x.2.1 ∧ Below W.heap.size W w'
theorem RetNext.err {W w' : World} {n : Nat} (h : Below W.heap.size W w') : RetNext W (0, [], 0, n) (.returned (.tuple #[.int .i64 0, .slice none 0 0, .int .i64 0, .int .i64 (n : Int)])) w' :=
  ⟨none, 0, 0, rfl, ⟨rfl, fun x hx => by simp at hx, Or.inl ⟨rfl, rfl, rfl⟩⟩, h⟩

set_option maxHeartbeats 1000000 in
theorem next_err (p : Option Addr) (l c : Nat) (t : List Nat) (w : World) (hm : l ≤ 140737488351232) (h : IsB w p l c t) (he : (findSpec t).2.2 ≠ 0) :
    Calls Try.prog 7 #[.slice p l c] w (RetNext w (0, [], 0, (findSpec t).2.2)) := by
  have H := Lib.hid h
  obtain ⟨f, hf⟩ : ∃ f, f = findSpec t := ⟨_, rfl⟩
  rw [← hf] at he ⊢
  have HF := Lib.hid hf
  clear h hf
  obtain ⟨st, en, er⟩ := f
  have hee : ((er : Int) == 0) = false := by simpa using he
  clear he
  go_enter Try.func7, Try.ntmps7
  go_wp2_with fail
  refine (find_any p l c t w hm H.out).mono ?_
  rintro e w2 ⟨rfl, hb⟩
  rw [← HF.out]
  have HB := Lib.hid hb
  clear hb
  go_wp2
  exact bodyPost_ret (v := .tuple #[.int .i64 0, .slice none 0 0, .int .i64 0, .int .i64 (er : Int)]) (by simp [results, Try.results7, go_sem]) rfl (RetNext.err HB.out)

set_option maxHeartbeats 1000000 in
theorem next_short (b off l c : Nat) (t : List Nat) (w : World) (hm : l ≤ 140737488351232) (hl : t.length = l) (hlc : l ≤ c) (ht : ∀ x ∈ t, x < 256) (h : At w .u8 b off t) (he : (findSpec t).2.2 = 0) (hs : l < (findSpec t).2.1 + 8) :
    Calls Try.prog 7 #[.slice (some ⟨b, off, none⟩) l c] w (RetNext w (0, [], 0, 3)) := by
  have hle := findSpec_le he
  have h0 : 0 < l := by omega
  have H := Lib.hid (find_at b off l c t w hl hm h0 hlc ht h)
  obtain ⟨f, hf⟩ : ∃ f, f = findSpec t := ⟨_, rfl⟩
  rw [← hf] at he hs hle H
  clear h hf hl ht
  obtain ⟨st, en, er⟩ := f
  simp only at he hs hle
  subst he
  go_enter Try.func7, Try.ntmps7
  go_wp2_with fail
  refine H.out.mono ?_
  rintro e w2 ⟨rfl, hb⟩
  have HB := Lib.hid hb
  clear hb
  go_wp2
  exact bodyPost_ret (v := .tuple #[.int .i64 0, .slice none 0 0, .int .i64 0, .int .i64 3]) (by simp [results, Try.results7, go_sem]) rfl (RetNext.err (n := 3) HB.out)

set_option maxHeartbeats 1000000 in
theorem next_at (b off l c : Nat) (t : List Nat) (w : World) (hm : l ≤ 140737488351232) (hl : t.length = l) (hlc : l ≤ c) (ht : ∀ x ∈ t, x < 256) (h : At w .u8 b off t) (he : (findSpec t).2.2 = 0) (hs : (findSpec t).2.1 + 8 ≤ l) :
    Calls Try.prog 7 #[.slice (some ⟨b, off, none⟩) l c] w (RetNext w (nextSpec t)) := by
  have hle := findSpec_le he
  have h0 : 0 < l := by omega
  have H := Lib.hid (find_at b off l c t w hl hm h0 hlc ht h)
  have HN := Lib.hid (nextSpec_find t)
  obtain ⟨r, hr⟩ : ∃ r, r = nextSpec t := ⟨_, rfl⟩
  rw [← hr] at HN ⊢
  obtain ⟨f, hf⟩ : ∃ f, f = findSpec t := ⟨_, rfl⟩
  rw [← hf] at he hs hle H HN
  have HX := Lib.hid h; have HL := Lib.hid hl; have HT := Lib.hid ht
  clear h hf hl ht hr
  obtain ⟨st, en, er⟩ := f
  simp only at he hs hle
  subst he
  go_enter Try.func7, Try.ntmps7
  go_wp2_with fail
  refine H.out.mono ?_
  rintro e w2 ⟨rfl, hb⟩
  have A2 := Lib.hid (HX.out.mono hb)
  have HB := Lib.hid hb
  clear hb
  go_wp2_with fail
--REGION7
  have hcell := HX.out 0 (by rw [HL.out]; exact h0)
  obtain ⟨x, hxe⟩ : ∃ x, x = t.getD 0 0 := ⟨_, rfl⟩
  have hx0 : w2.cell? ⟨b, off, none⟩ = some (.int .u8 (x : Int)) := by rw [hxe]; exact A2.out 0 (by rw [HL.out]; exact h0)
  have HXE := Lib.hid hxe
  have hx256 : x < 256 := by rw [hxe]; exact getD_lt HT.out (by omega) 0
  have hxw : IntKind.i64.wrap (x : Int) = (x : Int) := by rw [IntKind.wrap_i64]; omega
  obtain ⟨TE, hTE⟩ : ∃ y, y = t.take en := ⟨_, rfl⟩
  obtain ⟨DE, hDE⟩ : ∃ y, y = (t.drop en).take 8 := ⟨_, rfl⟩
  obtain ⟨BD, hBD⟩ : ∃ y, y = (t.drop st).take (en - st) := ⟨_, rfl⟩
  obtain ⟨B8, hB8⟩ : ∃ y, y = be8 (fnv TE) := ⟨_, rfl⟩
  obtain ⟨q, hq⟩ : ∃ q, q = decide (DE = B8) := ⟨_, rfl⟩
  have hlen := HL.out
  have IE := Lib.hid (show IsB w2 (some ⟨b, off, none⟩) en c TE by rw [hTE]; exact IsB.of_at (A2.out.take en) (by rw [List.length_take]; omega) (by omega) (fun x hx => HT.out x (List.mem_of_mem_take hx)))
  have AE := Lib.hid (show At w2 .u8 b (off + en) DE by rw [hDE]; exact (A2.out.drop en).take 8)
  have HDE := Lib.hid (show DE.length = 8 by rw [hDE, List.length_take, List.length_drop]; omega)
  have HDT := Lib.hid (show ∀ x ∈ DE, x < 256 by rw [hDE]; exact fun x hx => HT.out x (List.mem_of_mem_drop (List.mem_of_mem_take hx)))
  have IS := Lib.hid (show IsB w2 (some ⟨b, off + st, none⟩) (en - st) (c - st) BD by rw [hBD]; exact IsB.of_at ((A2.out.drop st).take (en - st)) (by rw [List.length_take, List.length_drop]; omega) (by omega) (fun x hx => HT.out x (List.mem_of_mem_drop (List.mem_of_mem_take hx))))
  have HBDT := Lib.hid (show ∀ x ∈ BD, x < 256 by rw [hBD]; exact fun x hx => HT.out x (List.mem_of_mem_drop (List.mem_of_mem_take hx)))
  have HBT := Lib.hid (show ∀ x ∈ B8, x < 256 by rw [hB8]; exact be8_lt _)
  have HB8 := Lib.hid hB8
  have HQ := Lib.hid hq
  have HR : Hid (r = if q = true then (x, BD, en + 8, 0) else (0, [], 0, 13)) := by
    have h1 := HN.out
    rw [h1, if_neg (by simp), if_neg (by omega), ← hTE, ← hDE, ← hB8, ← hBD, ← hxe, hq]
    by_cases h : DE = B8
    · rw [if_neg (by simpa using h), if_pos (by simpa using h)]; rfl
    · rw [if_pos h, if_neg (by simpa using h)]; rfl
  have hcen : ¬ c = en := by omega
  have hcst : ¬ c = st := by omega
  have hh := hle.2
  clear hle hq hB8 hBD hDE hTE hxe hcell hlen HN H A2 HX HT HL
  refine region_v (slots := [23, 24, 25, 26, 27, 28, 29, 30, 31, 32]) (V := OTab [.is (.slice (some ⟨b, off, none⟩) l c), .is (.int .i64 (en : Int)), .is (.int .i64 ((en : Int) + 8)), .is (.slice (some ⟨b, off + en, none⟩) 8 (c - en)), .is (.slice (some ⟨b, off, none⟩) l c), .is (.int .i64 (en : Int)), .is (.slice (some ⟨b, off, none⟩) en c), .row B8, .is (.bool q), .is (.bool (!q))] 0) (by kernel_rfl) (by kernel_rfl) OTab.stable (by kernel_rfl) (by kernel_rfl) ?_ ?_
  · skip
    refine AllV.cons rfl (fun E W hb hc hf hE hV => Or.inl ⟨rfl, ?_⟩) ?_
    · have e1 : E (.tmp 0) = .slice (some ⟨b, off, none⟩) l c := hE 0 (by kernel_rfl)
      clear hE hV
      exact Does.value (w' := W) (by go_simp) ⟨rfl, Below.refl _ _⟩
    refine AllV.cons rfl (fun E W hb hc hf hE hV => Or.inl ⟨rfl, ?_⟩) ?_
    · have e1 : E (.tmp 7) = .int .i64 (en : Int) := hE 7 (by kernel_rfl)
      clear hE hV
      exact Does.value (w' := W) (by go_simp) ⟨rfl, Below.refl _ _⟩
    refine AllV.cons rfl (fun E W hb hc hf hE hV => Or.inl ⟨rfl, ?_⟩) ?_
    · have e1 : E (.tmp 4) = .int .i64 ((en : Int) + 8) := hE 4 (by kernel_rfl)
      clear hE hV
      exact Does.value (w' := W) (by go_simp) ⟨rfl, Below.refl _ _⟩
    refine AllV.cons rfl (fun E W hb hc hf hE hV => Or.inl ⟨rfl, ?_⟩) ?_
    · have e1 : E (.tmp 23) = _ := hV 0 23 (by kernel_rfl) (by kernel_rfl)
      have e2 : E (.tmp 24) = _ := hV 1 24 (by kernel_rfl) (by kernel_rfl)
      have e3 : E (.tmp 25) = _ := hV 2 25 (by kernel_rfl) (by kernel_rfl)
      clear hE hV
      refine Does.value (w' := W) ?_ ⟨rfl, Below.refl _ _⟩
      go_simp
      rw [if_pos (by omega), if_pos (by omega), show ((en : Int) + 8).toNat - en = 8 from by omega]
    refine AllV.cons rfl (fun E W hb hc hf hE hV => Or.inl ⟨rfl, ?_⟩) ?_
    · have e1 : E (.tmp 0) = .slice (some ⟨b, off, none⟩) l c := hE 0 (by kernel_rfl)
      clear hE hV
      exact Does.value (w' := W) (by go_simp) ⟨rfl, Below.refl _ _⟩
    refine AllV.cons rfl (fun E W hb hc hf hE hV => Or.inl ⟨rfl, ?_⟩) ?_
    · have e1 : E (.tmp 7) = .int .i64 (en : Int) := hE 7 (by kernel_rfl)
      clear hE hV
      exact Does.value (w' := W) (by go_simp) ⟨rfl, Below.refl _ _⟩
    refine AllV.cons rfl (fun E W hb hc hf hE hV => Or.inl ⟨rfl, ?_⟩) ?_
    · have e1 : E (.tmp 27) = _ := hV 4 27 (by kernel_rfl) (by kernel_rfl)
      have e2 : E (.tmp 28) = _ := hV 5 28 (by kernel_rfl) (by kernel_rfl)
      clear hE hV
      have g1 : en ≤ c := by omega
      exact Does.value (w' := W) (by go_simp) ⟨rfl, Below.refl _ _⟩
    refine AllV.cons rfl (fun E W hb hc hf hE hV => Or.inl ⟨rfl, ?_⟩) ?_
    · have e1 : E (.tmp 29) = _ := hV 6 29 (by kernel_rfl) (by kernel_rfl)
      clear hE hV
      exact Does.call (w' := W) (by go_simp) ((written_any _ _ _ TE W (by omega) (IE.out.mono hb)).mono fun e w' ⟨g, o, c5, h1, h2, h3, h4, h5, h6⟩ => ⟨_, h1, ⟨g, o, c5, by rw [HB8.out], by rw [HB8.out]; exact h4⟩, h6⟩)
    refine AllV.cons rfl (fun E W hb hc hf hE hV => Or.inl ⟨rfl, ?_⟩) ?_
    · have e1 : E (.tmp 26) = _ := hV 3 26 (by kernel_rfl) (by kernel_rfl)
      have e2 : OMeans W (.row B8) (E (.tmp 30)) := hV 7 30 (by kernel_rfl) (by kernel_rfl)
      clear hE hV
      obtain ⟨g, o, c5, e2, hrow⟩ := e2
      exact Does.call (w' := W) (by go_simp) ((equal_at b (off + en) 8 (c - en) g o _ c5 DE B8 W HDE.out rfl (AE.out.mono hb) hrow HDT.out HBT.out).mono fun e w' ⟨h1, h2⟩ => ⟨_, h2, HQ.out.symm ▸ rfl, h1 ▸ Below.refl _ _⟩)
    refine AllV.cons rfl (fun E W hb hc hf hE hV => Or.inl ⟨rfl, ?_⟩) ?_
    · have e1 : E (.tmp 31) = _ := hV 8 31 (by kernel_rfl) (by kernel_rfl)
      clear hE hV
      exact Does.value (w' := W) (by go_simp) ⟨rfl, Below.refl _ _⟩
    exact AllV.nil
  · intro f W hf hb
    have e32 : f 32 = .bool (!q) := hf (9, 32) (by decide)
    have hx0 := ocell hb hx0
    have IS := Lib.hid (IS.out.mono hb)
    have HB := Lib.hid (below_step HB.out hb)
    clear hf hb
    simp only [fillSlots, List.setIfInBounds_toArray, List.set_cons_succ, List.set_cons_zero, e32]
    have hR := HR.out
    cases q
    · rw [if_neg (by simp)] at hR
      subst hR
      clear HR HB8 HQ
      go_wp2
      exact bodyPost_ret (v := .tuple #[.int .i64 0, .slice none 0 0, .int .i64 0, .int .i64 13]) (by simp [results, Try.results7, go_sem]) rfl (RetNext.err (n := 13) HB.out)
    · rw [if_pos rfl] at hR
      have HRR := Lib.hid hR
      clear hR HR
      go_wp2_with fail
      refine region_v (slots := [33, 34, 35, 36, 37, 38, 39, 40, 41, 42, 2, 3, 4, 5]) (V := OTab [.is (.slice (some ⟨b, off, none⟩) l c), .is (.pointer (some ⟨b, off, none⟩)), .is (.int .u8 (x : Int)), .is (.int .i64 (x : Int)), .is (.slice (some ⟨b, off, none⟩) l c), .is (.int .i64 (st : Int)), .is (.int .i64 (en : Int)), .is (.slice (some ⟨b, off + st, none⟩) (en - st) (c - st)), .str BD, .is (.int .i64 ((en : Int) + 8)), .is (.int .i64 (x : Int)), .str BD, .is (.int .i64 ((en : Int) + 8)), .is (.int .i64 0)] 0) (by kernel_rfl) (by kernel_rfl) OTab.stable (by kernel_rfl) (by kernel_rfl) ?_ ?_
      · skip
        refine AllV.cons rfl (fun E W hb hc hf hE hV => Or.inl ⟨rfl, ?_⟩) ?_
        · have e1 : E (.tmp 0) = .slice (some ⟨b, off, none⟩) l c := hE 0 (by kernel_rfl)
          clear hE hV
          exact Does.value (w' := W) (by go_simp) ⟨rfl, Below.refl _ _⟩
        refine AllV.cons rfl (fun E W hb hc hf hE hV => Or.inl ⟨rfl, ?_⟩) ?_
        · have e1 : E (.tmp 33) = _ := hV 0 33 (by kernel_rfl) (by kernel_rfl)
          clear hE hV
          exact Does.value (w' := W) (by go_simp) ⟨rfl, Below.refl _ _⟩
        refine AllV.cons rfl (fun E W hb hc hf hE hV => Or.inl ⟨rfl, ?_⟩) ?_
        · have e1 : E (.tmp 34) = _ := hV 1 34 (by kernel_rfl) (by kernel_rfl)
          have q := ocell hb hx0
          clear hE hV
          exact Does.value (w' := W) (by go_simp) ⟨rfl, Below.refl _ _⟩
        refine AllV.cons rfl (fun E W hb hc hf hE hV => Or.inl ⟨rfl, ?_⟩) ?_
        · have e1 : E (.tmp 35) = _ := hV 2 35 (by kernel_rfl) (by kernel_rfl)
          clear hE hV
          exact Does.value (w' := W) (by go_simp) ⟨rfl, Below.refl _ _⟩
        refine AllV.cons rfl (fun E W hb hc hf hE hV => Or.inl ⟨rfl, ?_⟩) ?_
        · have e1 : E (.tmp 0) = .slice (some ⟨b, off, none⟩) l c := hE 0 (by kernel_rfl)
          clear hE hV
          exact Does.value (w' := W) (by go_simp) ⟨rfl, Below.refl _ _⟩
        refine AllV.cons rfl (fun E W hb hc hf hE hV => Or.inl ⟨rfl, ?_⟩) ?_
        · have e1 : E (.tmp 6) = .int .i64 (st : Int) := hE 6 (by kernel_rfl)
          clear hE hV
          exact Does.value (w' := W) (by go_simp) ⟨rfl, Below.refl _ _⟩
        refine AllV.cons rfl (fun E W hb hc hf hE hV => Or.inl ⟨rfl, ?_⟩) ?_
        · have e1 : E (.tmp 7) = .int .i64 (en : Int) := hE 7 (by kernel_rfl)
          clear hE hV
          exact Does.value (w' := W) (by go_simp) ⟨rfl, Below.refl _ _⟩
        refine AllV.cons rfl (fun E W hb hc hf hE hV => Or.inl ⟨rfl, ?_⟩) ?_
        · have e1 : E (.tmp 37) = _ := hV 4 37 (by kernel_rfl) (by kernel_rfl)
          have e2 : E (.tmp 38) = _ := hV 5 38 (by kernel_rfl) (by kernel_rfl)
          have e3 : E (.tmp 39) = _ := hV 6 39 (by kernel_rfl) (by kernel_rfl)
          clear hE hV
          have g1 : en ≤ c := by omega
          have g2 : st ≤ en := by omega
          exact Does.value (w' := W) (by go_simp) ⟨rfl, Below.refl _ _⟩
        refine AllV.cons rfl (fun E W hb hc hf hE hV => Or.inl ⟨rfl, ?_⟩) ?_
        · have e1 : E (.tmp 40) = _ := hV 7 40 (by kernel_rfl) (by kernel_rfl)
          clear hE hV
          exact Does.call (w' := W) (by go_simp) ((exact_any _ _ _ BD W (by omega) (IS.out.mono hb)).mono fun e w' h => h.isS HBDT.out)
        refine AllV.cons rfl (fun E W hb hc hf hE hV => Or.inl ⟨rfl, ?_⟩) ?_
        · have e1 : E (.tmp 4) = .int .i64 ((en : Int) + 8) := hE 4 (by kernel_rfl)
          clear hE hV
          exact Does.value (w' := W) (by go_simp) ⟨rfl, Below.refl _ _⟩
        refine AllV.cons rfl (fun E W hb hc hf hE hV => Or.inl ⟨rfl, ?_⟩) ?_
        · have e1 : E (.tmp 36) = _ := hV 3 36 (by kernel_rfl) (by kernel_rfl)
          clear hE hV
          exact Does.value (w' := W) (by go_simp) ⟨rfl, Below.refl _ _⟩
        refine AllV.cons rfl (fun E W hb hc hf hE hV => Or.inl ⟨rfl, ?_⟩) ?_
        · have e1 : OMeans W (.str BD) (E (.tmp 41)) := hV 8 41 (by kernel_rfl) (by kernel_rfl)
          clear hE hV
          obtain ⟨p1, l1, c1, e1, h1⟩ := e1
          exact Does.value (w' := W) (by go_simp) ⟨⟨p1, l1, c1, rfl, h1⟩, Below.refl _ _⟩
        refine AllV.cons rfl (fun E W hb hc hf hE hV => Or.inl ⟨rfl, ?_⟩) ?_
        · have e1 : E (.tmp 42) = _ := hV 9 42 (by kernel_rfl) (by kernel_rfl)
          clear hE hV
          exact Does.value (w' := W) (by go_simp) ⟨rfl, Below.refl _ _⟩
        refine AllV.cons rfl (fun E W hb hc hf hE hV => Or.inl ⟨rfl, ?_⟩) ?_
        · clear hE hV
          exact Does.value (w' := W) (by go_simp) ⟨rfl, Below.refl _ _⟩
        exact AllV.nil
      · intro f W hf hb
        have e2 : f 2 = .int .i64 (x : Int) := hf (10, 2) (by decide)
        have e3 : OMeans W (.str BD) (f 3) := hf (11, 3) (by decide)
        have e4 : f 4 = .int .i64 ((en : Int) + 8) := hf (12, 4) (by decide)
        have e5 : f 5 = .int .i64 0 := hf (13, 5) (by decide)
        obtain ⟨p1, l1, c1, e3, h1⟩ := e3
        have H1 := Lib.hid h1
        have HB := Lib.hid (below_step HB.out hb)
        clear hf hb h1
        simp only [fillSlots, List.setIfInBounds_toArray, List.set_cons_succ, List.set_cons_zero, e2, e3, e4, e5]
        go_wp2
        refine bodyPost_ret (v := .tuple #[.int .i64 (x : Int), .slice p1 l1 c1, .int .i64 ((en : Int) + 8), .int .i64 0]) (by simp [results, Try.results7, go_sem]) rfl ?_
        rw [HRR.out]
        exact ⟨p1, l1, c1, rfl, H1.out, HB.out⟩
end Go.Proofs.Ytdmoiagliflecaa
