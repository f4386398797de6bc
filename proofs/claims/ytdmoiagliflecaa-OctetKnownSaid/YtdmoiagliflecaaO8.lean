/- The reading of a count of any bytes; where a record's body lies. -/
import Derived.Test.YtdmoiagliflecaaO7
namespace Go.Proofs.Ytdmoiagliflecaa
open Go.RowKit

theorem readSpec_short {t : List Nat} (h : lastAt t = t.length) : readSpec t = (0, 0, 3) := by unfold readSpec; rw [if_pos h]
theorem readSpec_form {t : List Nat} (h0 : lastAt t ≠ t.length) (h1 : 0 < lastAt t) (h2 : t.getD (lastAt t) 0 = 0) : readSpec t = (0, 0, 2) := by
  unfold readSpec; rw [if_neg h0, if_pos ⟨h1, h2⟩]
theorem readSpec_long {t : List Nat} (h0 : lastAt t ≠ t.length) (h1 : ¬ (0 < lastAt t ∧ t.getD (lastAt t) 0 = 0)) (h2 : 9 ≤ lastAt t) : readSpec t = (0, 0, 4) := by
  unfold readSpec; rw [if_neg h0, if_neg h1, if_pos h2]
theorem readSpec_num {t : List Nat} (h0 : lastAt t ≠ t.length) (h1 : ¬ (0 < lastAt t ∧ t.getD (lastAt t) 0 = 0)) (h2 : ¬ 9 ≤ lastAt t) :
    readSpec t = if 2 ^ 62 < groups (t.take (lastAt t + 1)) then (0, 0, 4) else (groups (t.take (lastAt t + 1)), lastAt t + 1, 0) := by
  unfold readSpec; rw [if_neg h0, if_neg h1, if_neg h2]

set_option maxHeartbeats 1000000 in
theorem read_short (p : Option Addr) (l c : Nat) (t : List Nat) (w : World) (hm : l ≤ 140737488351232) (h : IsB w p l c t) (hs : lastAt t = t.length) :
    Calls Try.prog 39 #[.slice p l c] w (RetRead w (readSpec t)) := by
  have hli : lastInt t = -1 := by unfold lastInt; rw [if_pos hs]
  rw [readSpec_short hs]
  have HX := Lib.hid h
  have HLI := Lib.hid hli
  clear h hs hli
  go_enter Try.func39, Try.ntmps39
  go_wp2_with fail
  refine (index_any p l c t _ hm (HX.out.mono (below_alloc (Below.refl _ _) _))).mono ?_
  rintro e w2 ⟨rfl, rfl⟩
  rw [HLI.out]
  go_wp2
  exact bodyPost_ret (v := .tuple #[.int .i64 0, .int .i64 0, .int .i64 3]) (by simp [results, Try.results39, go_sem]) rfl ⟨rfl, below_alloc (Below.refl _ _) _⟩

set_option maxHeartbeats 1000000 in
theorem read_form (b off l c q : Nat) (t : List Nat) (w : World) (hl : t.length = l) (hm : l ≤ 140737488351232) (ht : ∀ x ∈ t, x < 256) (h : At w .u8 b off t) (hq : lastAt t = q) (hq0 : 0 < q) (hql : q < l) (h0 : t.getD q 0 = 0) :
    Calls Try.prog 39 #[.slice (some ⟨b, off, none⟩) l c] w (RetRead w (0, 0, 2)) := by
  have hli : lastInt t = (q : Int) := by unfold lastInt; rw [hq, if_neg (by omega)]
  have hcell : w.cell? ⟨b, off + q, none⟩ = some (.int .u8 0) := by have := h q (by omega); rw [h0] at this; exact this
  have hblt : b < w.heap.size := World.block_lt_of_cell? _ _ hcell
  have HX := Lib.hid h; have HT := Lib.hid ht; have HL := Lib.hid hl
  have HLI := Lib.hid hli
  clear h hl ht hli h0 hq
  go_enter Try.func39, Try.ntmps39
  go_wp2_with fail
  refine (index_at b off l c t _ HL.out hm HT.out (HX.out.mono (below_alloc (Below.refl _ _) _))).mono ?_
  rintro e w2 ⟨rfl, rfl⟩
  rw [HLI.out]
  go_wp2
  exact bodyPost_ret (v := .tuple #[.int .i64 0, .int .i64 0, .int .i64 2]) (by simp [results, Try.results39, go_sem]) rfl ⟨rfl, below_alloc (Below.refl _ _) _⟩

set_option maxHeartbeats 1000000 in
theorem read_long (b off l c q : Nat) (t : List Nat) (w : World) (hl : t.length = l) (hm : l ≤ 140737488351232) (ht : ∀ x ∈ t, x < 256) (h : At w .u8 b off t) (hq : lastAt t = q) (hq0 : 9 ≤ q) (hql : q < l) (x : Nat) (hx : t.getD q 0 = x) (h0 : x ≠ 0) :
    Calls Try.prog 39 #[.slice (some ⟨b, off, none⟩) l c] w (RetRead w (0, 0, 4)) := by
  have hli : lastInt t = (q : Int) := by unfold lastInt; rw [hq, if_neg (by omega)]
  have hcell : w.cell? ⟨b, off + q, none⟩ = some (.int .u8 (x : Int)) := by have := h q (by omega); rw [hx] at this; exact this
  have hblt : b < w.heap.size := World.block_lt_of_cell? _ _ hcell
  have hxe : ((x : Int) == 0) = false := by simpa using h0
  have HX := Lib.hid h; have HT := Lib.hid ht; have HL := Lib.hid hl
  have HLI := Lib.hid hli
  clear h hl ht hli h0 hx hq
  go_enter Try.func39, Try.ntmps39
  go_wp2_with fail
  refine (index_at b off l c t _ HL.out hm HT.out (HX.out.mono (below_alloc (Below.refl _ _) _))).mono ?_
  rintro e w2 ⟨rfl, rfl⟩
  rw [HLI.out]
  go_wp2
  exact bodyPost_ret (v := .tuple #[.int .i64 0, .int .i64 0, .int .i64 4]) (by simp [results, Try.results39, go_sem]) rfl ⟨rfl, below_alloc (Below.refl _ _) _⟩

/-- The reading of a count. -/
theorem read_any (p : Option Addr) (l c : Nat) (t : List Nat) (w : World) (hm : l ≤ 140737488351232) (h : IsB w p l c t) :
    Calls Try.prog 39 #[.slice p l c] w (RetRead w (readSpec t)) := by
  by_cases h0 : lastAt t = t.length
  · exact read_short p l c t w hm h h0
  · rcases h.cases with ⟨rfl, rfl⟩ | ⟨b, off, rfl, h1, h2, h3, h4, h5⟩
    · exact absurd rfl h0
    · have hle := lastAt_le t
      by_cases hf : 0 < lastAt t ∧ t.getD (lastAt t) 0 = 0
      · rw [readSpec_form h0 hf.1 hf.2]
        exact read_form b off l c _ t w h2 hm h5 h4 rfl hf.1 (by omega) hf.2
      · by_cases h9 : 9 ≤ lastAt t
        · rw [readSpec_long h0 hf h9]
          exact read_long b off l c _ t w h2 hm h5 h4 rfl h9 (by omega) _ rfl (fun e => hf ⟨by omega, e⟩)
        · rw [readSpec_num h0 hf h9]
          refine read_num b off l c (lastAt t) t w h2 hm h5 h4 h3 rfl (by omega) (by omega) ?_ _ rfl
          by_cases hz : lastAt t = 0
          · exact Or.inl hz
          · exact Or.inr ⟨by omega, fun e => hf ⟨by omega, e⟩⟩

/-- What the search for a body yields: where it starts, where it ends, an error. -/
def findSpec (b : List Nat) : Nat × Nat × Nat :=
  if b.length = 0 then (0, 0, 3)
  else if b.getD 0 0 = 0 then (0, 0, 2)
  else if (readSpec (b.drop 1)).2.2 ≠ 0 then (0, 0, (readSpec (b.drop 1)).2.2)
  else if 4194304 < (readSpec (b.drop 1)).1 then (0, 0, 4)
  else (1 + (readSpec (b.drop 1)).2.1, 1 + (readSpec (b.drop 1)).2.1 + (readSpec (b.drop 1)).1, 0)

theorem readSpec_le (t : List Nat) : (readSpec t).1 ≤ 2 ^ 62 ∧ (readSpec t).2.1 ≤ 9 ∧ (readSpec t).2.2 ≤ 4 ∧ (readSpec t).2.1 ≤ t.length := by
  have := lastAt_le t
  unfold readSpec
  repeat' split
  all_goals simp
  all_goals omega

theorem IsB.tail {w : World} {b off l c : Nat} {t : List Nat} (h : At w .u8 b off t) (hl : t.length = l) (h0 : 0 < l) (hlc : l ≤ c) (ht : ∀ x ∈ t, x < 256) (p : Option Addr) (hp : p = if c = 1 then some ⟨b, off, none⟩ else some ⟨b, off + 1, none⟩) : IsB w p (l - 1) (c - 1) (t.drop 1) := by
  refine ⟨by rw [List.length_drop, hl], fun x hx => ht x (List.mem_of_mem_drop hx), Or.inr ?_⟩
  by_cases hc : c = 1
  · rw [if_pos hc] at hp
    exact ⟨b, off, none, hp, by omega, fun i hi => by rw [List.length_drop] at hi; omega⟩
  · rw [if_neg hc] at hp
    exact ⟨b, off + 1, none, hp, by omega, fun i hi => by rw [Go.WideShapes.add_plain]; exact (h.drop 1) i hi⟩

set_option maxHeartbeats 1000000 in
theorem find_empty (p : Option Addr) (c : Nat) (w : World) : Calls Try.prog 27 #[.slice p 0 c] w (RetRead w (0, 0, 3)) := by
  go_enter Try.func27, Try.ntmps27
  go_wp2
  go_ret3
  exact ⟨rfl, Below.refl _ _⟩

set_option maxHeartbeats 1000000 in
theorem find_at (b off l c : Nat) (t : List Nat) (w : World) (hl : t.length = l) (hm : l ≤ 140737488351232) (h0 : 0 < l) (hlc : l ≤ c) (ht : ∀ x ∈ t, x < 256) (h : At w .u8 b off t) :
    Calls Try.prog 27 #[.slice (some ⟨b, off, none⟩) l c] w (RetRead w (findSpec t)) := by
  have hcell : w.cell? ⟨b, off, none⟩ = some (.int .u8 ((t.getD 0 0 : Nat) : Int)) := h 0 (by omega)
  obtain ⟨x, hx⟩ : ∃ x, x = t.getD 0 0 := ⟨_, rfl⟩
  obtain ⟨r, hr⟩ : ∃ r, r = readSpec (t.drop 1) := ⟨_, rfl⟩
  have hrl := readSpec_le (t.drop 1)
  have hI := IsB.tail h hl h0 hlc ht _ rfl
  have hF : findSpec t = if x = 0 then (0, 0, 2) else if r.2.2 ≠ 0 then (0, 0, r.2.2) else if 4194304 < r.1 then (0, 0, 4) else (1 + r.2.1, 1 + r.2.1 + r.1, 0) := by
    unfold findSpec; rw [if_neg (by omega), ← hx, ← hr]
  rw [← hr] at hrl
  rw [← hx] at hcell
  obtain ⟨f, hf⟩ : ∃ f, f = findSpec t := ⟨_, rfl⟩
  rw [← hf] at hF ⊢
  have HF := Lib.hid hF; have HR := Lib.hid hr; have HI := Lib.hid hI
  clear h hl ht hx hr hf hF hI
  by_cases hx0 : x = 0
  · subst hx0
    rw [if_pos rfl] at HF
    go_enter Try.func27, Try.ntmps27
    go_wp2
    go_ret3
    exact ⟨by rw [HF.out]; rfl, Below.refl _ _⟩
  · have hxe : ((x : Int) == 0) = false := by simpa using hx0
    rw [if_neg hx0] at HF
    obtain ⟨n, s, e⟩ := r
    simp only at HF hrl
    obtain ⟨s1, hs1e⟩ : ∃ s1, s1 = 1 + s := ⟨_, rfl⟩
    obtain ⟨s2, hs2e⟩ : ∃ s2, s2 = 1 + s + n := ⟨_, rfl⟩
    rw [← hs2e, ← hs1e] at HF
    have hs1 : (1 : Int) + (s : Int) = (s1 : Int) := by omega
    have hs2 : (s1 : Int) + (n : Int) = (s2 : Int) := by omega
    have hb1 : s1 ≤ 10 := by omega
    have hb2 : s2 ≤ 10 + 2 ^ 62 := by omega
    clear hx0 hs1e hs2e
    have HS1 := Lib.hid hs1; have HS2 := Lib.hid hs2
    clear hs1 hs2
    by_cases hc1 : c = 1
    · obtain rfl := hc1
      rw [if_pos rfl] at HI
      obtain rfl : l = 1 := by omega
      have HI1 : Hid (IsB w (some ⟨b, off, none⟩) 0 0 (t.drop 1)) := HI
      clear HI
      go_enter Try.func27, Try.ntmps27
      go_wp2_with fail
      refine (read_any (some ⟨b, off, none⟩) 0 0 (t.drop 1) w (by omega) HI1.out).mono ?_
      rintro e w2 ⟨rfl, hb⟩
      rw [← HR.out]
      have HB := Lib.hid hb
      clear hb
      by_cases he : e = 0
      · subst he
        rw [if_neg (by simp)] at HF
        by_cases hn : 4194304 < n
        · rw [if_pos hn] at HF
          go_wp2
          go_ret3
          exact ⟨by rw [HF.out]; rfl, HB.out⟩
        · rw [if_neg hn] at HF
          have hs1 := HS1.out; have hs2 := HS2.out
          go_wp2
          go_ret3
          exact ⟨by rw [HF.out]; rfl, HB.out⟩
      · have hee : ((e : Int) == 0) = false := by simpa using he
        rw [if_pos he] at HF
        clear he
        go_wp2
        go_ret3
        exact ⟨by rw [HF.out]; rfl, HB.out⟩
    · rw [if_neg hc1] at HI
      have HI1 : Hid (IsB w (some ⟨b, off + 1, none⟩) (l - 1) (c - 1) (t.drop 1)) := HI
      clear HI
      go_enter Try.func27, Try.ntmps27
      go_wp2_with fail
      refine (read_any (some ⟨b, off + 1, none⟩) (l - 1) (c - 1) (t.drop 1) w (by omega) HI1.out).mono ?_
      rintro e w2 ⟨rfl, hb⟩
      rw [← HR.out]
      have HB := Lib.hid hb
      clear hb
      by_cases he : e = 0
      · subst he
        rw [if_neg (by simp)] at HF
        by_cases hn : 4194304 < n
        · rw [if_pos hn] at HF
          go_wp2
          go_ret3
          exact ⟨by rw [HF.out]; rfl, HB.out⟩
        · rw [if_neg hn] at HF
          have hs1 := HS1.out; have hs2 := HS2.out
          go_wp2
          go_ret3
          exact ⟨by rw [HF.out]; rfl, HB.out⟩
      · have hee : ((e : Int) == 0) = false := by simpa using he
        rw [if_pos he] at HF
        clear he
        go_wp2
        go_ret3
        exact ⟨by rw [HF.out]; rfl, HB.out⟩

/-- Where a record's body lies. -/
theorem find_any (p : Option Addr) (l c : Nat) (t : List Nat) (w : World) (hm : l ≤ 140737488351232) (h : IsB w p l c t) :
    Calls Try.prog 27 #[.slice p l c] w (RetRead w (findSpec t)) := by
  rcases h.cases with ⟨rfl, rfl⟩ | ⟨b, off, rfl, h1, h2, h3, h4, h5⟩
  · exact find_empty p c w
  · exact find_at b off l c t w h2 hm h1 h3 h5 h4
end Go.Proofs.Ytdmoiagliflecaa
