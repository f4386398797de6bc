/- The document's records. -/
import Derived.Test.YtdmoiagliflecaaO5
namespace Go.Proofs.Ytdmoiagliflecaa
open Go.RowKit

/-- What a call leaves that returns a row of one's own, appended to. -/
def RetOwn (n0 : Nat) (W : World) (bs : List Nat) : Ending → World → Prop := fun e w' =>
  ∃ g cap, e = .returned (.slice (some ⟨g, 0, none⟩) bs.length cap) ∧ w'.ownsRow n0 5 1 (.slice (some ⟨g, 0, none⟩) bs.length cap) bs.length (cellsOfRow .u8 bs) ∧ Below n0 W w'

theorem grown_below {n0 : Nat} {w w' : World} {base : Nat} {e : TypeId} {size n : Nat} {v : Value} {xs : List Value} (hg : w.grownBy w' v.ownBlock) (h : w.ownsRow base e size v n xs) (hb : n0 ≤ base) (hn : n0 ≤ w.heap.size) : Below n0 w w' :=
  (Below.refl n0 w).grown hg hn (fun k hk => Nat.le_trans hb (h.lt k hk).1)

set_option maxHeartbeats 1000000 in
theorem rCount_any (n0 g c n : Nat) (bs : List Nat) (w : World) (h : w.ownsRow n0 5 1 (.slice (some ⟨g, 0, none⟩) bs.length c) bs.length (cellsOfRow .u8 bs)) (hn : n0 ≤ w.heap.size) (hbs : bs.length ≤ 1000) (hn2 : n ≤ 4194304) :
    Calls Try.prog 38 #[.slice (some ⟨g, 0, none⟩) bs.length c, .int .i64 (n : Int)] w (RetOwn n0 w (bs ++ varint n)) := by
  have H := Lib.hid h
  have hmaxn : max 0 (n : Int) = (n : Int) := by omega
  have hite : (if 0 < n then (n : Int) else 0) = (n : Int) := by split <;> omega
  have hite2 : (if (0 : Int) < (n : Int) then (n : Int) else 0) = (n : Int) := by split <;> omega
  obtain ⟨b0, hb0⟩ : ∃ b0, b0 = bs.length := ⟨_, rfl⟩
  rw [← hb0] at H hbs ⊢
  have HB0 := Lib.hid hb0
  clear h hb0
  go_enter Try.func38, Try.ntmps38
  go_wp2
  go_loopw [0, 5] (fun b u wr => ∃ (m : Nat) (xs : List Nat) (l g cap : Nat), m ≤ n ∧ u = .int .u64 m ∧ b = .slice (some ⟨g, 0, none⟩) l cap ∧ l ≤ 1010 ∧ 0 < l + 0 * m + 1 ∧ n0 ≤ wr.heap.size ∧ Hid (xs.length = l) ∧ Hid (xs ++ varint m = bs ++ varint n) ∧ Hid (wr.ownsRow n0 5 1 (.slice (some ⟨g, 0, none⟩) l cap) l (cellsOfRow .u8 xs)) ∧ Hid (Below n0 w wr)) (fun _ u _ => (intOf u).toNat)
  case atStart => exact ⟨n, bs, b0, g, c, Nat.le_refl _, rfl, rfl, by omega, by omega, hn, HB0.out.symm, rfl, H.out, Below.refl _ _⟩
  case round =>
    obtain ⟨m, xs, l, g1, cap, hm, rfl, rfl, hl, _, hnr, HL, HV, HR, HB⟩ := hrel
    have hxl : l ≤ 1005 := by
      have h1 := congrArg List.length HV.out
      have h2 := varint_length n 4 (by omega) (by omega)
      simp only [List.length_append] at h1
      have := HL.out; have := HB0.out
      omega
    by_cases h : 127 < m
    · obtain ⟨d, hd⟩ : ∃ d, d = m % 128 := ⟨_, rfl⟩
      have hd2 : d < 128 := by omega
      obtain ⟨y, hy⟩ : ∃ y, y = d + 128 := ⟨_, rfl⟩
      have e1 : bits .and .u64 (m : Int) 127 = (d : Int) := by rw [u64_mask m (by omega), hd]
      have e3 : (d : Int) % 256 = (d : Int) := by omega
      have e2 : bits .or .u8 (d : Int) 128 = (y : Int) := by rw [u8_more hd2, hy]
      have hvar : varint m = y :: varint (m / 128) := by rw [varint_big (by omega), hy, hd]
      have HV2 : Hid ((xs ++ [y]) ++ varint (m / 128) = bs ++ varint n) := by rw [List.append_assoc, List.singleton_append, ← hvar]; exact HV
      clear hvar HV hy hd hd2
      have A1 := Lib.hid (At.new1 wr .u8 y 5)
      have OW := Lib.hid (HR.out.alloc (.cells #[.int .u8 (y : Int)] 5))
      go_wp2_with (at_builtin; go_loud (refine wpList_append_wr _ rfl (.tmp 11) (.tmp 16) rfl n0 (.slice (some ⟨g1, 0, none⟩) l cap) l xs [y] rfl HL.out OW.out wr.heap.size 0 1 1 rfl rfl A1.out (by omega) (by omega) (by simp; omega) ?_))
      intro g2 cap2 w2 hown hg hold
      have hb2 : Below n0 w w2 := (HB.out.alloc hnr _).grown hg (by simp; omega) (fun k hk => (HR.out.lt k hk).1)
      have hz2 : n0 ≤ w2.heap.size := by have := hg.size; simp at this; omega
      have HO := Lib.hid hown; have HB2 := Lib.hid hb2
      have HL2 := Lib.hid (show (xs ++ [y]).length = l + 1 by rw [List.length_append, HL.out]; rfl)
      clear hown hg hold hb2 e1 e2 e3
      go_wp2
      go_roundw
      case rel => exact ⟨m / 128, xs ++ [y], l + 1, g2, cap2, by omega, by rw [Int.natCast_ediv]; rfl, rfl, by omega, by omega, hz2, HL2, HV2, HO, HB2⟩
      case measure => simp [intOf]; omega
    · have e3 : (m : Int) % 256 = (m : Int) := by omega
      have hvar : varint m = [m] := varint_small (by omega)
      have HV2 : Hid (xs ++ [m] = bs ++ varint n) := by rw [← hvar]; exact HV
      clear hvar HV
      have A1 := Lib.hid (At.new1 wr .u8 m 5)
      have OW := Lib.hid (HR.out.alloc (.cells #[.int .u8 (m : Int)] 5))
      go_wp2_with (at_builtin; go_loud (refine wpList_append_wr _ rfl (.tmp 20) (.tmp 23) rfl n0 (.slice (some ⟨g1, 0, none⟩) l cap) l xs [m] rfl HL.out OW.out wr.heap.size 0 1 1 rfl rfl A1.out (by omega) (by omega) (by simp; omega) ?_))
      intro g2 cap2 w2 hown hg hold
      have hb2 : Below n0 w w2 := (HB.out.alloc hnr _).grown hg (by simp; omega) (fun k hk => (HR.out.lt k hk).1)
      have HO := Lib.hid hown; have HB2 := Lib.hid hb2
      have HL2 := Lib.hid (show l + 1 = (bs ++ varint n).length by rw [← HV2.out, List.length_append, HL.out]; rfl)
      clear hown hg hold hb2 e3
      go_wp2
      go_ret
      have ho := HO.out
      rw [HV2.out, HL2.out] at ho
      exact ⟨g2, cap2, by rw [← HL2.out]; rfl, ho, HB2.out⟩

theorem be8_take_succ (f k : Nat) (hk : k < 8) : (be8 f).take (k + 1) = (be8 f).take k ++ [f / 2 ^ (8 * (7 - k)) % 256] := by
  match k, hk with
  | 0, _ | 1, _ | 2, _ | 3, _ | 4, _ | 5, _ | 6, _ => rfl
  | 7, _ => simp [be8]

set_option maxHeartbeats 2000000 in
theorem rSeal_any (k b off l c : Nat) (body : List Nat) (w : World) (hk2 : k ≤ 255) (hl : body.length = l) (hl2 : l ≤ 4194304) (hlt : ∀ x ∈ body, x < 256) (h : At w .u8 b off body) :
    Calls Try.prog 19 #[.int .i64 (k : Int), .slice (some ⟨b, off, none⟩) l c] w (RetOwn w.heap.size w (sealed k body)) := by
  have HX := Lib.hid h; have HL := Lib.hid hl; have HT := Lib.hid hlt
  clear h hl hlt
  have hk256 : (k : Int) % 256 = (k : Int) := by omega
  have O1 := Lib.hid (World.ownsRow_lit (base := w.heap.size) (e := 5) (size := 1) w #[.int .u8 (k : Int)] 1 (Nat.le_refl _) (by simp [maxLen]) rfl)
  obtain ⟨n0, hn0⟩ : ∃ n0, n0 = w.heap.size := ⟨_, rfl⟩
  have HN0 := Lib.hid hn0
  rw [← hn0] at O1
  have HO1 : Hid ((w.alloc (.cells #[.int .u8 (k : Int)] 5)).ownsRow n0 5 1 (.slice (some ⟨n0, 0, none⟩) 1 1) 1 (cellsOfRow .u8 [k])) := O1
  clear hn0 O1
  go_enter Try.func19, Try.ntmps19
  go_wp2_with fail
  rw [← HN0.out]
  refine (rCount_any n0 n0 1 l [k] _ HO1.out (by rw [HN0.out]; simp) (by simp) (by omega)).mono ?_
  rintro e w2 ⟨g2, c2, rfl, ho2, hb2⟩
  have hz2 : n0 ≤ w2.heap.size := by have := hb2.size; rw [HN0.out]; simp at this; omega
  have HB2 := Lib.hid (show Below n0 w w2 from ((Below.refl n0 w).alloc (by rw [HN0.out]; exact Nat.le_refl _) _).trans hb2)
  have A2 := Lib.hid (HX.out.below HB2.out (by rw [HN0.out]; exact Nat.le_refl _))
  obtain ⟨u0, hu0⟩ : ∃ u, u = [k] ++ varint l := ⟨_, rfl⟩
  rw [← hu0] at ho2 ⊢
  obtain ⟨s0, hs0⟩ : ∃ s, s = u0.length := ⟨_, rfl⟩
  rw [← hs0] at ho2 ⊢
  have hsb : 0 < s0 ∧ s0 ≤ 20 := by
    have := varint_length l 4 (by omega) (by omega)
    rw [hs0, hu0]; simp; omega
  have HU0 := Lib.hid hu0; have HS0 := Lib.hid hs0; have HO2 := Lib.hid ho2
  clear hb2 ho2 hu0 hs0 hk256 HO1
  go_wp2_with (at_builtin; go_loud (refine wpList_append_wr _ rfl (.tmp 13) (.tmp 14) rfl n0 (.slice (some ⟨g2, 0, none⟩) s0 c2) s0 u0 body rfl HS0.out.symm HO2.out b off l c rfl HL.out A2.out (by omega) (by omega) hz2 ?_))
  intro g3 c3 w3 hown hg hold
  have HB3 := Lib.hid (HB2.out.grown hg hz2 (fun k hk => (HO2.out.lt k hk).1))
  have hz3 : n0 ≤ w3.heap.size := by have := hg.size; omega
  have hu : u0 ++ body = unsealed k body := by rw [HU0.out, ← HL.out]; simp [unsealed]
  rw [hu] at hown
  obtain ⟨u, hue⟩ : ∃ u, u = unsealed k body := ⟨_, rfl⟩
  rw [← hue] at hown
  obtain ⟨s, hse⟩ : ∃ s, s = s0 + l := ⟨_, rfl⟩
  have hul : u.length = s := by rw [hue, ← hu, List.length_append, HL.out, hse, HS0.out]
  rw [← hse] at hown ⊢
  have hsb3 : s ≤ 4194304 + 20 := by omega
  have hux : ∀ x ∈ u, x < 256 := by rw [hue]; exact unsealed_lt k body (by omega) HT.out
  obtain ⟨hg3, hsc, A3⟩ : n0 ≤ g3 ∧ s ≤ c3 ∧ At w3 .u8 g3 0 u := by
    have := ownsRow_at (k := .u8) hown hul
    exact ⟨this.1, this.2.1, this.2.2.1⟩
  have HUE := Lib.hid hue; have HUL := Lib.hid hul; have HA3 := Lib.hid A3; have HUX := Lib.hid hux; have HO3 := Lib.hid hown
  clear hown hg hold hu hue hul A3 hux hse HO2 A2 hsb
  go_wp2_with fail
  refine (rsum_at g3 0 s c3 u w3 HUL.out (by omega) HUX.out HA3.out).mono ?_
  rintro e w' ⟨rfl, rfl⟩
  have hf := fnv_lt u
  obtain ⟨f, hfe⟩ : ∃ f, f = fnv u := ⟨_, rfl⟩
  rw [← hfe] at hf ⊢
  have HF := Lib.hid hfe
  clear hfe
  go_wp2
  go_loopw [5, 7] (fun x i wr => ∃ (j g cap sl : Nat) (ii : Int), j ≤ 8 ∧ i = .int .i64 ii ∧ ii = 7 - (j : Int) ∧ sl = s + j ∧ x = .slice (some ⟨g, 0, none⟩) sl cap ∧ n0 ≤ wr.heap.size ∧ Hid (wr.ownsRow n0 5 1 (.slice (some ⟨g, 0, none⟩) sl cap) sl (cellsOfRow .u8 (u ++ (be8 f).take j))) ∧ Hid (Below n0 w wr)) (fun _ i _ => (intOf i + 1).toNat)
  case atStart =>
    refine ⟨0, g3, c3, s, 7, by omega, rfl, rfl, rfl, rfl, hz3, ?_, HB3⟩
    rw [List.take_zero, List.append_nil]; exact HO3
  case round =>
    obtain ⟨j, g, cap, sl, ii, hj, rfl, hii, hsl, rfl, hzr, HO, HB⟩ := hrel
    by_cases hj8 : j < 8
    · have hnext := be8_take_succ f j hj8
      obtain ⟨y, hy⟩ : ∃ y, y = f / 2 ^ (8 * (7 - j)) % 256 := ⟨_, rfl⟩
      rw [← hy] at hnext
      obtain ⟨xs, hxs⟩ : ∃ xs, xs = u ++ (be8 f).take j := ⟨_, rfl⟩
      have HNX := Lib.hid (show xs ++ [y] = u ++ (be8 f).take (j + 1) by rw [hnext, hxs, List.append_assoc])
      rw [← hxs] at HO
      have A1 := Lib.hid (At.new1 wr .u8 y 5)
      have OW := Lib.hid (HO.out.alloc (.cells #[.int .u8 (y : Int)] 5))
      have HSL := Lib.hid hsl
      have hslb : sl ≤ 4194304 + 30 := by omega
      have HXL := Lib.hid (show xs.length = sl by rw [hxs, List.length_append, HUL.out, List.length_take, be8_length]; omega)
      clear hnext hsl hxs
      rcases (by omega : j = 0 ∨ j = 1 ∨ j = 2 ∨ j = 3 ∨ j = 4 ∨ j = 5 ∨ j = 6 ∨ j = 7) with rfl | rfl | rfl | rfl | rfl | rfl | rfl | rfl
      · have hi : ii = 7 := by omega
        clear hii
        subst hi
        have e1 : (f : Int) / 72057594037927936 = (y : Int) := by rw [hy]; simp; omega
        clear hy
        go_wp2_with (at_builtin; go_loud (refine wpList_append_wr _ rfl (.tmp 22) (.tmp 29) rfl n0 (.slice (some ⟨g, 0, none⟩) sl cap) sl xs [y] rfl HXL.out OW.out wr.heap.size 0 1 1 rfl rfl A1.out (by omega) (by omega) (by simp; omega) ?_))
        intro g4 c4 w4 hown hg hold
        have HB4 := Lib.hid ((HB.out.alloc hzr _).grown hg (by simp; omega) (fun k hk => (HO.out.lt k hk).1))
        have hz4 : n0 ≤ w4.heap.size := by have := hg.size; simp at this; omega
        rw [HNX.out] at hown
        have HO4 := Lib.hid hown
        clear hown hg hold e1
        go_wp2
        go_roundw
        case rel => exact ⟨0 + 1, g4, c4, sl + 1, 6, by omega, rfl, rfl, by have := HSL.out; omega, rfl, hz4, HO4, HB4⟩
        case measure => simp [intOf]
      · have hi : ii = 6 := by omega
        clear hii
        subst hi
        have e1 : (f : Int) / 281474976710656 % 256 = (y : Int) := by rw [hy]; simp
        clear hy
        go_wp2_with (at_builtin; go_loud (refine wpList_append_wr _ rfl (.tmp 22) (.tmp 29) rfl n0 (.slice (some ⟨g, 0, none⟩) sl cap) sl xs [y] rfl HXL.out OW.out wr.heap.size 0 1 1 rfl rfl A1.out (by omega) (by omega) (by simp; omega) ?_))
        intro g4 c4 w4 hown hg hold
        have HB4 := Lib.hid ((HB.out.alloc hzr _).grown hg (by simp; omega) (fun k hk => (HO.out.lt k hk).1))
        have hz4 : n0 ≤ w4.heap.size := by have := hg.size; simp at this; omega
        rw [HNX.out] at hown
        have HO4 := Lib.hid hown
        clear hown hg hold e1
        go_wp2
        go_roundw
        case rel => exact ⟨1 + 1, g4, c4, sl + 1, 5, by omega, rfl, rfl, by have := HSL.out; omega, rfl, hz4, HO4, HB4⟩
        case measure => simp [intOf]
      · have hi : ii = 5 := by omega
        clear hii
        subst hi
        have e1 : (f : Int) / 1099511627776 % 256 = (y : Int) := by rw [hy]; simp
        clear hy
        go_wp2_with (at_builtin; go_loud (refine wpList_append_wr _ rfl (.tmp 22) (.tmp 29) rfl n0 (.slice (some ⟨g, 0, none⟩) sl cap) sl xs [y] rfl HXL.out OW.out wr.heap.size 0 1 1 rfl rfl A1.out (by omega) (by omega) (by simp; omega) ?_))
        intro g4 c4 w4 hown hg hold
        have HB4 := Lib.hid ((HB.out.alloc hzr _).grown hg (by simp; omega) (fun k hk => (HO.out.lt k hk).1))
        have hz4 : n0 ≤ w4.heap.size := by have := hg.size; simp at this; omega
        rw [HNX.out] at hown
        have HO4 := Lib.hid hown
        clear hown hg hold e1
        go_wp2
        go_roundw
        case rel => exact ⟨2 + 1, g4, c4, sl + 1, 4, by omega, rfl, rfl, by have := HSL.out; omega, rfl, hz4, HO4, HB4⟩
        case measure => simp [intOf]
      · have hi : ii = 4 := by omega
        clear hii
        subst hi
        have e1 : (f : Int) / 4294967296 % 256 = (y : Int) := by rw [hy]; simp
        clear hy
        go_wp2_with (at_builtin; go_loud (refine wpList_append_wr _ rfl (.tmp 22) (.tmp 29) rfl n0 (.slice (some ⟨g, 0, none⟩) sl cap) sl xs [y] rfl HXL.out OW.out wr.heap.size 0 1 1 rfl rfl A1.out (by omega) (by omega) (by simp; omega) ?_))
        intro g4 c4 w4 hown hg hold
        have HB4 := Lib.hid ((HB.out.alloc hzr _).grown hg (by simp; omega) (fun k hk => (HO.out.lt k hk).1))
        have hz4 : n0 ≤ w4.heap.size := by have := hg.size; simp at this; omega
        rw [HNX.out] at hown
        have HO4 := Lib.hid hown
        clear hown hg hold e1
        go_wp2
        go_roundw
        case rel => exact ⟨3 + 1, g4, c4, sl + 1, 3, by omega, rfl, rfl, by have := HSL.out; omega, rfl, hz4, HO4, HB4⟩
        case measure => simp [intOf]
      · have hi : ii = 3 := by omega
        clear hii
        subst hi
        have e1 : (f : Int) / 16777216 % 256 = (y : Int) := by rw [hy]; simp
        clear hy
        go_wp2_with (at_builtin; go_loud (refine wpList_append_wr _ rfl (.tmp 22) (.tmp 29) rfl n0 (.slice (some ⟨g, 0, none⟩) sl cap) sl xs [y] rfl HXL.out OW.out wr.heap.size 0 1 1 rfl rfl A1.out (by omega) (by omega) (by simp; omega) ?_))
        intro g4 c4 w4 hown hg hold
        have HB4 := Lib.hid ((HB.out.alloc hzr _).grown hg (by simp; omega) (fun k hk => (HO.out.lt k hk).1))
        have hz4 : n0 ≤ w4.heap.size := by have := hg.size; simp at this; omega
        rw [HNX.out] at hown
        have HO4 := Lib.hid hown
        clear hown hg hold e1
        go_wp2
        go_roundw
        case rel => exact ⟨4 + 1, g4, c4, sl + 1, 2, by omega, rfl, rfl, by have := HSL.out; omega, rfl, hz4, HO4, HB4⟩
        case measure => simp [intOf]
      · have hi : ii = 2 := by omega
        clear hii
        subst hi
        have e1 : (f : Int) / 65536 % 256 = (y : Int) := by rw [hy]; simp
        clear hy
        go_wp2_with (at_builtin; go_loud (refine wpList_append_wr _ rfl (.tmp 22) (.tmp 29) rfl n0 (.slice (some ⟨g, 0, none⟩) sl cap) sl xs [y] rfl HXL.out OW.out wr.heap.size 0 1 1 rfl rfl A1.out (by omega) (by omega) (by simp; omega) ?_))
        intro g4 c4 w4 hown hg hold
        have HB4 := Lib.hid ((HB.out.alloc hzr _).grown hg (by simp; omega) (fun k hk => (HO.out.lt k hk).1))
        have hz4 : n0 ≤ w4.heap.size := by have := hg.size; simp at this; omega
        rw [HNX.out] at hown
        have HO4 := Lib.hid hown
        clear hown hg hold e1
        go_wp2
        go_roundw
        case rel => exact ⟨5 + 1, g4, c4, sl + 1, 1, by omega, rfl, rfl, by have := HSL.out; omega, rfl, hz4, HO4, HB4⟩
        case measure => simp [intOf]
      · have hi : ii = 1 := by omega
        clear hii
        subst hi
        have e1 : (f : Int) / 256 % 256 = (y : Int) := by rw [hy]; simp
        clear hy
        go_wp2_with (at_builtin; go_loud (refine wpList_append_wr _ rfl (.tmp 22) (.tmp 29) rfl n0 (.slice (some ⟨g, 0, none⟩) sl cap) sl xs [y] rfl HXL.out OW.out wr.heap.size 0 1 1 rfl rfl A1.out (by omega) (by omega) (by simp; omega) ?_))
        intro g4 c4 w4 hown hg hold
        have HB4 := Lib.hid ((HB.out.alloc hzr _).grown hg (by simp; omega) (fun k hk => (HO.out.lt k hk).1))
        have hz4 : n0 ≤ w4.heap.size := by have := hg.size; simp at this; omega
        rw [HNX.out] at hown
        have HO4 := Lib.hid hown
        clear hown hg hold e1
        go_wp2
        go_roundw
        case rel => exact ⟨6 + 1, g4, c4, sl + 1, 0, by omega, rfl, rfl, by have := HSL.out; omega, rfl, hz4, HO4, HB4⟩
        case measure => simp [intOf]
      · have hi : ii = 0 := by omega
        clear hii
        subst hi
        have e1 : (f : Int) % 256 = (y : Int) := by rw [hy]; simp
        clear hy
        go_wp2_with (at_builtin; go_loud (refine wpList_append_wr _ rfl (.tmp 22) (.tmp 29) rfl n0 (.slice (some ⟨g, 0, none⟩) sl cap) sl xs [y] rfl HXL.out OW.out wr.heap.size 0 1 1 rfl rfl A1.out (by omega) (by omega) (by simp; omega) ?_))
        intro g4 c4 w4 hown hg hold
        have HB4 := Lib.hid ((HB.out.alloc hzr _).grown hg (by simp; omega) (fun k hk => (HO.out.lt k hk).1))
        have hz4 : n0 ≤ w4.heap.size := by have := hg.size; simp at this; omega
        rw [HNX.out] at hown
        have HO4 := Lib.hid hown
        clear hown hg hold e1
        go_wp2
        go_roundw
        case rel => exact ⟨7 + 1, g4, c4, sl + 1, -1, by omega, rfl, rfl, by have := HSL.out; omega, rfl, hz4, HO4, HB4⟩
        case measure => simp [intOf]
    · obtain rfl : j = 8 := by omega
      have hi : ii = -1 := by omega
      clear hii hj8 hj
      subst hi
      have hfull : u ++ (be8 f).take 8 = sealed k body := by rw [show (be8 f).take 8 = be8 f from rfl, HF.out, HUE.out]; rfl
      rw [hfull] at HO
      have hsl2 : sl = (sealed k body).length := by rw [hsl, sealed_length, ← HUL.out, HUE.out, unsealed_length]
      have HSL := Lib.hid hsl2
      clear hfull hsl hsl2
      go_wp2
      go_ret
      rw [← HN0.out]
      have ho := HO.out
      rw [HSL.out] at ho
      exact ⟨g, cap, by rw [HSL.out]; rfl, ho, HB.out⟩
end Go.Proofs.Ytdmoiagliflecaa
