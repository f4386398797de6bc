/- The further examples of chapter 4: what Next yields; the number 0. -/
import Derived.Test.YtdmoiagliflecaaO16
namespace Go.Proofs.Ytdmoiagliflecaa
open Go.RowKit

/-- A record, whatever follows it. -/
theorem nextSpec_sealed (k : Nat) (B r : List Nat) (hk : k ≠ 0) (hB : B.length ≤ 4194304) : nextSpec (sealed k B ++ r) = (k, B, (sealed k B).length, 0) := by
  have h1 : readSpec ((sealed k B ++ r).drop 1) = (B.length, (varint B.length).length, 0) := by
    unfold sealed unsealed
    rw [List.cons_append, List.cons_append, List.drop_one, List.tail_cons, List.append_assoc, List.append_assoc]
    exact readSpec_varint _ _ (by omega)
  have hu := unsealed_length k B
  have hl : (sealed k B ++ r).length = (unsealed k B).length + 8 + r.length := by rw [List.length_append, sealed_length, hu]
  unfold nextSpec
  rw [h1]
  simp only
  rw [if_neg (by rw [hl]; omega), if_neg (by unfold sealed unsealed; simpa using hk), if_neg (by decide), if_neg (by omega), if_neg (by rw [hl, hu]; omega), ← hu, if_neg]
  · have h2 : (sealed k B ++ r).drop (1 + (varint B.length).length) = B ++ (be8 (fnv (unsealed k B)) ++ r) := by
      unfold sealed unsealed
      rw [show 1 + (varint B.length).length = (varint B.length).length + 1 from by omega, List.append_assoc, List.cons_append, List.drop_succ_cons, List.append_assoc, List.drop_left]
    rw [h2, List.take_left, sealed_length, hu]
    have h3 : (sealed k B ++ r).getD 0 0 = k := rfl
    rw [h3]
  · unfold sealed
    rw [List.append_assoc, List.take_left, List.drop_left]
    intro h
    exact h (List.take_left' rfl)
theorem nextSpec_cut (k : Nat) (B : List Nat) (j : Nat) (hk : k ≠ 0) (hB : B.length ≤ 4194304) (h1 : 1 + (varint B.length).length ≤ j) (h2 : j < (sealed k B).length) : nextSpec ((sealed k B).take j) = (0, [], 0, 3) := by
  have hl : ((sealed k B).take j).length = j := by rw [List.length_take]; omega
  have hr : readSpec (((sealed k B).take j).drop 1) = (B.length, (varint B.length).length, 0) := by
    unfold sealed unsealed
    have h3 : (((k :: (varint B.length ++ B)) ++ be8 (fnv (k :: (varint B.length ++ B)))).take j).drop 1 = varint B.length ++ ((B ++ be8 (fnv (k :: (varint B.length ++ B)))).take (j - 1 - (varint B.length).length)) := by
      rw [show j = (j - 1) + 1 from by omega, List.cons_append, List.take_succ_cons, List.drop_one, List.tail_cons, List.append_assoc, List.take_append, List.take_of_length_le (by omega)]
      rfl
    rw [h3]
    exact readSpec_varint _ _ (by omega)
  unfold nextSpec
  rw [hr]
  simp only
  have hg : ((sealed k B).take j).getD 0 0 = k := by
    rw [show j = (j - 1) + 1 from by omega]; rfl
  rw [hl, hg, if_neg (by omega), if_neg hk, if_neg (by decide), if_neg (by omega), if_pos]
  rw [sealed_length] at h2
  exact h2

theorem next_k0 : nextSpec [] = (0, [], 0, 3) := rfl
theorem next_k1 : nextSpec [0] = (0, [], 0, 2) := rfl
theorem next_k2 : nextSpec [1, 128, 0] = (0, [], 0, 2) :=
  nextSpec_err (findSpec_form (i := 2) (by decide) (by decide) (by decide) (by decide) (by decide) (by decide)) (by decide)
theorem next_k3 : nextSpec [1, 255, 255, 255, 127] = (0, [], 0, 4) := by
  have h := findSpec_num (t := [1, 255, 255, 255, 127]) (i := 4) (N := 268435455) (by decide) (by decide) (by decide) (by decide) (by decide) (by decide) (by decide)
  rw [if_pos (by decide)] at h
  exact nextSpec_err h (by decide)
theorem read_k1 : readSpec [1, 5] = (1, 1, 0) := by
  have := readSpec_varint 1 [5] (by decide)
  rwa [varint_small (by decide)] at this
theorem read_k0 : readSpec [] = (0, 0, 3) := readSpec_short rfl

set_option maxHeartbeats 400000 in
theorem oTrim0 (g : Nat) (w : World) : Calls Try.prog 53 #[.slice (some ⟨g, 0, none⟩) 0 0] w fun e w' => e = .returned (.slice (some ⟨g, 0, none⟩) 0 0) ∧ w = w' := by
  go_enter Try.func53, Try.ntmps53
  go_wp2
  go_loop [3] (fun n => n = .int .i64 0) (fun _ => 0)
  case atStart => exact rfl
  case round =>
    obtain rfl := hrel
    go_wp2
    go_ret
    exact ⟨rfl, rfl⟩

set_option maxHeartbeats 400000 in
theorem oOfWords0 (g : Nat) (w : World) : Calls Try.prog 48 #[.slice (some ⟨g, 0, none⟩) 0 0] w fun e w' => e = .returned (.agg #[.int .u64 0, .slice none 0 0]) ∧ Below w.heap.size w w' := by
  go_enter Try.func48, Try.ntmps48
  go_wp2_with fail
  refine (oTrim0 g _).mono ?_
  rintro e w2 ⟨rfl, rfl⟩
  go_wp2
  exact bodyPost_ret (v := .agg #[.int .u64 0, .slice none 0 0]) (by simp [results, Try.results48, go_sem]) rfl ⟨rfl, by repeat' first | exact Below.refl _ _ | refine below_alloc ?_ _ | refine Below.setCell ?_ (by simp) _⟩
end Go.Proofs.Ytdmoiagliflecaa
