/- The document's greatest common divisor with its factors: what stays while both numbers, with their signs, go down. -/
import Derived.Test.YthjeidgmkkkmbaaGreatDoorBezU
import Derived.Test.YthjeidgmkkkmbaaGreatDoorRIntDiv
namespace Go.Proofs.YthjeidgmkkkmbaaGreatDoor
open Go.RowKit

/-- What stays while the document's Bezout goes down: r and s are made of both numbers, x and u are small. -/
structure SInv (a b r s x u : Int) : Prop where
  gcd : Nat.gcd r.natAbs s.natAbs = Nat.gcd a.natAbs b.natAbs
  c0 : ∃ k, r = a * x + b * k
  c1 : ∃ k, s = a * u + b * k
  bound : u.natAbs * r.natAbs + x.natAbs * s.natAbs ≤ b.natAbs
  signs : u = 0 ∨ 0 ≤ r * s
  m0 : x.natAbs ≤ b.natAbs
  m1 : u.natAbs ≤ b.natAbs
  k0 : r.natAbs ≤ a.natAbs + b.natAbs
  k1 : s.natAbs ≤ a.natAbs + b.natAbs
theorem SInv.start {a b : Int} (hb : b ≠ 0) : SInv a b a b 1 0 := by
  refine ⟨rfl, ⟨0, by omega⟩, ⟨1, by omega⟩, ?_, Or.inl rfl, ?_, ?_, ?_, ?_⟩ <;> simp <;> omega
theorem gcd_qmod (r s : Int) : Nat.gcd s.natAbs (qmod r s).natAbs = Nat.gcd r.natAbs s.natAbs := by
  have h : qmod r s = r + s * (-(qdiv r s)) := by unfold qmod; rw [Int.mul_neg, Int.mul_comm s, Int.sub_eq_add_neg]
  show Int.gcd s (qmod r s) = Int.gcd r s
  rw [h, Int.gcd_add_mul_left_right, Int.gcd_comm]
theorem quot_same {r s : Int} (hs : s ≠ 0) (h : 0 ≤ r * s) : r.natAbs = (qdiv r s).natAbs * s.natAbs + (qmod r s).natAbs := by
  obtain ⟨h1, h2⟩ := qdiv_parts (x := r) hs
  have hq : 0 ≤ qdiv r s := by
    unfold qdiv
    split
    · next h3 =>
      have : 0 ≤ r := Int.nonneg_of_mul_nonneg_left h h3
      exact Int.ediv_nonneg this (by omega)
    · next h3 =>
      have h5 : 0 ≤ (-r) * (-s) := by rw [Int.neg_mul_neg]; exact h
      have : 0 ≤ -r := Int.nonneg_of_mul_nonneg_left h5 (by omega)
      exact Int.ediv_nonneg this (by omega)
  rw [← Int.natAbs_mul]
  rcases h2 with ⟨h2, h3⟩ | ⟨h2, h3⟩
  · have h4 : 0 ≤ qdiv r s * s := Int.mul_nonneg hq (by omega)
    omega
  · have h4 : qdiv r s * s ≤ 0 := by
      have := Int.mul_nonneg hq (show 0 ≤ -s by omega)
      rw [Int.mul_neg] at this; omega
    omega
theorem SInv.step {a b r s x u : Int} (h : SInv a b r s x u) (hs : s ≠ 0) : SInv a b s (qmod r s) u (x - qdiv r s * u) := by
  obtain ⟨h1, h2⟩ := qdiv_parts (x := r) hs
  obtain ⟨k, hk⟩ := h.c0
  obtain ⟨j, hj⟩ := h.c1
  have hm : (qmod r s).natAbs < s.natAbs := by omega
  have hbd : (x - qdiv r s * u).natAbs * s.natAbs + u.natAbs * (qmod r s).natAbs ≤ b.natAbs := by
    rcases h.signs with h3 | h3
    · have := h.bound
      subst h3
      simp at this ⊢
      exact this
    · have h4 := quot_same hs h3
      have h5 : (x - qdiv r s * u).natAbs ≤ x.natAbs + (qdiv r s).natAbs * u.natAbs := by rw [← Int.natAbs_mul]; omega
      have h6 := Nat.mul_le_mul_right s.natAbs h5
      have h7 := h.bound
      rw [h4] at h7
      refine Nat.le_trans (Nat.add_le_add_right h6 _) (Nat.le_trans (Nat.le_of_eq ?_) h7)
      grind
  refine ⟨(gcd_qmod r s).trans h.gcd, h.c1, ⟨k - qdiv r s * j, ?_⟩, hbd, Or.inr ?_, h.m1, ?_, h.k1, ?_⟩
  · have h8 : qmod r s = r - qdiv r s * s := rfl
    rw [h8]
    generalize qdiv r s = q at *
    rw [hk, hj]
    clear h1 h2 hm hbd h8 hk hj h
    grind
  · rcases h2 with ⟨h2, h3⟩ | ⟨h2, h3⟩
    · exact Int.mul_nonneg (by omega) h2
    · have := Int.mul_nonneg (show 0 ≤ -s by omega) (show 0 ≤ -(qmod r s) by omega)
      rwa [Int.neg_mul_neg] at this
  · have h8 : 0 < s.natAbs := by omega
    have h9 := Nat.le_mul_of_pos_right (x - qdiv r s * u).natAbs h8
    omega
  · have := h.k1; omega
theorem SInv.flip {a b r x u : Int} (h : SInv a b r 0 x u) : (0 ≤ r → BInv a b r.natAbs 0 x 0) ∧ (r < 0 → BInv a b r.natAbs 0 (-x) 0) := by
  obtain ⟨k, hk⟩ := h.c0
  have hg := h.gcd
  have h0 := h.k0
  have h1 := h.m0
  constructor
  · intro hr
    refine ⟨hg, ⟨k, by omega⟩, ⟨0, by simp⟩, by simp, by simp, h1, by simp, h0, by simp⟩
  · intro hr
    refine ⟨hg, ⟨-k, ?_⟩, ⟨0, by simp⟩, by simp, by simp, ?_, by simp, h0, by simp⟩
    · rw [Int.mul_neg, Int.mul_neg]; omega
    · omega
end Go.Proofs.YthjeidgmkkkmbaaGreatDoor

/- The document's greatest common divisor, and how it is made of both numbers. -/
namespace Go.Proofs.YthjeidgmkkkmbaaGreatDoor
open Go.RowKit


set_option maxRecDepth 100000 in
set_option maxHeartbeats 4000000 in
theorem rGcd_want (w : World) (u v : Value) (m n : Nat) (hm : (ds m).length ≤ 500) (hn : (ds n).length ≤ 500) (h1 : RNum w u m) (h2 : RNum w v n) :
    Calls Tryz.prog 23 #[u, v] w (Gives w (.rnum (Nat.gcd m n))) := by
  have H1 : Hid (Means w (.rnum m) u) := Lib.hid h1; have H2 : Hid (Means w (.rnum n) v) := Lib.hid h2; have HS := Lib.hid (And.intro hm hn)
  clear h1 h2 hm hn
  go_enter Tryz.func23, Tryz.ntmps23
  refine wp_seq_k ?_; intro K1 hK1; replace hK1 := Lib.hid hK1
  go_wp2
  have HB := Lib.hid (Below.refl w.heap.size w)
  refine hK1.out _ _ ?_; clear hK1; try clear K1
  refine wp_seq_k ?_; intro K2 hK2; replace hK2 := Lib.hid hK2
  refine wp_block ?_
  go_loopg [0, 1] n (fun k a b wr => ∃ j, Hid (Nat.gcd j k = Nat.gcd m n) ∧ Hid ((ds j).length ≤ 500 ∧ (ds k).length ≤ 500) ∧ Hid (Means wr (.rnum j) a) ∧ Hid (Means wr (.rnum k) b) ∧ Hid (Below w.heap.size w wr))
  case atStart => exact ⟨m, Lib.hid rfl, HS, H1, H2, HB⟩
  case round =>
    clear HB H1 H2 HS
    obtain ⟨j, HG, HS, V_0, V_1, HB⟩ := hrel
    obtain ⟨k, hk⟩ : ∃ k, k = gk := ⟨_, rfl⟩
    rw [← hk] at HG HS V_1
    have HGK := Lib.hid hk
    clear hk
    rcases Nat.eq_zero_or_pos k with hk0 | hk0
    · have HK0 := Lib.hid hk0
      clear hk0
      refine wp_seq_k ?_; intro K3 hK3; replace hK3 := Lib.hid hK3
      refine wp_seq_k ?_; intro K4 hK4; replace hK4 := Lib.hid hK4
      refine region_tell (T := [0, 1, 2]) (slots := [7, 8, 9]) (tab := [.rnum k, .that (lenS k), .is (.bool false)])
          (D := []) (F := [(u0, .rnum j), (u1, .rnum k)]) List.Pairwise.nil (fc V_0.out (fc V_1.out fn)) hn ?_ ?_
      · refine .pl rfl (fun β E W Γ => ev_moveM (Γ.m rfl mb1)) ?_
        refine .pl rfl (fun β E W Γ => ev_len (Γ.w 0 rfl)) ?_
        refine .pl rfl (fun β E W Γ => ev_lenGtr (Γ.w 1 rfl) (by simp [HK0.out]) Γ.c) ?_
        exact .nil
      intro β f5 W5 hf hS hN hA hP hlo hlt hap
      have HB := Lib.hid (HB.out.trans (hA.below (B := w.heap.size) (by intro b hb; simp [oldBlocks] at hb) HB.out.size))
      have V_0_5 := Lib.hid (hN (_, _) mb0)
      have V_1_5 := Lib.hid (hN (_, _) mb1)
      have p9_5 : f5 9 = .bool false := hf (2, 9) (by simp)
      simp only [fillSlots, p9_5, List.setIfInBounds_toArray, List.set_cons_succ, List.set_cons_zero]
      clear hf hS hN hA hP hlo hlt hap p9_5
      refine hK4.out _ _ ?_; clear hK4
      refine wp_cond_false rfl ?_
      refine wp_exit ?_
      simp only [Exit.then, Exit.inBlock, ↓reduceIte]
      refine hK2.out _ _ ?_; clear hK2
      refine wp_seq_k ?_; intro K6 hK6; replace hK6 := Lib.hid hK6
      refine region_tell (T := [0, 1]) (slots := [18, 4]) (tab := [.rnum j, .rnum j])
          (D := []) (F := [(u0, .rnum j), (u1, .rnum k)]) List.Pairwise.nil (fc V_0_5.out (fc V_1_5.out fn)) hn ?_ ?_
      · refine .pl rfl (fun β E W Γ => ev_moveM (Γ.m rfl mb0)) ?_
        refine .pl rfl (fun β E W Γ => ev_assignM (Γ.w 0 rfl)) ?_
        exact .nil
      intro β f7 W7 hf hS hN hA hP hlo hlt hap
      have HB := Lib.hid (HB.out.trans (hA.below (B := w.heap.size) (by intro b hb; simp [oldBlocks] at hb) HB.out.size))
      have V_0_7 := Lib.hid (hN (_, _) mb0)
      have V_1_7 := Lib.hid (hN (_, _) mb1)
      have V_4_7 : Hid (Means W7 (.rnum j) (f7 4)) := Lib.hid (hf (1, 4) (by simp))
      simp only [fillSlots, List.setIfInBounds_toArray, List.set_cons_succ, List.set_cons_zero]
      clear hf hS hN hA hP hlo hlt hap
      refine hK6.out _ _ ?_; clear hK6
      refine wp_ret ?_
      have ej : j = Nat.gcd m n := by have h := HG.out; rw [HK0.out, Nat.gcd_zero_right] at h; exact h
      exact bodyPost_ret (v := (f7 4)) (by simp [results, Tryz.results23, go_sem]) rfl ⟨_, rfl, (by rw [← ej]; exact V_4_7.out), HB.out⟩
    · have HK0 := Lib.hid hk0
      clear hk0
      refine wp_seq_k ?_; intro K8 hK8; replace hK8 := Lib.hid hK8
      refine wp_seq_k ?_; intro K9 hK9; replace hK9 := Lib.hid hK9
      refine region_tell (T := [0, 1, 2]) (slots := [7, 8, 9]) (tab := [.rnum k, .that (lenS k), .is (.bool true)])
          (D := []) (F := [(u0, .rnum j), (u1, .rnum k)]) List.Pairwise.nil (fc V_0.out (fc V_1.out fn)) hn ?_ ?_
      · refine .pl rfl (fun β E W Γ => ev_moveM (Γ.m rfl mb1)) ?_
        refine .pl rfl (fun β E W Γ => ev_len (Γ.w 0 rfl)) ?_
        refine .pl rfl (fun β E W Γ => ev_lenGtr (Γ.w 1 rfl) (decide_eq_true (by have := HK0.out; omega)) Γ.c) ?_
        exact .nil
      intro β f10 W10 hf hS hN hA hP hlo hlt hap
      have HB := Lib.hid (HB.out.trans (hA.below (B := w.heap.size) (by intro b hb; simp [oldBlocks] at hb) HB.out.size))
      have V_0_10 := Lib.hid (hN (_, _) mb0)
      have V_1_10 := Lib.hid (hN (_, _) mb1)
      have p9_10 : f10 9 = .bool true := hf (2, 9) (by simp)
      simp only [fillSlots, p9_10, List.setIfInBounds_toArray, List.set_cons_succ, List.set_cons_zero]
      clear hf hS hN hA hP hlo hlt hap p9_10
      refine hK9.out _ _ ?_; clear hK9
      refine wp_cond_true rfl ?_
      refine wp_skip ?_
      refine hK8.out _ _ ?_; clear hK8
      refine wp_block ?_
      refine wp_seq_k ?_; intro K11 hK11; replace hK11 := Lib.hid hK11
      refine region_tell (T := [0, 1, 2, 3, 4, 5, 6, 7]) (slots := [11, 12, 13, 10, 14, 15, 5, 6]) (tab := [.rnum j, .rnum k, .two (.rnum (j / k)) (.rnum (j % k)), .two (.rnum (j / k)) (.rnum (j % k)), .rnum (j / k), .rnum (j % k), .rnum (j / k), .rnum (j % k)])
          (D := []) (F := [(u0, .rnum j), (u1, .rnum k)]) List.Pairwise.nil (fc V_0_10.out (fc V_1_10.out fn)) hn ?_ ?_
      · refine .pl rfl (fun β E W Γ => ev_moveM (Γ.m rfl mb0)) ?_
        refine .pl rfl (fun β E W Γ => ev_moveM (Γ.m rfl mb1)) ?_
        refine .pl rfl (fun β E W Γ => ev_call2 (Γ.f _) run_rDiv (rDiv_want W _ _ j k (by have := HS.out; omega) HK0.out (Γ.w (d := 11) 0 rfl) (Γ.w (d := 12) 1 rfl))) ?_
        refine .pl rfl (fun β E W Γ => ev_moveM (Γ.w 2 rfl)) ?_
        refine .pl rfl (fun β E W Γ => ev_ex20 (Γ.w 3 rfl)) ?_
        refine .pl rfl (fun β E W Γ => ev_ex21 (Γ.w 3 rfl)) ?_
        refine .pl rfl (fun β E W Γ => ev_assignM (Γ.w 4 rfl)) ?_
        refine .pl rfl (fun β E W Γ => ev_assignM (Γ.w 5 rfl)) ?_
        exact .nil
      intro β f12 W12 hf hS hN hA hP hlo hlt hap
      have HB := Lib.hid (HB.out.trans (hA.below (B := w.heap.size) (by intro b hb; simp [oldBlocks] at hb) HB.out.size))
      have V_0_12 := Lib.hid (hN (_, _) mb0)
      have V_1_12 := Lib.hid (hN (_, _) mb1)
      have V_6_12 : Hid (Means W12 (.rnum (j % k)) (f12 6)) := Lib.hid (hf (7, 6) (by simp))
      simp only [fillSlots, List.setIfInBounds_toArray, List.set_cons_succ, List.set_cons_zero]
      clear hf hS hN hA hP hlo hlt hap
      refine hK11.out _ _ ?_; clear hK11
      refine wp_seq_k ?_; intro K13 hK13; replace hK13 := Lib.hid hK13
      refine region_tell (T := [0, 1]) (slots := [16, 0]) (tab := [.rnum k, .rnum k])
          (D := []) (F := [(u0, .rnum j), (u1, .rnum k), ((f12 6), .rnum (j % k))]) List.Pairwise.nil (fc V_0_12.out (fc V_1_12.out (fc V_6_12.out fn))) hn ?_ ?_
      · refine .pl rfl (fun β E W Γ => ev_moveM (Γ.m rfl mb1)) ?_
        refine .pl rfl (fun β E W Γ => ev_assignM (Γ.w 0 rfl)) ?_
        exact .nil
      intro β f14 W14 hf hS hN hA hP hlo hlt hap
      have HB := Lib.hid (HB.out.trans (hA.below (B := w.heap.size) (by intro b hb; simp [oldBlocks] at hb) HB.out.size))
      have V_0_14 := Lib.hid (hN (_, _) mb0)
      have V_1_14 := Lib.hid (hN (_, _) mb1)
      have V_6_14 := Lib.hid (hN (_, _) mb2)
      have V_0_14 : Hid (Means W14 (.rnum k) (f14 0)) := Lib.hid (hf (1, 0) (by simp))
      simp only [fillSlots, List.setIfInBounds_toArray, List.set_cons_succ, List.set_cons_zero]
      clear hf hS hN hA hP hlo hlt hap
      refine hK13.out _ _ ?_; clear hK13
      refine region_tell (T := [0, 1]) (slots := [17, 1]) (tab := [.rnum (j % k), .rnum (j % k)])
          (D := []) (F := [((f14 0), .rnum k), (u1, .rnum k), ((f12 6), .rnum (j % k))]) List.Pairwise.nil (fc V_0_14.out (fc V_1_14.out (fc V_6_14.out fn))) hn ?_ ?_
      · refine .pl rfl (fun β E W Γ => ev_moveM (Γ.m rfl mb2)) ?_
        refine .pl rfl (fun β E W Γ => ev_assignM (Γ.w 0 rfl)) ?_
        exact .nil
      intro β f15 W15 hf hS hN hA hP hlo hlt hap
      have HB := Lib.hid (HB.out.trans (hA.below (B := w.heap.size) (by intro b hb; simp [oldBlocks] at hb) HB.out.size))
      have V_0_15 := Lib.hid (hN (_, _) mb0)
      have V_1_15 := Lib.hid (hN (_, _) mb1)
      have V_1_15 : Hid (Means W15 (.rnum (j % k)) (f15 1)) := Lib.hid (hf (1, 1) (by simp))
      simp only [fillSlots, List.setIfInBounds_toArray, List.set_cons_succ, List.set_cons_zero]
      clear hf hS hN hA hP hlo hlt hap
      simp only [Exit.then, Exit.inBlock]
      go_step
      go_roundg (j % k)
      case measure => have := HGK.out; have := Nat.mod_lt j HK0.out; omega
      case rel => exact ⟨k, Lib.hid (by rw [Nat.gcd_comm, ← Nat.gcd_rec, Nat.gcd_comm]; exact HG.out), Lib.hid (by have h := HS.out; have := ds_mono (Nat.mod_le j k); omega), V_0_15, V_1_15, HB⟩
end Go.Proofs.YthjeidgmkkkmbaaGreatDoor
