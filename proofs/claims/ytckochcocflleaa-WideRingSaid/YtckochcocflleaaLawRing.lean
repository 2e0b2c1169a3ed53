/-
  The law WideRing of layer 1, walked.
-/
import Derived.Test.YtckochcocflleaaRingA
namespace Go.Proofs.Ytckochcocflleaa
open Go.RowKit
set_option linter.unusedVariables false

theorem w128_l (x y : Int) : w128 (w128 x + y) = w128 (x + y) := by unfold w128; omega
theorem w128_r (x y : Int) : w128 (x + w128 y) = w128 (x + y) := by unfold w128; omega

set_option maxRecDepth 100000 in
set_option maxHeartbeats 40000000 in
theorem walk_ring (a b c : Int) (ha : In128 a) (hb : In128 b) (hc : In128 c) (w : World) :
    Calls Try.prog 3 #[W a, W b, W c] w fun e w' => e = .returned (.bool true) ∧ Since w w' := by
  obtain ⟨s, hs⟩ : ∃ s, s = w128 (a + b + c) := ⟨_, rfl⟩
  obtain ⟨n1, h1⟩ : ∃ n, n = w128 (a + b) := ⟨_, rfl⟩
  obtain ⟨n2, h2⟩ : ∃ n, n = w128 (c + b) := ⟨_, rfl⟩
  obtain ⟨n3, h3⟩ : ∃ n, n = w128 (a - b) := ⟨_, rfl⟩
  obtain ⟨n4, h4⟩ : ∃ n, n = w128 (-a) := ⟨_, rfl⟩
  have A1 : Hid (∀ w, Calls Try.prog 15 #[W a, W b] w fun e w' => e = .returned (W n1) ∧ Since w w') := by intro w; rw [h1]; exact wide_add a b ha hb w
  have A2 : Hid (∀ w, Calls Try.prog 15 #[W n1, W c] w fun e w' => e = .returned (W s) ∧ Since w w') := by
    intro w
    have := wide_add n1 c (by rw [h1]; exact w128_in _) hc w
    rw [h1, w128_l, ← hs, ← h1] at this; exact this
  have A3 : Hid (∀ w, Calls Try.prog 15 #[W c, W b] w fun e w' => e = .returned (W n2) ∧ Since w w') := by intro w; rw [h2]; exact wide_add c b hc hb w
  have A4 : Hid (∀ w, Calls Try.prog 15 #[W a, W n2] w fun e w' => e = .returned (W s) ∧ Since w w') := by
    intro w
    have := wide_add a n2 ha (by rw [h2]; exact w128_in _) w
    rw [h2, w128_r, show a + (c + b) = a + b + c by omega, ← hs, ← h2] at this; exact this
  have A5 : Hid (∀ w, Calls Try.prog 16 #[W a, W b] w fun e w' => e = .returned (W n3) ∧ Since w w') := by intro w; rw [h3]; exact wide_sub a b ha hb w
  have A6 : Hid (∀ w, Calls Try.prog 15 #[W n3, W b] w fun e w' => e = .returned (W a) ∧ Since w w') := by
    intro w
    have := wide_add n3 b (by rw [h3]; exact w128_in _) hb w
    rw [h3, w128_l, show a - b + b = a by omega, w128_of ha, ← h3] at this; exact this
  have A7 : Hid (∀ w, Calls Try.prog 17 #[W a] w fun e w' => e = .returned (W n4) ∧ Since w w') := by intro w; rw [h4]; exact wide_neg a ha w
  have A8 : Hid (∀ w, Calls Try.prog 15 #[W a, W n4] w fun e w' => e = .returned (.agg #[.int .i64 0, .int .u64 0]) ∧ Since w w') := by
    intro w
    have := wide_add a n4 ha (by rw [h4]; exact w128_in _) w
    rw [h4, w128_r, show a + -a = 0 by omega, ← h4] at this; exact this
  clear hs h1 h2 h3 h4
  have ba := hi_bd ha; have bb := hi_bd hb; have bc := hi_bd hc
  have ip : InW (hiW a / 2) := by unfold InW; omega
  have iq : InW (hiW b / 2) := by unfold InW; omega
  have ir : InW (hiW c) := by unfold InW; omega
  have ipq : InW (hiW a / 2 + hiW b / 2) := by unfold InW; omega
  have ew : wrap64 (hiW a / 2 + hiW b / 2) = hiW a / 2 + hiW b / 2 := by unfold wrap64; omega
  obtain ⟨pr, hpr⟩ : ∃ n, n = hiW a / 2 * hiW c := ⟨_, rfl⟩
  obtain ⟨qr, hqr⟩ : ∃ n, n = hiW b / 2 * hiW c := ⟨_, rfl⟩
  obtain ⟨pqr, hpqr⟩ : ∃ n, n = (hiW a / 2 + hiW b / 2) * hiW c := ⟨_, rfl⟩
  have M1 : Hid (∀ w, Calls Try.prog 18 #[.int .i64 (wrap64 (hiW a / 2 + hiW b / 2)), .int .i64 (hiW c)] w fun e w' => e = .returned (W pqr) ∧ Since w w') := by intro w; rw [ew, hpqr]; exact wide_mul _ _ ipq ir w
  have M2 : Hid (∀ w, Calls Try.prog 18 #[.int .i64 (hiW a / 2), .int .i64 (hiW c)] w fun e w' => e = .returned (W pr) ∧ Since w w') := by intro w; rw [hpr]; exact wide_mul _ _ ip ir w
  have M3 : Hid (∀ w, Calls Try.prog 18 #[.int .i64 (hiW b / 2), .int .i64 (hiW c)] w fun e w' => e = .returned (W qr) ∧ Since w w') := by intro w; rw [hqr]; exact wide_mul _ _ iq ir w
  have M4 : Hid (∀ w, Calls Try.prog 18 #[.int .i64 (hiW c), .int .i64 (hiW a / 2)] w fun e w' => e = .returned (W pr) ∧ Since w w') := by intro w; rw [hpr, Int.mul_comm]; exact wide_mul _ _ ir ip w
  have M5 : Hid (∀ w, Calls Try.prog 15 #[W pr, W qr] w fun e w' => e = .returned (W pqr) ∧ Since w w') := by
    intro w
    have := wide_add pr qr (by rw [hpr]; exact mul_in ip ir) (by rw [hqr]; exact mul_in iq ir) w
    have e : pr + qr = pqr := by rw [hpr, hqr, hpqr, Int.add_mul]
    rw [e, w128_of (by rw [hpqr]; exact mul_in ipq ir)] at this; exact this
  clear hpr hqr hpqr ew ip iq ir ipq ba bb bc
  go_enter Try.func3, Try.ntmps3
  go_wp2_with (go_at_call 13; refine (alive_any _).mono ?_; rintro e w1 ⟨rfl, hS1⟩; have hT := hS1; obtain ⟨hc1, hf1, hz1, hb1⟩ := hT; (try (have hq1_0_0 := hz1 (w.heap.size) (by first | with_reducible assumption | (simp; done) | (simp; omega) | omega); have hp1_0_0 := Nat.ne_of_lt hq1_0_0; have hl1_0_0 := Nat.le_of_lt hq1_0_0)); (try (have hq1_0_1 := hz1 (w.heap.size + 1) (by first | with_reducible assumption | (simp; done) | (simp; omega) | omega); have hp1_0_1 := Nat.ne_of_lt hq1_0_1; have hl1_0_1 := Nat.le_of_lt hq1_0_1)); (try (have hq1_0_2 := hz1 (w.heap.size + 1 + 1) (by first | with_reducible assumption | (simp; done) | (simp; omega) | omega); have hp1_0_2 := Nat.ne_of_lt hq1_0_2; have hl1_0_2 := Nat.le_of_lt hq1_0_2)); (try (have hq1_0_3 := hz1 (w.heap.size + 1 + 1 + 1) (by first | with_reducible assumption | (simp; done) | (simp; omega) | omega); have hp1_0_3 := Nat.ne_of_lt hq1_0_3; have hl1_0_3 := Nat.le_of_lt hq1_0_3)); (try (have hq1_1_0 := hz1 (w1.heap.size) (by first | with_reducible assumption | (simp; done) | (simp; omega) | omega); have hp1_1_0 := Nat.ne_of_lt hq1_1_0; have hl1_1_0 := Nat.le_of_lt hq1_1_0)); (try (have hq1_1_1 := hz1 (w1.heap.size + 1) (by first | with_reducible assumption | (simp; done) | (simp; omega) | omega); have hp1_1_1 := Nat.ne_of_lt hq1_1_1; have hl1_1_1 := Nat.le_of_lt hq1_1_1)); (try (have hq1_2_0 := hz1 (w2.heap.size) (by first | with_reducible assumption | (simp; done) | (simp; omega) | omega); have hp1_2_0 := Nat.ne_of_lt hq1_2_0; have hl1_2_0 := Nat.le_of_lt hq1_2_0)); (try (have hq1_2_1 := hz1 (w2.heap.size + 1) (by first | with_reducible assumption | (simp; done) | (simp; omega) | omega); have hp1_2_1 := Nat.ne_of_lt hq1_2_1; have hl1_2_1 := Nat.le_of_lt hq1_2_1)); (try (have hq1_3_0 := hz1 (w3.heap.size) (by first | with_reducible assumption | (simp; done) | (simp; omega) | omega); have hp1_3_0 := Nat.ne_of_lt hq1_3_0; have hl1_3_0 := Nat.le_of_lt hq1_3_0)); (try (have hq1_3_1 := hz1 (w3.heap.size + 1) (by first | with_reducible assumption | (simp; done) | (simp; omega) | omega); have hp1_3_1 := Nat.ne_of_lt hq1_3_1; have hl1_3_1 := Nat.le_of_lt hq1_3_1)); (try (have hq1_4_0 := hz1 (w4.heap.size) (by first | with_reducible assumption | (simp; done) | (simp; omega) | omega); have hp1_4_0 := Nat.ne_of_lt hq1_4_0; have hl1_4_0 := Nat.le_of_lt hq1_4_0)); (try (have hq1_4_1 := hz1 (w4.heap.size + 1) (by first | with_reducible assumption | (simp; done) | (simp; omega) | omega); have hp1_4_1 := Nat.ne_of_lt hq1_4_1; have hl1_4_1 := Nat.le_of_lt hq1_4_1)); (try (have hq1_5_0 := hz1 (w5.heap.size) (by first | with_reducible assumption | (simp; done) | (simp; omega) | omega); have hp1_5_0 := Nat.ne_of_lt hq1_5_0; have hl1_5_0 := Nat.le_of_lt hq1_5_0)); (try (have hq1_5_1 := hz1 (w5.heap.size + 1) (by first | with_reducible assumption | (simp; done) | (simp; omega) | omega); have hp1_5_1 := Nat.ne_of_lt hq1_5_1; have hl1_5_1 := Nat.le_of_lt hq1_5_1)); (try (have hq1_6_0 := hz1 (w6.heap.size) (by first | with_reducible assumption | (simp; done) | (simp; omega) | omega); have hp1_6_0 := Nat.ne_of_lt hq1_6_0; have hl1_6_0 := Nat.le_of_lt hq1_6_0)); (try (have hq1_6_1 := hz1 (w6.heap.size + 1) (by first | with_reducible assumption | (simp; done) | (simp; omega) | omega); have hp1_6_1 := Nat.ne_of_lt hq1_6_1; have hl1_6_1 := Nat.le_of_lt hq1_6_1)); (try (have hq1_7_0 := hz1 (w7.heap.size) (by first | with_reducible assumption | (simp; done) | (simp; omega) | omega); have hp1_7_0 := Nat.ne_of_lt hq1_7_0; have hl1_7_0 := Nat.le_of_lt hq1_7_0)); (try (have hq1_7_1 := hz1 (w7.heap.size + 1) (by first | with_reducible assumption | (simp; done) | (simp; omega) | omega); have hp1_7_1 := Nat.ne_of_lt hq1_7_1; have hl1_7_1 := Nat.le_of_lt hq1_7_1)); (try (have hq1_8_0 := hz1 (w8.heap.size) (by first | with_reducible assumption | (simp; done) | (simp; omega) | omega); have hp1_8_0 := Nat.ne_of_lt hq1_8_0; have hl1_8_0 := Nat.le_of_lt hq1_8_0)); (try (have hq1_8_1 := hz1 (w8.heap.size + 1) (by first | with_reducible assumption | (simp; done) | (simp; omega) | omega); have hp1_8_1 := Nat.ne_of_lt hq1_8_1; have hl1_8_1 := Nat.le_of_lt hq1_8_1)); (try (have hq1_9_0 := hz1 (w9.heap.size) (by first | with_reducible assumption | (simp; done) | (simp; omega) | omega); have hp1_9_0 := Nat.ne_of_lt hq1_9_0; have hl1_9_0 := Nat.le_of_lt hq1_9_0)); (try (have hq1_9_1 := hz1 (w9.heap.size + 1) (by first | with_reducible assumption | (simp; done) | (simp; omega) | omega); have hp1_9_1 := Nat.ne_of_lt hq1_9_1; have hl1_9_1 := Nat.le_of_lt hq1_9_1)))
  refine wp_named fun w0 hw0 => ?_
  have hA : Row w0 w.heap.size 2 (Wf a) := by subst hw0; exact (((wrow w _ rfl _ a).alloc _).alloc _).since hS1
  have hB : Row w0 (w.heap.size + 1) 2 (Wf b) := by subst hw0; exact ((wrow _ _ (by simp) _ b).alloc _).since hS1
  have hC : Row w0 (w.heap.size + 1 + 1) 2 (Wf c) := by subst hw0; exact (wrow _ _ (by simp) _ c).since hS1
  have hS : Since w w0 := by subst hw0; (repeat (first | with_reducible (exact Since.refl _) | with_reducible assumption | with_reducible (refine Since.drew ?_) | with_reducible (refine Since.drewN ?_ _) | with_reducible (refine Since.alloc ?_ _) | (with_reducible (refine Since.setCell ?_ ?_ _); rotate_left; focus (first | (simp; done) | (simp; omega) | omega)) | (with_reducible (refine Since.trans ?_ (by with_reducible assumption)))))
  clear hw0 hc1 hf1 hz1 hb1 hS1
  go_cut [7, 8, 9] (fun x y z wx => ∃ bx b2 b3 : Nat, x = .pointer (some ⟨bx, 0, none⟩) ∧ y = .pointer (some ⟨b2, 0, none⟩) ∧ z = .pointer (some ⟨b3, 0, none⟩) ∧ RingS w a b c wx ∧ Row wx bx 2 (Wf a) ∧ Row wx b2 2 (Wf b) ∧ Row wx b3 2 (Wf c))
  case first =>
    refine ring_region a b c _ _ _ w (fun q0 q1 q2 wx hSx k0 k1 k2 => ?_) (fun _ _ _ _ _ h => h) rfl rfl rfl w0 ⟨hS, hA, hB, hC⟩
    go_wp2_with fail
    go_meet
    exact ⟨q0, q1, q2, rfl, rfl, rfl, hSx, k0.2, k1.2, k2.2⟩
  case rest =>
    clear hA hB hC hS
    obtain ⟨bx, b2, b3, rfl, rfl, rfl, ⟨hS0, hA, hB, hC⟩, hX, hY, hZ⟩ := hcut
    go_upto_region 4 with fail
    refine wp_named fun wa hwa => ?_
    obtain rfl := hwa
    go_cut [48] (fun v wx => v = .bool false ∧ Since wa wx)
    case first =>
      obtain ⟨hX1, hX2, hX3⟩ := wcells hX
      obtain ⟨hY1, hY2, hY3⟩ := wcells hY
      obtain ⟨hZ1, hZ2, hZ3⟩ := wcells hZ
      clear hA hB hC hX hY hZ hS0
      (refine wp_named fun wr2 hwr2 => ?_; go_region_held3 (fun w' => (∀ b o, b < wr2.heap.size → w'.cell? ⟨b, o, none⟩ = wr2.cell? ⟨b, o, none⟩) ∧ (∀ b o, b < wr2.heap.size → w'.frozen? ⟨b, o, none⟩ = wr2.frozen? ⟨b, o, none⟩) ∧ (∀ k, k < wr2.heap.size → k < w'.heap.size) ∧ Below wr2.heap.size wr2 w') ((subst hwr2; (repeat (with_reducible (refine since_put ?_ ?_ _); rotate_left; focus (first | (simp; done) | (simp; omega) | omega))); first | with_reducible assumption | (refine since_step (by with_reducible assumption) ?_; first | with_reducible assumption | ((repeat (first | with_reducible (exact Since.refl _) | with_reducible assumption | with_reducible (refine Since.drew ?_) | with_reducible (refine Since.drewN ?_ _) | with_reducible (refine Since.alloc ?_ _) | (with_reducible (refine Since.setCell ?_ ?_ _); rotate_left; focus (first | (simp; done) | (simp; omega) | omega)))); done)) | (refine since_step (Since.refl _) ?_; first | with_reducible assumption | ((repeat (first | with_reducible (exact Since.refl _) | with_reducible assumption | with_reducible (refine Since.drew ?_) | with_reducible (refine Since.drewN ?_ _) | with_reducible (refine Since.alloc ?_ _) | (with_reducible (refine Since.setCell ?_ ?_ _); rotate_left; focus (first | (simp; done) | (simp; omega) | omega)) | (with_reducible (refine Since.trans ?_ (by with_reducible assumption))))); done)))) (first | (go_at_call 16; (with_reducible refine (A5.out _).mono ?_); rintro e w1 ⟨rfl, hS⟩; have hZ := hS.below.size; (try simp at hZ)) | (go_at_call 17; (with_reducible refine (A7.out _).mono ?_); rintro e w1 ⟨rfl, hS⟩; have hZ := hS.below.size; (try simp at hZ)) | (go_at_call 15; (with_reducible refine (A1.out _).mono ?_); rintro e w1 ⟨rfl, hS⟩; have hZ := hS.below.size; (try simp at hZ)) | (go_at_call 15; (with_reducible refine (A2.out _).mono ?_); rintro e w1 ⟨rfl, hS⟩; have hZ := hS.below.size; (try simp at hZ)) | (go_at_call 15; (with_reducible refine (A3.out _).mono ?_); rintro e w1 ⟨rfl, hS⟩; have hZ := hS.below.size; (try simp at hZ)) | (go_at_call 15; (with_reducible refine (A4.out _).mono ?_); rintro e w1 ⟨rfl, hS⟩; have hZ := hS.below.size; (try simp at hZ)) | (go_at_call 15; (with_reducible refine (A6.out _).mono ?_); rintro e w1 ⟨rfl, hS⟩; have hZ := hS.below.size; (try simp at hZ)) | (go_at_call 15; (with_reducible refine (A8.out _).mono ?_); rintro e w1 ⟨rfl, hS⟩; have hZ := hS.below.size; (try simp at hZ))); all_goals (rename_i hHeld; have hR2 : Since wr2 _ := hHeld; obtain ⟨hcR2, hfR2, hzR2, hbR2⟩ := hHeld; subst hwr2))
      all_goals (go_wp2_with fail)
      all_goals go_meet
      all_goals exact ⟨rfl, by (repeat (first | with_reducible (exact Since.refl _) | with_reducible assumption | with_reducible (refine Since.drew ?_) | with_reducible (refine Since.drewN ?_ _) | with_reducible (refine Since.alloc ?_ _) | (with_reducible (refine Since.setCell ?_ ?_ _); rotate_left; focus (first | (simp; done) | (simp; omega) | omega)) | (with_reducible (refine Since.trans ?_ (by with_reducible assumption)))))⟩
    case rest =>
      obtain ⟨rfl, hSa⟩ := hcut
      have hS1 := hS0.trans hSa
      obtain ⟨hA1, hA2, hA3⟩ := wcells (hA.since hSa)
      obtain ⟨hB1, hB2, hB3⟩ := wcells (hB.since hSa)
      obtain ⟨hC1, hC2, hC3⟩ := wcells (hC.since hSa)
      clear hA hB hC hX hY hZ hS0 hSa
      go_wp2_with fail
      go_quiet (fail)
      go_wp2_with (first | (go_at_call 18; (with_reducible refine (M1.out _).mono ?_); rintro e w2 ⟨rfl, hS2⟩) | (go_at_call 18; (with_reducible refine (M2.out _).mono ?_); rintro e w3 ⟨rfl, hS3⟩) | (go_at_call 18; (with_reducible refine (M3.out _).mono ?_); rintro e w4 ⟨rfl, hS4⟩) | (go_at_call 18; (with_reducible refine (M4.out _).mono ?_); rintro e w5 ⟨rfl, hS5⟩) | (go_at_call 15; (with_reducible refine (M5.out _).mono ?_); rintro e w6 ⟨rfl, hS6⟩))
      go_ret
      exact ⟨rfl, by (repeat (first | with_reducible (exact Since.refl _) | with_reducible assumption | with_reducible (refine Since.drew ?_) | with_reducible (refine Since.drewN ?_ _) | with_reducible (refine Since.alloc ?_ _) | (with_reducible (refine Since.setCell ?_ ?_ _); rotate_left; focus (first | (simp; done) | (simp; omega) | omega)) | (with_reducible (refine Since.trans ?_ (by with_reducible assumption)))))⟩
end Go.Proofs.Ytckochcocflleaa
