/-
  Layer 17: 'away', 'size', 'touches', walked.
-/
import Derived.Test.YtcfghkphkmoikaaGreatSnJ
import Derived.Test.YtcfghkphkmoikaaGreatMqE
import Derived.Test.YtcfghkphkmoikaaGreatMqA
namespace Go.Proofs.YtcfghkphkmoikaaGreat
set_option maxRecDepth 100000
open Go.RowKit
set_option linter.unusedVariables false
theorem lo2_min (a b : Int) : lo2 a b = min a b := by unfold lo2; split <;> omega
theorem hi2_max (a b : Int) : hi2 a b = max a b := by unfold hi2; split <;> omega
theorem sn_away (c v r : Int) (h1 : IntKind.i64.wrap (c + r) = c + r) (h2 : IntKind.i64.wrap (2 * v) = 2 * v) (h3 : IntKind.i64.wrap (c - r) = c - r) (w : World) :
    Calls Tryz.prog 103 #[.int .i64 c, .int .i64 v, .int .i64 r] w fun e w' => e = .returned (.bool (awayB c v r)) ∧ Since w w' := by
  have hmin := min2_run
  have hmax := max2_run
  unfold awayB
  rw [← lo2_min, ← hi2_max]
  cases k1 : decide (c + r < lo2 0 (2 * v)) <;> cases k2 : decide (hi2 0 (2 * v) < c - r)
  all_goals
    go_enter Tryz.func103, Tryz.ntmps103
    go_wp2
    all_goals go_ret
    all_goals exact ⟨by first | rfl | simp, by (repeat (first | with_reducible (exact Since.refl _) | with_reducible assumption | with_reducible (refine Since.drew ?_) | with_reducible (refine Since.drewN ?_ _) | with_reducible (refine Since.alloc ?_ _) | (with_reducible (refine Since.setCell ?_ ?_ _); rotate_left; focus (first | (simp; done) | (simp; omega) | omega)) | (with_reducible (refine Since.trans ?_ (by with_reducible assumption)))))⟩
theorem sn_size (n : Int) (h1 : IntKind.i64.wrap (-n) = -n) (w : World) :
    Calls Tryz.prog 104 #[.int .i64 n] w fun e w' => e = .returned (.int .i64 (hi2 n (-n))) ∧ Since w w' := by
  have hmax := max2_run
  go_enter Tryz.func104, Tryz.ntmps104
  go_wp2
  go_ret
  exact ⟨rfl, by (repeat (first | with_reducible (exact Since.refl _) | with_reducible assumption | with_reducible (refine Since.drew ?_) | with_reducible (refine Since.drewN ?_ _) | with_reducible (refine Since.alloc ?_ _) | (with_reducible (refine Since.setCell ?_ ?_ _); rotate_left; focus (first | (simp; done) | (simp; omega) | omega)) | (with_reducible (refine Since.trans ?_ (by with_reducible assumption)))))⟩
def Bx.v (b : Bx) : Value := .agg #[.int .i64 b.lx, .int .i64 b.ly, .int .i64 b.mx, .int .i64 b.my]
/-- The last test of 'touches', in letters. -/
def tch3 (cx cy rx ry vx vy : Int) : Bool := decide (hi2 (vx * cy - vy * cx) (-(vx * cy - vy * cx)) ≤ hi2 vx (-vx) * ry + hi2 vy (-vy) * rx)
theorem tch_eq (l : Ln) (b : Bx) : tch l b = (!(awayB (64 * (b.lx + b.mx) - 2 * l.ax) (l.bx - l.ax) (64 * (b.mx - b.lx + 1)) || awayB (64 * (b.ly + b.my) - 2 * l.ay) (l.bz - l.ay) (64 * (b.my - b.ly + 1))) && tch3 (64 * (b.lx + b.mx) - 2 * l.ax) (64 * (b.ly + b.my) - 2 * l.ay) (64 * (b.mx - b.lx + 1)) (64 * (b.my - b.ly + 1)) (l.bx - l.ax) (l.bz - l.ay)) := by
  unfold tch tchB tch3
  simp only [hi2_max]
theorem wrap64_in {n : Int} (h : -9223372036854775808 ≤ n ∧ n ≤ 9223372036854775807) : IntKind.i64.wrap n = n := IntWalk.i64_in _ h
set_option maxHeartbeats 4000000 in
/-- The tests, walked in letters. -/
theorem sn_tch (l : Ln) (b : Bx) (cx cy rx ry vx vy : Int) (hb : BxOk b) (hl : -4194304 ≤ l.ax ∧ l.ax ≤ 4194304 ∧ -4194304 ≤ l.ay ∧ l.ay ≤ 4194304 ∧ -4194304 ≤ l.bx ∧ l.bx ≤ 4194304 ∧ -4194304 ≤ l.bz ∧ l.bz ≤ 4194304)
    (ecx : 64 * (b.lx + b.mx) - 2 * l.ax = cx) (ecy : 64 * (b.ly + b.my) - 2 * l.ay = cy) (erx : 64 * (b.mx - b.lx + 1) = rx) (ery : 64 * (b.my - b.ly + 1) = ry) (evx : l.bx - l.ax = vx) (evy : l.bz - l.ay = vy) (w : World) :
    Calls Tryz.prog 72 #[b.v, l.v] w fun e w' => e = .returned (.bool (!(awayB cx vx rx || awayB cy vy ry) && tch3 cx cy rx ry vx vy)) ∧ Since w w' := by
  unfold BxOk at hb
  have u1 : IntKind.i64.wrap (b.lx + b.mx) = b.lx + b.mx := wrap64_in (by omega)
  have u2 : IntKind.i64.wrap (64 * (b.lx + b.mx)) = 64 * (b.lx + b.mx) := wrap64_in (by omega)
  have u3 : IntKind.i64.wrap (2 * l.ax) = 2 * l.ax := wrap64_in (by omega)
  have u4 : IntKind.i64.wrap cx = cx := wrap64_in (by omega)
  have u5 : IntKind.i64.wrap (b.ly + b.my) = b.ly + b.my := wrap64_in (by omega)
  have u6 : IntKind.i64.wrap (64 * (b.ly + b.my)) = 64 * (b.ly + b.my) := wrap64_in (by omega)
  have u7 : IntKind.i64.wrap (2 * l.ay) = 2 * l.ay := wrap64_in (by omega)
  have u8 : IntKind.i64.wrap cy = cy := wrap64_in (by omega)
  have u9 : IntKind.i64.wrap (b.mx - b.lx) = b.mx - b.lx := wrap64_in (by omega)
  have u10 : IntKind.i64.wrap (b.mx - b.lx + 1) = b.mx - b.lx + 1 := wrap64_in (by omega)
  have u11 : IntKind.i64.wrap rx = rx := wrap64_in (by omega)
  have u12 : IntKind.i64.wrap (b.my - b.ly) = b.my - b.ly := wrap64_in (by omega)
  have u13 : IntKind.i64.wrap (b.my - b.ly + 1) = b.my - b.ly + 1 := wrap64_in (by omega)
  have u14 : IntKind.i64.wrap ry = ry := wrap64_in (by omega)
  have u15 : IntKind.i64.wrap vx = vx := wrap64_in (by omega)
  have u16 : IntKind.i64.wrap vy = vy := wrap64_in (by omega)
  have nvx : Near vx := by unfold Near; omega
  have nvy : Near vy := by unfold Near; omega
  have ncx : Near cx := by unfold Near; omega
  have ncy : Near cy := by unfold Near; omega
  have nrx : Near rx := by unfold Near; omega
  have nry : Near ry := by unfold Near; omega
  have p1 := near_mul nvx ncy
  have p2 := near_mul nvy ncx
  have u17 : IntKind.i64.wrap (vx * cy) = vx * cy := wrap64_in (by omega)
  have u18 : IntKind.i64.wrap (vy * cx) = vy * cx := wrap64_in (by omega)
  have u19 : IntKind.i64.wrap (vx * cy - vy * cx) = vx * cy - vy * cx := wrap64_in (by omega)
  have hvx : Near (hi2 vx (-vx)) := by unfold Near hi2 at *; split <;> omega
  have hvy : Near (hi2 vy (-vy)) := by unfold Near hi2 at *; split <;> omega
  have p3 := near_mul hvx nry
  have p4 := near_mul hvy nrx
  have u20 : IntKind.i64.wrap (hi2 vx (-vx) * ry) = hi2 vx (-vx) * ry := wrap64_in (by omega)
  have u21 : IntKind.i64.wrap (hi2 vy (-vy) * rx) = hi2 vy (-vy) * rx := wrap64_in (by omega)
  have u22 : IntKind.i64.wrap (hi2 vx (-vx) * ry + hi2 vy (-vy) * rx) = hi2 vx (-vx) * ry + hi2 vy (-vy) * rx := wrap64_in (by omega)
  have A1 := Lib.hid (fun w => sn_away cx vx rx (wrap64_in (by unfold Near at *; omega)) (wrap64_in (by unfold Near at *; omega)) (wrap64_in (by unfold Near at *; omega)) w)
  have A2 := Lib.hid (fun w => sn_away cy vy ry (wrap64_in (by unfold Near at *; omega)) (wrap64_in (by unfold Near at *; omega)) (wrap64_in (by unfold Near at *; omega)) w)
  have S1 := Lib.hid (fun w => sn_size (vx * cy - vy * cx) (wrap64_in (by omega)) w)
  have S2 := Lib.hid (fun w => sn_size vx (wrap64_in (by unfold Near at *; omega)) w)
  have S3 := Lib.hid (fun w => sn_size vy (wrap64_in (by unfold Near at *; omega)) w)
  unfold tch3
  clear p1 p2 p3 p4 hvx hvy nvx nvy ncx ncy nrx nry hb hl
  generalize awayB cx vx rx = a1 at *
  generalize awayB cy vy ry = a2 at *
  unfold Bx.v Ln.v
  have tok1 := True.intro
  have hmax := max2_run
  cases a1 <;> cases a2
  · go_enter Tryz.func72, Tryz.ntmps72
    go_upto_region 6 with (first | (go_at_call 103; have _t := tok1; refine (A1.out _).mono ?_; rintro e w1 ⟨rfl, hS1⟩; have hZ := hS1.below.size; (try simp at hZ); have hT := hS1; obtain ⟨hc1, hf1, hz1, hb1⟩ := hT; (try (have hq1_w_0 := hz1 (w.heap.size) (by first | with_reducible assumption | (simp; done) | (simp; omega)); have hp1_w_0 := Nat.ne_of_lt hq1_w_0; have hl1_w_0 := Nat.le_of_lt hq1_w_0)); (try (have hq1_w_1 := hz1 (w.heap.size + 1) (by first | with_reducible assumption | (simp; done) | (simp; omega)); have hp1_w_1 := Nat.ne_of_lt hq1_w_1; have hl1_w_1 := Nat.le_of_lt hq1_w_1)); (try (have hq1_w_2 := hz1 (w.heap.size + 1 + 1) (by first | with_reducible assumption | (simp; done) | (simp; omega)); have hp1_w_2 := Nat.ne_of_lt hq1_w_2; have hl1_w_2 := Nat.le_of_lt hq1_w_2)); (try (have hq1_w_3 := hz1 (w.heap.size + 1 + 1 + 1) (by first | with_reducible assumption | (simp; done) | (simp; omega)); have hp1_w_3 := Nat.ne_of_lt hq1_w_3; have hl1_w_3 := Nat.le_of_lt hq1_w_3)); (try (have hq1_w_4 := hz1 (w.heap.size + 1 + 1 + 1 + 1) (by first | with_reducible assumption | (simp; done) | (simp; omega)); have hp1_w_4 := Nat.ne_of_lt hq1_w_4; have hl1_w_4 := Nat.le_of_lt hq1_w_4)); clear tok1) | (go_at_call 103; refine (A2.out _).mono ?_; rintro e w2 ⟨rfl, hS2⟩; have hT := hS2; obtain ⟨hc2, hf2, hz2, hb2⟩ := hT; (try (have hq2_0_0 := hz2 (w.heap.size) (by first | with_reducible assumption | (simp; done) | (simp; omega) | omega); have hp2_0_0 := Nat.ne_of_lt hq2_0_0; have hl2_0_0 := Nat.le_of_lt hq2_0_0)); (try (have hq2_0_1 := hz2 (w.heap.size + 1) (by first | with_reducible assumption | (simp; done) | (simp; omega) | omega); have hp2_0_1 := Nat.ne_of_lt hq2_0_1; have hl2_0_1 := Nat.le_of_lt hq2_0_1)); (try (have hq2_0_2 := hz2 (w.heap.size + 1 + 1) (by first | with_reducible assumption | (simp; done) | (simp; omega) | omega); have hp2_0_2 := Nat.ne_of_lt hq2_0_2; have hl2_0_2 := Nat.le_of_lt hq2_0_2)); (try (have hq2_0_3 := hz2 (w.heap.size + 1 + 1 + 1) (by first | with_reducible assumption | (simp; done) | (simp; omega) | omega); have hp2_0_3 := Nat.ne_of_lt hq2_0_3; have hl2_0_3 := Nat.le_of_lt hq2_0_3)); (try (have hq2_1_0 := hz2 (w1.heap.size) (by first | with_reducible assumption | (simp; done) | (simp; omega) | omega); have hp2_1_0 := Nat.ne_of_lt hq2_1_0; have hl2_1_0 := Nat.le_of_lt hq2_1_0)); (try (have hq2_1_1 := hz2 (w1.heap.size + 1) (by first | with_reducible assumption | (simp; done) | (simp; omega) | omega); have hp2_1_1 := Nat.ne_of_lt hq2_1_1; have hl2_1_1 := Nat.le_of_lt hq2_1_1)); (try (have hq2_2_0 := hz2 (w2.heap.size) (by first | with_reducible assumption | (simp; done) | (simp; omega) | omega); have hp2_2_0 := Nat.ne_of_lt hq2_2_0; have hl2_2_0 := Nat.le_of_lt hq2_2_0)); (try (have hq2_2_1 := hz2 (w2.heap.size + 1) (by first | with_reducible assumption | (simp; done) | (simp; omega) | omega); have hp2_2_1 := Nat.ne_of_lt hq2_2_1; have hl2_2_1 := Nat.le_of_lt hq2_2_1)); (try (have hq2_3_0 := hz2 (w3.heap.size) (by first | with_reducible assumption | (simp; done) | (simp; omega) | omega); have hp2_3_0 := Nat.ne_of_lt hq2_3_0; have hl2_3_0 := Nat.le_of_lt hq2_3_0)); (try (have hq2_3_1 := hz2 (w3.heap.size + 1) (by first | with_reducible assumption | (simp; done) | (simp; omega) | omega); have hp2_3_1 := Nat.ne_of_lt hq2_3_1; have hl2_3_1 := Nat.le_of_lt hq2_3_1)); (try (have hq2_4_0 := hz2 (w4.heap.size) (by first | with_reducible assumption | (simp; done) | (simp; omega) | omega); have hp2_4_0 := Nat.ne_of_lt hq2_4_0; have hl2_4_0 := Nat.le_of_lt hq2_4_0)); (try (have hq2_4_1 := hz2 (w4.heap.size + 1) (by first | with_reducible assumption | (simp; done) | (simp; omega) | omega); have hp2_4_1 := Nat.ne_of_lt hq2_4_1; have hl2_4_1 := Nat.le_of_lt hq2_4_1)); (try (have hq2_5_0 := hz2 (w5.heap.size) (by first | with_reducible assumption | (simp; done) | (simp; omega) | omega); have hp2_5_0 := Nat.ne_of_lt hq2_5_0; have hl2_5_0 := Nat.le_of_lt hq2_5_0)); (try (have hq2_5_1 := hz2 (w5.heap.size + 1) (by first | with_reducible assumption | (simp; done) | (simp; omega) | omega); have hp2_5_1 := Nat.ne_of_lt hq2_5_1; have hl2_5_1 := Nat.le_of_lt hq2_5_1)); (try (have hq2_6_0 := hz2 (w6.heap.size) (by first | with_reducible assumption | (simp; done) | (simp; omega) | omega); have hp2_6_0 := Nat.ne_of_lt hq2_6_0; have hl2_6_0 := Nat.le_of_lt hq2_6_0)); (try (have hq2_6_1 := hz2 (w6.heap.size + 1) (by first | with_reducible assumption | (simp; done) | (simp; omega) | omega); have hp2_6_1 := Nat.ne_of_lt hq2_6_1; have hl2_6_1 := Nat.le_of_lt hq2_6_1)); (try (have hq2_7_0 := hz2 (w7.heap.size) (by first | with_reducible assumption | (simp; done) | (simp; omega) | omega); have hp2_7_0 := Nat.ne_of_lt hq2_7_0; have hl2_7_0 := Nat.le_of_lt hq2_7_0)); (try (have hq2_7_1 := hz2 (w7.heap.size + 1) (by first | with_reducible assumption | (simp; done) | (simp; omega) | omega); have hp2_7_1 := Nat.ne_of_lt hq2_7_1; have hl2_7_1 := Nat.le_of_lt hq2_7_1)); (try (have hq2_8_0 := hz2 (w8.heap.size) (by first | with_reducible assumption | (simp; done) | (simp; omega) | omega); have hp2_8_0 := Nat.ne_of_lt hq2_8_0; have hl2_8_0 := Nat.le_of_lt hq2_8_0)); (try (have hq2_8_1 := hz2 (w8.heap.size + 1) (by first | with_reducible assumption | (simp; done) | (simp; omega) | omega); have hp2_8_1 := Nat.ne_of_lt hq2_8_1; have hl2_8_1 := Nat.le_of_lt hq2_8_1)); (try (have hq2_9_0 := hz2 (w9.heap.size) (by first | with_reducible assumption | (simp; done) | (simp; omega) | omega); have hp2_9_0 := Nat.ne_of_lt hq2_9_0; have hl2_9_0 := Nat.le_of_lt hq2_9_0)); (try (have hq2_9_1 := hz2 (w9.heap.size + 1) (by first | with_reducible assumption | (simp; done) | (simp; omega) | omega); have hp2_9_1 := Nat.ne_of_lt hq2_9_1; have hl2_9_1 := Nat.le_of_lt hq2_9_1))))
    (refine wp_named fun wr6 hwr6 => ?_; go_region_held3 (fun w' => (∀ b o, b < wr6.heap.size → w'.cell? ⟨b, o, none⟩ = wr6.cell? ⟨b, o, none⟩) ∧ (∀ b o, b < wr6.heap.size → w'.frozen? ⟨b, o, none⟩ = wr6.frozen? ⟨b, o, none⟩) ∧ (∀ k, k < wr6.heap.size → k < w'.heap.size) ∧ Below wr6.heap.size wr6 w') ((subst hwr6; (repeat (with_reducible (refine since_put ?_ ?_ _); rotate_left; focus (first | (simp; done) | (simp; omega) | omega))); first | with_reducible assumption | (refine since_step (by with_reducible assumption) ?_; first | with_reducible assumption | ((repeat (first | with_reducible (exact Since.refl _) | with_reducible assumption | with_reducible (refine Since.drew ?_) | with_reducible (refine Since.drewN ?_ _) | with_reducible (refine Since.alloc ?_ _) | (with_reducible (refine Since.setCell ?_ ?_ _); rotate_left; focus (first | (simp; done) | (simp; omega) | omega)))); done)) | (refine since_step (Since.refl _) ?_; first | with_reducible assumption | ((repeat (first | with_reducible (exact Since.refl _) | with_reducible assumption | with_reducible (refine Since.drew ?_) | with_reducible (refine Since.drewN ?_ _) | with_reducible (refine Since.alloc ?_ _) | (with_reducible (refine Since.setCell ?_ ?_ _); rotate_left; focus (first | (simp; done) | (simp; omega) | omega)) | (with_reducible (refine Since.trans ?_ (by with_reducible assumption))))); done)))) ((first | (go_at_call 104; refine (S1.out _).mono ?_; rintro e w1 ⟨rfl, hS⟩; have hZ := hS.below.size; (try simp at hZ)) | (go_at_call 104; refine (S2.out _).mono ?_; rintro e w1 ⟨rfl, hS⟩; have hZ := hS.below.size; (try simp at hZ)) | (go_at_call 104; refine (S3.out _).mono ?_; rintro e w1 ⟨rfl, hS⟩; have hZ := hS.below.size; (try simp at hZ)))); all_goals (rename_i hHeld; have hR6 : Since wr6 _ := hHeld; obtain ⟨hcR6, hfR6, hzR6, hbR6⟩ := hHeld; subst hwr6))
    all_goals go_wp2
    all_goals go_ret
    all_goals exact ⟨by first | rfl | simp, by (repeat (first | with_reducible (exact Since.refl _) | with_reducible assumption | with_reducible (refine Since.drew ?_) | with_reducible (refine Since.drewN ?_ _) | with_reducible (refine Since.alloc ?_ _) | (with_reducible (refine Since.setCell ?_ ?_ _); rotate_left; focus (first | (simp; done) | (simp; omega) | omega)) | (with_reducible (refine Since.trans ?_ (by with_reducible assumption)))))⟩
  all_goals
    go_enter Tryz.func72, Tryz.ntmps72
    go_wp2_with (first | (go_at_call 103; have _t := tok1; refine (A1.out _).mono ?_; rintro e w1 ⟨rfl, hS1⟩; have hZ := hS1.below.size; (try simp at hZ); have hT := hS1; obtain ⟨hc1, hf1, hz1, hb1⟩ := hT; (try (have hq1_w_0 := hz1 (w.heap.size) (by first | with_reducible assumption | (simp; done) | (simp; omega)); have hp1_w_0 := Nat.ne_of_lt hq1_w_0; have hl1_w_0 := Nat.le_of_lt hq1_w_0)); (try (have hq1_w_1 := hz1 (w.heap.size + 1) (by first | with_reducible assumption | (simp; done) | (simp; omega)); have hp1_w_1 := Nat.ne_of_lt hq1_w_1; have hl1_w_1 := Nat.le_of_lt hq1_w_1)); (try (have hq1_w_2 := hz1 (w.heap.size + 1 + 1) (by first | with_reducible assumption | (simp; done) | (simp; omega)); have hp1_w_2 := Nat.ne_of_lt hq1_w_2; have hl1_w_2 := Nat.le_of_lt hq1_w_2)); (try (have hq1_w_3 := hz1 (w.heap.size + 1 + 1 + 1) (by first | with_reducible assumption | (simp; done) | (simp; omega)); have hp1_w_3 := Nat.ne_of_lt hq1_w_3; have hl1_w_3 := Nat.le_of_lt hq1_w_3)); (try (have hq1_w_4 := hz1 (w.heap.size + 1 + 1 + 1 + 1) (by first | with_reducible assumption | (simp; done) | (simp; omega)); have hp1_w_4 := Nat.ne_of_lt hq1_w_4; have hl1_w_4 := Nat.le_of_lt hq1_w_4)); clear tok1) | (go_at_call 103; refine (A2.out _).mono ?_; rintro e w2 ⟨rfl, hS2⟩; have hT := hS2; obtain ⟨hc2, hf2, hz2, hb2⟩ := hT; (try (have hq2_0_0 := hz2 (w.heap.size) (by first | with_reducible assumption | (simp; done) | (simp; omega) | omega); have hp2_0_0 := Nat.ne_of_lt hq2_0_0; have hl2_0_0 := Nat.le_of_lt hq2_0_0)); (try (have hq2_0_1 := hz2 (w.heap.size + 1) (by first | with_reducible assumption | (simp; done) | (simp; omega) | omega); have hp2_0_1 := Nat.ne_of_lt hq2_0_1; have hl2_0_1 := Nat.le_of_lt hq2_0_1)); (try (have hq2_0_2 := hz2 (w.heap.size + 1 + 1) (by first | with_reducible assumption | (simp; done) | (simp; omega) | omega); have hp2_0_2 := Nat.ne_of_lt hq2_0_2; have hl2_0_2 := Nat.le_of_lt hq2_0_2)); (try (have hq2_0_3 := hz2 (w.heap.size + 1 + 1 + 1) (by first | with_reducible assumption | (simp; done) | (simp; omega) | omega); have hp2_0_3 := Nat.ne_of_lt hq2_0_3; have hl2_0_3 := Nat.le_of_lt hq2_0_3)); (try (have hq2_1_0 := hz2 (w1.heap.size) (by first | with_reducible assumption | (simp; done) | (simp; omega) | omega); have hp2_1_0 := Nat.ne_of_lt hq2_1_0; have hl2_1_0 := Nat.le_of_lt hq2_1_0)); (try (have hq2_1_1 := hz2 (w1.heap.size + 1) (by first | with_reducible assumption | (simp; done) | (simp; omega) | omega); have hp2_1_1 := Nat.ne_of_lt hq2_1_1; have hl2_1_1 := Nat.le_of_lt hq2_1_1)); (try (have hq2_2_0 := hz2 (w2.heap.size) (by first | with_reducible assumption | (simp; done) | (simp; omega) | omega); have hp2_2_0 := Nat.ne_of_lt hq2_2_0; have hl2_2_0 := Nat.le_of_lt hq2_2_0)); (try (have hq2_2_1 := hz2 (w2.heap.size + 1) (by first | with_reducible assumption | (simp; done) | (simp; omega) | omega); have hp2_2_1 := Nat.ne_of_lt hq2_2_1; have hl2_2_1 := Nat.le_of_lt hq2_2_1)); (try (have hq2_3_0 := hz2 (w3.heap.size) (by first | with_reducible assumption | (simp; done) | (simp; omega) | omega); have hp2_3_0 := Nat.ne_of_lt hq2_3_0; have hl2_3_0 := Nat.le_of_lt hq2_3_0)); (try (have hq2_3_1 := hz2 (w3.heap.size + 1) (by first | with_reducible assumption | (simp; done) | (simp; omega) | omega); have hp2_3_1 := Nat.ne_of_lt hq2_3_1; have hl2_3_1 := Nat.le_of_lt hq2_3_1)); (try (have hq2_4_0 := hz2 (w4.heap.size) (by first | with_reducible assumption | (simp; done) | (simp; omega) | omega); have hp2_4_0 := Nat.ne_of_lt hq2_4_0; have hl2_4_0 := Nat.le_of_lt hq2_4_0)); (try (have hq2_4_1 := hz2 (w4.heap.size + 1) (by first | with_reducible assumption | (simp; done) | (simp; omega) | omega); have hp2_4_1 := Nat.ne_of_lt hq2_4_1; have hl2_4_1 := Nat.le_of_lt hq2_4_1)); (try (have hq2_5_0 := hz2 (w5.heap.size) (by first | with_reducible assumption | (simp; done) | (simp; omega) | omega); have hp2_5_0 := Nat.ne_of_lt hq2_5_0; have hl2_5_0 := Nat.le_of_lt hq2_5_0)); (try (have hq2_5_1 := hz2 (w5.heap.size + 1) (by first | with_reducible assumption | (simp; done) | (simp; omega) | omega); have hp2_5_1 := Nat.ne_of_lt hq2_5_1; have hl2_5_1 := Nat.le_of_lt hq2_5_1)); (try (have hq2_6_0 := hz2 (w6.heap.size) (by first | with_reducible assumption | (simp; done) | (simp; omega) | omega); have hp2_6_0 := Nat.ne_of_lt hq2_6_0; have hl2_6_0 := Nat.le_of_lt hq2_6_0)); (try (have hq2_6_1 := hz2 (w6.heap.size + 1) (by first | with_reducible assumption | (simp; done) | (simp; omega) | omega); have hp2_6_1 := Nat.ne_of_lt hq2_6_1; have hl2_6_1 := Nat.le_of_lt hq2_6_1)); (try (have hq2_7_0 := hz2 (w7.heap.size) (by first | with_reducible assumption | (simp; done) | (simp; omega) | omega); have hp2_7_0 := Nat.ne_of_lt hq2_7_0; have hl2_7_0 := Nat.le_of_lt hq2_7_0)); (try (have hq2_7_1 := hz2 (w7.heap.size + 1) (by first | with_reducible assumption | (simp; done) | (simp; omega) | omega); have hp2_7_1 := Nat.ne_of_lt hq2_7_1; have hl2_7_1 := Nat.le_of_lt hq2_7_1)); (try (have hq2_8_0 := hz2 (w8.heap.size) (by first | with_reducible assumption | (simp; done) | (simp; omega) | omega); have hp2_8_0 := Nat.ne_of_lt hq2_8_0; have hl2_8_0 := Nat.le_of_lt hq2_8_0)); (try (have hq2_8_1 := hz2 (w8.heap.size + 1) (by first | with_reducible assumption | (simp; done) | (simp; omega) | omega); have hp2_8_1 := Nat.ne_of_lt hq2_8_1; have hl2_8_1 := Nat.le_of_lt hq2_8_1)); (try (have hq2_9_0 := hz2 (w9.heap.size) (by first | with_reducible assumption | (simp; done) | (simp; omega) | omega); have hp2_9_0 := Nat.ne_of_lt hq2_9_0; have hl2_9_0 := Nat.le_of_lt hq2_9_0)); (try (have hq2_9_1 := hz2 (w9.heap.size + 1) (by first | with_reducible assumption | (simp; done) | (simp; omega) | omega); have hp2_9_1 := Nat.ne_of_lt hq2_9_1; have hl2_9_1 := Nat.le_of_lt hq2_9_1))))
    go_ret
    exact ⟨by first | rfl | simp, by (repeat (first | with_reducible (exact Since.refl _) | with_reducible assumption | with_reducible (refine Since.drew ?_) | with_reducible (refine Since.drewN ?_ _) | with_reducible (refine Since.alloc ?_ _) | (with_reducible (refine Since.setCell ?_ ?_ _); rotate_left; focus (first | (simp; done) | (simp; omega) | omega)) | (with_reducible (refine Since.trans ?_ (by with_reducible assumption)))))⟩
/-- 'touches', of boxes of pixels and lines in range. -/
theorem sn_touches (l : Ln) (b : Bx) (hb : BxOk b) (hl : (goodB l.ax l.ay && goodB l.bx l.bz) = true) (w : World) :
    Calls Tryz.prog 72 #[b.v, l.v] w fun e w' => e = .returned (.bool (tch l b)) ∧ Since w w' := by
  obtain ⟨g1, g2⟩ := Bool.and_eq_true_iff.1 hl
  have i1 := goodB_iff.1 g1
  have i2 := goodB_iff.1 g2
  rw [tch_eq]
  exact sn_tch l b _ _ _ _ _ _ hb (by omega) rfl rfl rfl rfl rfl rfl w
end Go.Proofs.YtcfghkphkmoikaaGreat
