/-
  Layer 22: the document's vectors in a direction, walked.
-/
import Derived.Test.YtckochcocflleaaArC
import Derived.Test.YtckochcocflleaaArB
import Derived.Test.YtckochcocflleaaRefE
import Derived.Test.YtckochcocflleaaGaG
namespace Go.Proofs.Ytckochcocflleaa
open Go.RowKit
set_option linter.unusedVariables false

theorem ref_rootI (a : Int) (ha : In128 a) (h0 : 0 ≤ a) (w : World) : Calls Try.prog 118 #[D a] w fun e w' => e = .returned (D (rootI a)) ∧ Since w w' := by
  refine (ref_root a ha h0 w).mono ?_
  rintro e w' ⟨r, h1, _, rfl, hS⟩
  rw [rootI_eq h1]
  exact ⟨rfl, hS⟩
theorem div_dg (n : Int) (k : Nat) : n / B (k + 1) * 65536 + dg n k = n / B k := by
  unfold dg
  have h : n / B (k + 1) = n / B k / 65536 := (div_B n k).symm
  rw [h]; omega
theorem high_zero {n : Int} (h0 : 0 ≤ n) (h1 : n < 18446744073709551616) (k : Nat) (hk : 4 ≤ k) : dg n k = 0 := by
  unfold dg
  have hB : B 4 ≤ B k := by
    obtain ⟨j, rfl⟩ : ∃ j, k = 4 + j := ⟨k - 4, by omega⟩
    clear hk
    induction j with
    | zero => exact Int.le_refl _
    | succ j ih =>
      have h1 := B_pos (4 + j)
      have h2 := B_succ (4 + j)
      show B 4 ≤ B (4 + j + 1)
      omega
  have e : n / B k = 0 := Int.ediv_eq_zero_of_lt h0 (by have h4 : B 4 = 18446744073709551616 := (by unfold B; rfl); omega)
  rw [e]; rfl
set_option maxHeartbeats 4000000 in
theorem ref_halves (n : Int) (h0 : 0 ≤ n) (h1 : n < 18446744073709551616) (w : World) :
    Calls Try.prog 117 #[D n] w fun e w' => e = .returned (.tuple #[.int .i64 0, .int .u64 n]) ∧ Since w w' := by
  have hz := fun k hk => high_zero h0 h1 k hk
  have e4 : n / B 4 = 0 := Int.ediv_eq_zero_of_lt h0 (by have h4 : B 4 = 18446744073709551616 := (by unfold B; rfl); omega)
  have e0 : n / B 0 = n := by unfold B; simp
  have HZ := Lib.hid hz
  have E0 := Lib.hid e0
  have E4 := Lib.hid e4
  clear hz e0 e4
  go_enter Try.func117, Try.ntmps117
  go_wp2
  go_loopw [4, 5, 6] (fun lo hh i wr => ∃ k : Nat, k ≤ 4 ∧ i = .int .i64 (3 - (k : Int)) ∧ lo = .int .u64 (n / B (4 - k)) ∧ hh = .int .u64 0 ∧ Since w wr ∧ Row wr w.heap.size 8 (fun j => .int .u32 (dg n j))) (fun _ _ i _ => (intOf i + 1).toNat)
  case atStart => exact ⟨0, by omega, rfl, by rw [Nat.sub_zero, E4.out], rfl, by (repeat (first | with_reducible (exact Since.refl _) | with_reducible assumption | with_reducible (refine Since.drew ?_) | with_reducible (refine Since.drewN ?_ _) | with_reducible (refine Since.alloc ?_ _) | (with_reducible (refine Since.setCell ?_ ?_ _); rotate_left; focus (first | (simp; done) | (simp; omega) | omega)) | (with_reducible (refine Since.trans ?_ (by with_reducible assumption))))), row8 w _ rfl _ (dg n)⟩
  case round =>
    obtain ⟨k, hk, rfl, rfl, rfl, hS, hA⟩ := hrel
    obtain ⟨hA1, hA2, hA3⟩ := id hA
    by_cases hlt : k < 4
    · have hk4 : k = 0 ∨ k = 1 ∨ k = 2 ∨ k = 3 := by omega
      rcases hk4 with rfl | rfl | rfl | rfl
      · obtain ⟨d1, d2⟩ := div_B_bd 3 h0 h1
        obtain ⟨d3, d4⟩ := dg_bd n 3
        have g1 := div_dg n 3
        have c1 := hA1 3 (by omega)
        have c2 := hA1 7 (by omega)
        simp only at c1 c2 g1
        rw [HZ.out 7 (by omega)] at c2
        simp only [Nat.reduceAdd, Nat.reduceSub] at *
        generalize n / B 4 = V at *
        generalize dg n 3 = G at *
        have u1 : IntKind.u64.wrap (V * 65536) = V * 65536 := u64_of (by omega) (by omega)
        have u2 : IntKind.u64.wrap (V * 65536 + G) = V * 65536 + G := u64_of (by omega) (by omega)
        have u3 : IntKind.u64.wrap G = G := u64_of (by omega) (by omega)
        have G1 := Lib.hid g1
        clear g1 hA1 d1 d2 d3 d4
        go_wp2_with fail
        go_roundw
        case rel => exact ⟨1, by omega, by first | rfl | go_num, by rw [G1.out], by first | rfl | simp, by (repeat (first | with_reducible (exact Since.refl _) | with_reducible assumption | with_reducible (refine Since.drew ?_) | with_reducible (refine Since.drewN ?_ _) | with_reducible (refine Since.alloc ?_ _) | (with_reducible (refine Since.setCell ?_ ?_ _); rotate_left; focus (first | (simp; done) | (simp; omega) | omega)) | (with_reducible (refine Since.trans ?_ (by with_reducible assumption))))), by (repeat (first | with_reducible assumption | with_reducible (refine Row.drewN ?_ _) | with_reducible (refine Row.drew ?_) | with_reducible (refine Row.alloc ?_ _) | (with_reducible (refine Row.far ?_ ?_ _ _); rotate_left; focus (first | (simp; done) | (simp; omega) | omega)) | with_reducible (refine Row.since ?_ (by with_reducible assumption))))⟩
        case measure => simp [intOf]
      · obtain ⟨d1, d2⟩ := div_B_bd 2 h0 h1
        obtain ⟨d3, d4⟩ := dg_bd n 2
        have g1 := div_dg n 2
        have c1 := hA1 2 (by omega)
        have c2 := hA1 6 (by omega)
        simp only at c1 c2 g1
        rw [HZ.out 6 (by omega)] at c2
        simp only [Nat.reduceAdd, Nat.reduceSub] at *
        generalize n / B 3 = V at *
        generalize dg n 2 = G at *
        have u1 : IntKind.u64.wrap (V * 65536) = V * 65536 := u64_of (by omega) (by omega)
        have u2 : IntKind.u64.wrap (V * 65536 + G) = V * 65536 + G := u64_of (by omega) (by omega)
        have u3 : IntKind.u64.wrap G = G := u64_of (by omega) (by omega)
        have G1 := Lib.hid g1
        clear g1 hA1 d1 d2 d3 d4
        go_wp2_with fail
        go_roundw
        case rel => exact ⟨2, by omega, by first | rfl | go_num, by rw [G1.out], by first | rfl | simp, by (repeat (first | with_reducible (exact Since.refl _) | with_reducible assumption | with_reducible (refine Since.drew ?_) | with_reducible (refine Since.drewN ?_ _) | with_reducible (refine Since.alloc ?_ _) | (with_reducible (refine Since.setCell ?_ ?_ _); rotate_left; focus (first | (simp; done) | (simp; omega) | omega)) | (with_reducible (refine Since.trans ?_ (by with_reducible assumption))))), by (repeat (first | with_reducible assumption | with_reducible (refine Row.drewN ?_ _) | with_reducible (refine Row.drew ?_) | with_reducible (refine Row.alloc ?_ _) | (with_reducible (refine Row.far ?_ ?_ _ _); rotate_left; focus (first | (simp; done) | (simp; omega) | omega)) | with_reducible (refine Row.since ?_ (by with_reducible assumption))))⟩
        case measure => simp [intOf]
      · obtain ⟨d1, d2⟩ := div_B_bd 1 h0 h1
        obtain ⟨d3, d4⟩ := dg_bd n 1
        have g1 := div_dg n 1
        have c1 := hA1 1 (by omega)
        have c2 := hA1 5 (by omega)
        simp only at c1 c2 g1
        rw [HZ.out 5 (by omega)] at c2
        simp only [Nat.reduceAdd, Nat.reduceSub] at *
        generalize n / B 2 = V at *
        generalize dg n 1 = G at *
        have u1 : IntKind.u64.wrap (V * 65536) = V * 65536 := u64_of (by omega) (by omega)
        have u2 : IntKind.u64.wrap (V * 65536 + G) = V * 65536 + G := u64_of (by omega) (by omega)
        have u3 : IntKind.u64.wrap G = G := u64_of (by omega) (by omega)
        have G1 := Lib.hid g1
        clear g1 hA1 d1 d2 d3 d4
        go_wp2_with fail
        go_roundw
        case rel => exact ⟨3, by omega, by first | rfl | go_num, by rw [G1.out], by first | rfl | simp, by (repeat (first | with_reducible (exact Since.refl _) | with_reducible assumption | with_reducible (refine Since.drew ?_) | with_reducible (refine Since.drewN ?_ _) | with_reducible (refine Since.alloc ?_ _) | (with_reducible (refine Since.setCell ?_ ?_ _); rotate_left; focus (first | (simp; done) | (simp; omega) | omega)) | (with_reducible (refine Since.trans ?_ (by with_reducible assumption))))), by (repeat (first | with_reducible assumption | with_reducible (refine Row.drewN ?_ _) | with_reducible (refine Row.drew ?_) | with_reducible (refine Row.alloc ?_ _) | (with_reducible (refine Row.far ?_ ?_ _ _); rotate_left; focus (first | (simp; done) | (simp; omega) | omega)) | with_reducible (refine Row.since ?_ (by with_reducible assumption))))⟩
        case measure => simp [intOf]
      · obtain ⟨d1, d2⟩ := div_B_bd 0 h0 h1
        obtain ⟨d3, d4⟩ := dg_bd n 0
        have g1 := div_dg n 0
        have c1 := hA1 0 (by omega)
        have c2 := hA1 4 (by omega)
        simp only at c1 c2 g1
        rw [HZ.out 4 (by omega)] at c2
        simp only [Nat.reduceAdd, Nat.reduceSub] at *
        generalize n / B 1 = V at *
        generalize dg n 0 = G at *
        have u1 : IntKind.u64.wrap (V * 65536) = V * 65536 := u64_of (by omega) (by omega)
        have u2 : IntKind.u64.wrap (V * 65536 + G) = V * 65536 + G := u64_of (by omega) (by omega)
        have u3 : IntKind.u64.wrap G = G := u64_of (by omega) (by omega)
        have G1 := Lib.hid g1
        clear g1 hA1 d1 d2 d3 d4
        go_wp2_with fail
        go_roundw
        case rel => exact ⟨4, by omega, by first | rfl | go_num, by rw [G1.out], by first | rfl | simp, by (repeat (first | with_reducible (exact Since.refl _) | with_reducible assumption | with_reducible (refine Since.drew ?_) | with_reducible (refine Since.drewN ?_ _) | with_reducible (refine Since.alloc ?_ _) | (with_reducible (refine Since.setCell ?_ ?_ _); rotate_left; focus (first | (simp; done) | (simp; omega) | omega)) | (with_reducible (refine Since.trans ?_ (by with_reducible assumption))))), by (repeat (first | with_reducible assumption | with_reducible (refine Row.drewN ?_ _) | with_reducible (refine Row.drew ?_) | with_reducible (refine Row.alloc ?_ _) | (with_reducible (refine Row.far ?_ ?_ _ _); rotate_left; focus (first | (simp; done) | (simp; omega) | omega)) | with_reducible (refine Row.since ?_ (by with_reducible assumption))))⟩
        case measure => simp [intOf]
    · obtain rfl : k = 4 := by omega
      have u1 : IntKind.u64.wrap n = n := u64_of h0 h1
      rw [Nat.sub_self, E0.out]
      go_wp2
      refine bodyPost_ret (by simp only [results, Try.results117]; go_simp) rfl ⟨rfl, ?_⟩
      (repeat (first | with_reducible (exact Since.refl _) | with_reducible assumption | with_reducible (refine Since.drew ?_) | with_reducible (refine Since.drewN ?_ _) | with_reducible (refine Since.alloc ?_ _) | (with_reducible (refine Since.setCell ?_ ?_ _); rotate_left; focus (first | (simp; done) | (simp; omega) | omega)) | (with_reducible (refine Since.trans ?_ (by with_reducible assumption)))))
theorem whole_in {n r s : Int} (hn : 0 ≤ n ∧ n ≤ 8388608) (hr : 1 ≤ r ∧ r ≤ 262144) (hs : 1 ≤ s) (hnn : n * n ≤ s) : (0 ≤ 2 * r * n ∧ 2 * r * n ≤ 4398046511104) ∧ (0 ≤ 2 * r * n * (2 * r * n) ∧ 2 * r * n * (2 * r * n) ≤ 19342813113834066795298816) ∧ 0 ≤ 2 * r * n * (2 * r * n) / s ∧ 0 ≤ rootI (2 * r * n * (2 * r * n) / s) ∧ rootI (2 * r * n * (2 * r * n) / s) ≤ 2 * r := by
  have h0 : 0 ≤ 2 * r * n := Int.mul_nonneg (by omega) hn.1
  have h1 : 2 * r * n ≤ 524288 * 8388608 := Int.mul_le_mul (by omega) hn.2 hn.1 (by omega)
  have h2 := sqr_in (x := 2 * r * n) (by omega)
  obtain ⟨a, b, c⟩ := root_le (p := n) (r := r) (by omega) hs hnn
  have e : 2 * n * r = 2 * r * n := by grind
  rw [e] at a b c
  exact ⟨⟨h0, by omega⟩, h2, a, b, c⟩
set_option maxHeartbeats 8000000 in
theorem rf_whole (n r s : Int) (hn : 0 ≤ n ∧ n ≤ 8388608) (hr : 1 ≤ r ∧ r ≤ 262144) (hs : 1 ≤ s ∧ s ≤ 9223372036854775807) (hnn : n * n ≤ s) (w : World) :
    Calls Try.prog 101 #[.int .i64 n, .int .i64 r, .int .i64 s] w fun e w' => e = .returned (.int .i64 ((rootI (2 * n * r * (2 * n * r) / s) + 1) / 2)) ∧ Since w w' := by
  have e : 2 * n * r = 2 * r * n := by grind
  rw [e]
  clear e
  obtain ⟨⟨p0, p1⟩, ⟨q0, q1⟩, d0, r0, r1⟩ := whole_in hn hr hs.1 hnn
  have u1 : IntKind.i64.wrap (2 * r) = 2 * r := IntWalk.i64_in _ (by omega)
  have u2 : IntKind.i64.wrap (2 * r * n) = 2 * r * n := IntWalk.i64_in _ (by omega)
  have hq1 : 2 * r * n * (2 * r * n) / s ≤ 2 * r * n * (2 * r * n) := Int.ediv_le_self _ q0
  have hSm := fun w => ref_small (2 * r * n) (by unfold InW; omega) w
  have hM := fun w => ref_mul (2 * r * n) (2 * r * n) w
  have hD := fun w => ref_div (2 * r * n * (2 * r * n)) s (by unfold In128; omega) (by unfold InW; omega) hs.1 w
  have hR := fun w => ref_rootI (2 * r * n * (2 * r * n) / s) (by unfold In128; omega) d0 w
  have hH := fun w => ref_halves (rootI (2 * r * n * (2 * r * n) / s)) r0 (by omega) w
  generalize rootI (2 * r * n * (2 * r * n) / s) = R at *
  generalize 2 * r * n * (2 * r * n) / s = Q at *
  generalize 2 * r * n * (2 * r * n) % s = T at *
  generalize 2 * r * n * (2 * r * n) = P2 at *
  generalize hP : 2 * r * n = P at *
  have u3 : IntKind.i64.wrap R = R := IntWalk.i64_in _ (by omega)
  have u4 : IntKind.i64.wrap (R + 1) = R + 1 := IntWalk.i64_in _ (by omega)
  have u5 : (R + 1).tdiv 2 = (R + 1) / 2 := Int.tdiv_eq_ediv_of_nonneg (by omega)
  have u6 : IntKind.i64.wrap ((R + 1) / 2) = (R + 1) / 2 := IntWalk.i64_in _ (by omega)
  have u7 : wrap64 ((R + 1) / 2) = (R + 1) / 2 := by unfold wrap64; omega
  have u8 : IntKind.i64.wrap P = P := IntWalk.i64_in _ (by omega)
  have HSm := Lib.hid hSm; have HM := Lib.hid hM; have HD := Lib.hid hD; have HR := Lib.hid hR; have HH := Lib.hid hH
  clear hSm hM hD hR hH hq1 hnn
  go_enter Try.func101, Try.ntmps101
  go_wp2_with (first | (go_at_call 49; (with_reducible refine (HSm.out _).mono ?_); rintro e w1 ⟨rfl, hS1⟩) | (go_at_call 48; (with_reducible refine (HM.out _).mono ?_); rintro e w2 ⟨rfl, hS2⟩) | (go_at_call 116; (with_reducible refine (HD.out _).mono ?_); rintro e w3 ⟨rfl, hS3⟩) | (go_at_call 118; (with_reducible refine (HR.out _).mono ?_); rintro e w4 ⟨rfl, hS4⟩) | (go_at_call 117; (with_reducible refine (HH.out _).mono ?_); rintro e w5 ⟨rfl, hS5⟩))
  go_ret
  exact ⟨rfl, by (repeat (first | with_reducible (exact Since.refl _) | with_reducible assumption | with_reducible (refine Since.drew ?_) | with_reducible (refine Since.drewN ?_ _) | with_reducible (refine Since.alloc ?_ _) | (with_reducible (refine Since.setCell ?_ ?_ _); rotate_left; focus (first | (simp; done) | (simp; omega) | omega)) | (with_reducible (refine Since.trans ?_ (by with_reducible assumption)))))⟩
theorem shr_whole_neg {n r s : Int} (h : n < 0) : shrI n r s = -((rootI (2 * -n * r * (2 * -n * r) / s) + 1) / 2) := by
  unfold shrI
  rw [if_pos h]
  have e : 2 * -n * r * (2 * -n * r) = 2 * n * r * (2 * n * r) := by grind
  rw [e]
theorem shr_whole_pos {n r s : Int} (h : ¬ n < 0) : shrI n r s = (rootI (2 * n * r * (2 * n * r) / s) + 1) / 2 := by
  unfold shrI
  rw [if_neg h]
set_option maxHeartbeats 8000000 in
theorem rf_nearest (n r s : Int) (hn : -8388608 ≤ n ∧ n ≤ 8388608) (hr : 1 ≤ r ∧ r ≤ 262144) (hs : 1 ≤ s ∧ s ≤ 9223372036854775807) (hnn : n * n ≤ s) (w : World) :
    Calls Try.prog 75 #[.int .i64 n, .int .i64 r, .int .i64 s] w fun e w' => e = .returned (.int .i64 (shrI n r s)) ∧ Since w w' := by
  obtain ⟨k0, k1⟩ := shr_in (p := n) (r := r) (by omega) hs.1 hnn
  by_cases h : n < 0
  · have hd : decide (n < 0) = true := by simp [h]
    have u1 : IntKind.i64.wrap (-n) = -n := IntWalk.i64_in _ (by omega)
    have e := shr_whole_neg (r := r) (s := s) h
    have hW := fun w => rf_whole (-n) r s (by omega) hr hs (by rw [Int.neg_mul_neg]; exact hnn) w
    rw [e] at k0 k1 ⊢
    generalize (rootI (2 * -n * r * (2 * -n * r) / s) + 1) / 2 = V at *
    have u2 : IntKind.i64.wrap (-V) = -V := IntWalk.i64_in _ (by omega)
    have HW := Lib.hid hW
    clear hW e
    go_enter Try.func75, Try.ntmps75
    go_wp2_with (go_at_call 101; (with_reducible refine (HW.out _).mono ?_); rintro e w1 ⟨rfl, hS1⟩)
    go_ret
    exact ⟨rfl, by (repeat (first | with_reducible (exact Since.refl _) | with_reducible assumption | with_reducible (refine Since.drew ?_) | with_reducible (refine Since.drewN ?_ _) | with_reducible (refine Since.alloc ?_ _) | (with_reducible (refine Since.setCell ?_ ?_ _); rotate_left; focus (first | (simp; done) | (simp; omega) | omega)) | (with_reducible (refine Since.trans ?_ (by with_reducible assumption)))))⟩
  · have hd : decide (n < 0) = false := by simp; omega
    have e := shr_whole_pos (r := r) (s := s) h
    have hW := fun w => rf_whole n r s (by omega) hr hs hnn w
    rw [e] at k0 k1 ⊢
    generalize (rootI (2 * n * r * (2 * n * r) / s) + 1) / 2 = V at *
    have HW := Lib.hid hW
    clear hW e
    go_enter Try.func75, Try.ntmps75
    go_wp2_with (go_at_call 101; (with_reducible refine (HW.out _).mono ?_); rintro e w1 ⟨rfl, hS1⟩)
    go_ret
    exact ⟨rfl, by (repeat (first | with_reducible (exact Since.refl _) | with_reducible assumption | with_reducible (refine Since.drew ?_) | with_reducible (refine Since.drewN ?_ _) | with_reducible (refine Since.alloc ?_ _) | (with_reducible (refine Since.setCell ?_ ?_ _); rotate_left; focus (first | (simp; done) | (simp; omega) | omega)) | (with_reducible (refine Since.trans ?_ (by with_reducible assumption)))))⟩
end Go.Proofs.Ytckochcocflleaa
