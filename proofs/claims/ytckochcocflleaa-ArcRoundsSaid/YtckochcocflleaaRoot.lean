/-
  The program's square root over this translation: bit by bit.
-/
import Derived.Test.YtckochcocflleaaDiv
namespace Go.Proofs.Ytckochcocflleaa
open Go.RowKit
set_option linter.unusedVariables false

/-- r is the square root of a, rounded down. -/
def IsRoot (a r : Int) : Prop := 0 ≤ r ∧ r * r ≤ a ∧ a < (r + 1) * (r + 1)

theorem wide_root_no (a : Int) (ha : In128 a) (hn : a < 0) (w : World) :
    Calls Try.prog 53 #[W a] w fun e w' => e = .returned (.tuple #[.int .u64 0, .int .i64 2]) ∧ Since w w' := by
  have hn' : decide (hiW a < 0) = true := by unfold hiW; simp; omega
  go_enter Try.func53, Try.ntmps53
  go_wp2
  go_ret2
  exact ⟨rfl, by (repeat (first | with_reducible (exact Since.refl _) | with_reducible assumption | with_reducible (refine Since.drew ?_) | with_reducible (refine Since.drewN ?_ _) | with_reducible (refine Since.alloc ?_ _) | (with_reducible (refine Since.setCell ?_ ?_ _); rotate_left; focus (first | (simp; done) | (simp; omega) | omega)) | (with_reducible (refine Since.trans ?_ (by with_reducible assumption)))))⟩

/-- After k bits: R is a root of a up to the bits to come. -/
def RootRel (a : Int) (k : Nat) (R : Int) : Prop := (∃ m : Int, 0 ≤ m ∧ R = m * 2 ^ (64 - k)) ∧ R * R ≤ a ∧ a < (R + 2 ^ (64 - k)) * (R + 2 ^ (64 - k)) ∧ R + 2 ^ (64 - k) ≤ 18446744073709551616

theorem root_start {a : Int} (ha : In128 a) (hn : 0 ≤ a) : RootRel a 0 0 := by
  unfold In128 at ha
  exact ⟨⟨0, by omega, by omega⟩, by omega, by simp; omega, by simp⟩
theorem two_half {k : Nat} (h : k < 64) : (2 : Int) ^ (64 - k) = 2 * 2 ^ (63 - k) := by
  rw [show 64 - k = (63 - k) + 1 by omega, Int.pow_succ, Int.mul_comm]
theorem root_more {a R : Int} {k : Nat} (h : k < 64) (hR : RootRel a k R) : bits .or .u64 R (IntKind.u64.wrap (2 ^ (63 - k))) = R + 2 ^ (63 - k) ∧ 0 ≤ R + 2 ^ (63 - k) ∧ R + 2 ^ (63 - k) < 18446744073709551616 := by
  obtain ⟨⟨m, m0, e⟩, _, _, h4⟩ := hR
  have hp := two_half h
  have hp0 : 0 < (2 : Int) ^ (63 - k) := Int.pow_pos (by omega)
  have hR0 : 0 ≤ R := by rw [e]; exact Int.mul_nonneg m0 (by omega)
  rw [hp] at h4
  have hw : IntKind.u64.wrap (2 ^ (63 - k)) = 2 ^ (63 - k) := u64_of (by omega) (by omega)
  rw [hw]
  refine ⟨?_, by omega, by omega⟩
  have := or_parts m (2 ^ (63 - k)) (64 - k) m0 (by omega) (by omega) (by rw [← e]; omega)
  rw [e]; exact this
theorem root_yes {a R : Int} {k : Nat} (h : k < 64) (hR : RootRel a k R) (hs : sqx (R + 2 ^ (63 - k)) a = false) : RootRel a (k + 1) (R + 2 ^ (63 - k)) := by
  obtain ⟨⟨m, m0, e⟩, h2, h3, h4⟩ := hR
  have hp := two_half h
  have e1 : 64 - (k + 1) = 63 - k := by omega
  have e2 : R + 2 ^ (63 - k) + 2 ^ (63 - k) = R + 2 ^ (64 - k) := by rw [hp]; omega
  refine ⟨⟨2 * m + 1, by omega, ?_⟩, ?_, ?_, ?_⟩
  · rw [e1, e, hp, Int.add_mul, Int.one_mul, Int.mul_left_comm m, Int.mul_assoc 2 m]
  · unfold sqx at hs; simpa using hs
  · rw [e1, e2]; exact h3
  · rw [e1, e2]; exact h4
theorem root_not {a R : Int} {k : Nat} (h : k < 64) (hR : RootRel a k R) (hs : sqx (R + 2 ^ (63 - k)) a = true) : RootRel a (k + 1) R := by
  obtain ⟨⟨m, m0, e⟩, h2, h3, h4⟩ := hR
  have hp := two_half h
  have hp0 : 0 < (2 : Int) ^ (63 - k) := Int.pow_pos (by omega)
  have e1 : 64 - (k + 1) = 63 - k := by omega
  refine ⟨⟨2 * m, by omega, ?_⟩, h2, ?_, ?_⟩
  · rw [e1, e, hp, Int.mul_left_comm m, Int.mul_assoc 2 m]
  · rw [e1]; unfold sqx at hs; simpa using hs
  · rw [e1]; omega
theorem root_end {a R : Int} (hR : RootRel a 64 R) : IsRoot a R ∧ R < 18446744073709551616 := by
  obtain ⟨⟨m, m0, e⟩, h2, h3, h4⟩ := hR
  simp at e h3 h4
  subst e
  exact ⟨⟨m0, h2, h3⟩, by omega⟩

theorem wide_root (a : Int) (ha : In128 a) (hn : 0 ≤ a) (w : World) :
    Calls Try.prog 53 #[W a] w fun e w' => ∃ r, IsRoot a r ∧ r < 18446744073709551616 ∧ e = .returned (.tuple #[.int .u64 r, .int .i64 0]) ∧ Since w w' := by
  have hn' : decide (hiW a < 0) = false := by unfold hiW; simp; omega
  have st := root_start ha hn
  go_enter Try.func53, Try.ntmps53
  go_wp2
  go_loopw [4, 10] (fun r i wr => ∃ (k : Nat) (R : Int), k ≤ 64 ∧ i = .int .i64 k ∧ r = .int .u64 R ∧ RootRel a k R ∧ Since (w.alloc (.cells #[.int .i64 (hiW a), .int .u64 (loW a)] 26)) wr) (fun _ i _ => 64 - (intOf i).toNat)
  case atStart => exact ⟨0, 0, by omega, rfl, rfl, st, Since.refl _⟩
  case round =>
    clear st
    obtain ⟨k, R, hk, rfl, rfl, hR, hS0⟩ := hrel
    have hT := hS0
    obtain ⟨hc0, hf0, hz0, hb0⟩ := hT
    by_cases hlt : k < 64
    · obtain ⟨e1, m0, m1⟩ := root_more hlt hR
      cases hs : sqx (R + 2 ^ (63 - k)) a with
      | true =>
        have hnew := root_not hlt hR hs
        clear hR
        go_wp2_with (go_at_call 81; refine (wide_exceeds _ a m0 m1 ha hn _).mono ?_; rintro e w1 ⟨rfl, hS1⟩; have hT := hS1; obtain ⟨hc1, hf1, hz1, hb1⟩ := hT; (try (have hq1_0_0 := hz1 (w.heap.size) (by first | with_reducible assumption | (simp; done) | (simp; omega) | omega); have hp1_0_0 := Nat.ne_of_lt hq1_0_0; have hl1_0_0 := Nat.le_of_lt hq1_0_0)); (try (have hq1_0_1 := hz1 (w.heap.size + 1) (by first | with_reducible assumption | (simp; done) | (simp; omega) | omega); have hp1_0_1 := Nat.ne_of_lt hq1_0_1; have hl1_0_1 := Nat.le_of_lt hq1_0_1)); (try (have hq1_0_2 := hz1 (w.heap.size + 1 + 1) (by first | with_reducible assumption | (simp; done) | (simp; omega) | omega); have hp1_0_2 := Nat.ne_of_lt hq1_0_2; have hl1_0_2 := Nat.le_of_lt hq1_0_2)); (try (have hq1_0_3 := hz1 (w.heap.size + 1 + 1 + 1) (by first | with_reducible assumption | (simp; done) | (simp; omega) | omega); have hp1_0_3 := Nat.ne_of_lt hq1_0_3; have hl1_0_3 := Nat.le_of_lt hq1_0_3)); (try (have hq1_1_0 := hz1 (w1.heap.size) (by first | with_reducible assumption | (simp; done) | (simp; omega) | omega); have hp1_1_0 := Nat.ne_of_lt hq1_1_0; have hl1_1_0 := Nat.le_of_lt hq1_1_0)); (try (have hq1_1_1 := hz1 (w1.heap.size + 1) (by first | with_reducible assumption | (simp; done) | (simp; omega) | omega); have hp1_1_1 := Nat.ne_of_lt hq1_1_1; have hl1_1_1 := Nat.le_of_lt hq1_1_1)); (try (have hq1_2_0 := hz1 (w2.heap.size) (by first | with_reducible assumption | (simp; done) | (simp; omega) | omega); have hp1_2_0 := Nat.ne_of_lt hq1_2_0; have hl1_2_0 := Nat.le_of_lt hq1_2_0)); (try (have hq1_2_1 := hz1 (w2.heap.size + 1) (by first | with_reducible assumption | (simp; done) | (simp; omega) | omega); have hp1_2_1 := Nat.ne_of_lt hq1_2_1; have hl1_2_1 := Nat.le_of_lt hq1_2_1)); (try (have hq1_3_0 := hz1 (w3.heap.size) (by first | with_reducible assumption | (simp; done) | (simp; omega) | omega); have hp1_3_0 := Nat.ne_of_lt hq1_3_0; have hl1_3_0 := Nat.le_of_lt hq1_3_0)); (try (have hq1_3_1 := hz1 (w3.heap.size + 1) (by first | with_reducible assumption | (simp; done) | (simp; omega) | omega); have hp1_3_1 := Nat.ne_of_lt hq1_3_1; have hl1_3_1 := Nat.le_of_lt hq1_3_1)); (try (have hq1_4_0 := hz1 (w4.heap.size) (by first | with_reducible assumption | (simp; done) | (simp; omega) | omega); have hp1_4_0 := Nat.ne_of_lt hq1_4_0; have hl1_4_0 := Nat.le_of_lt hq1_4_0)); (try (have hq1_4_1 := hz1 (w4.heap.size + 1) (by first | with_reducible assumption | (simp; done) | (simp; omega) | omega); have hp1_4_1 := Nat.ne_of_lt hq1_4_1; have hl1_4_1 := Nat.le_of_lt hq1_4_1)); (try (have hq1_5_0 := hz1 (w5.heap.size) (by first | with_reducible assumption | (simp; done) | (simp; omega) | omega); have hp1_5_0 := Nat.ne_of_lt hq1_5_0; have hl1_5_0 := Nat.le_of_lt hq1_5_0)); (try (have hq1_5_1 := hz1 (w5.heap.size + 1) (by first | with_reducible assumption | (simp; done) | (simp; omega) | omega); have hp1_5_1 := Nat.ne_of_lt hq1_5_1; have hl1_5_1 := Nat.le_of_lt hq1_5_1)); (try (have hq1_6_0 := hz1 (w6.heap.size) (by first | with_reducible assumption | (simp; done) | (simp; omega) | omega); have hp1_6_0 := Nat.ne_of_lt hq1_6_0; have hl1_6_0 := Nat.le_of_lt hq1_6_0)); (try (have hq1_6_1 := hz1 (w6.heap.size + 1) (by first | with_reducible assumption | (simp; done) | (simp; omega) | omega); have hp1_6_1 := Nat.ne_of_lt hq1_6_1; have hl1_6_1 := Nat.le_of_lt hq1_6_1)); (try (have hq1_7_0 := hz1 (w7.heap.size) (by first | with_reducible assumption | (simp; done) | (simp; omega) | omega); have hp1_7_0 := Nat.ne_of_lt hq1_7_0; have hl1_7_0 := Nat.le_of_lt hq1_7_0)); (try (have hq1_7_1 := hz1 (w7.heap.size + 1) (by first | with_reducible assumption | (simp; done) | (simp; omega) | omega); have hp1_7_1 := Nat.ne_of_lt hq1_7_1; have hl1_7_1 := Nat.le_of_lt hq1_7_1)); (try (have hq1_8_0 := hz1 (w8.heap.size) (by first | with_reducible assumption | (simp; done) | (simp; omega) | omega); have hp1_8_0 := Nat.ne_of_lt hq1_8_0; have hl1_8_0 := Nat.le_of_lt hq1_8_0)); (try (have hq1_8_1 := hz1 (w8.heap.size + 1) (by first | with_reducible assumption | (simp; done) | (simp; omega) | omega); have hp1_8_1 := Nat.ne_of_lt hq1_8_1; have hl1_8_1 := Nat.le_of_lt hq1_8_1)); (try (have hq1_9_0 := hz1 (w9.heap.size) (by first | with_reducible assumption | (simp; done) | (simp; omega) | omega); have hp1_9_0 := Nat.ne_of_lt hq1_9_0; have hl1_9_0 := Nat.le_of_lt hq1_9_0)); (try (have hq1_9_1 := hz1 (w9.heap.size + 1) (by first | with_reducible assumption | (simp; done) | (simp; omega) | omega); have hp1_9_1 := Nat.ne_of_lt hq1_9_1; have hl1_9_1 := Nat.le_of_lt hq1_9_1)))
        exact ⟨⟨k + 1, R, by omega, by go_num, rfl, hnew, hS0.trans hS1⟩, by simp [intOf]; omega⟩
      | false =>
        have hnew := root_yes hlt hR hs
        clear hR
        go_wp2_with (go_at_call 81; refine (wide_exceeds _ a m0 m1 ha hn _).mono ?_; rintro e w1 ⟨rfl, hS1⟩; have hT := hS1; obtain ⟨hc1, hf1, hz1, hb1⟩ := hT; (try (have hq1_0_0 := hz1 (w.heap.size) (by first | with_reducible assumption | (simp; done) | (simp; omega) | omega); have hp1_0_0 := Nat.ne_of_lt hq1_0_0; have hl1_0_0 := Nat.le_of_lt hq1_0_0)); (try (have hq1_0_1 := hz1 (w.heap.size + 1) (by first | with_reducible assumption | (simp; done) | (simp; omega) | omega); have hp1_0_1 := Nat.ne_of_lt hq1_0_1; have hl1_0_1 := Nat.le_of_lt hq1_0_1)); (try (have hq1_0_2 := hz1 (w.heap.size + 1 + 1) (by first | with_reducible assumption | (simp; done) | (simp; omega) | omega); have hp1_0_2 := Nat.ne_of_lt hq1_0_2; have hl1_0_2 := Nat.le_of_lt hq1_0_2)); (try (have hq1_0_3 := hz1 (w.heap.size + 1 + 1 + 1) (by first | with_reducible assumption | (simp; done) | (simp; omega) | omega); have hp1_0_3 := Nat.ne_of_lt hq1_0_3; have hl1_0_3 := Nat.le_of_lt hq1_0_3)); (try (have hq1_1_0 := hz1 (w1.heap.size) (by first | with_reducible assumption | (simp; done) | (simp; omega) | omega); have hp1_1_0 := Nat.ne_of_lt hq1_1_0; have hl1_1_0 := Nat.le_of_lt hq1_1_0)); (try (have hq1_1_1 := hz1 (w1.heap.size + 1) (by first | with_reducible assumption | (simp; done) | (simp; omega) | omega); have hp1_1_1 := Nat.ne_of_lt hq1_1_1; have hl1_1_1 := Nat.le_of_lt hq1_1_1)); (try (have hq1_2_0 := hz1 (w2.heap.size) (by first | with_reducible assumption | (simp; done) | (simp; omega) | omega); have hp1_2_0 := Nat.ne_of_lt hq1_2_0; have hl1_2_0 := Nat.le_of_lt hq1_2_0)); (try (have hq1_2_1 := hz1 (w2.heap.size + 1) (by first | with_reducible assumption | (simp; done) | (simp; omega) | omega); have hp1_2_1 := Nat.ne_of_lt hq1_2_1; have hl1_2_1 := Nat.le_of_lt hq1_2_1)); (try (have hq1_3_0 := hz1 (w3.heap.size) (by first | with_reducible assumption | (simp; done) | (simp; omega) | omega); have hp1_3_0 := Nat.ne_of_lt hq1_3_0; have hl1_3_0 := Nat.le_of_lt hq1_3_0)); (try (have hq1_3_1 := hz1 (w3.heap.size + 1) (by first | with_reducible assumption | (simp; done) | (simp; omega) | omega); have hp1_3_1 := Nat.ne_of_lt hq1_3_1; have hl1_3_1 := Nat.le_of_lt hq1_3_1)); (try (have hq1_4_0 := hz1 (w4.heap.size) (by first | with_reducible assumption | (simp; done) | (simp; omega) | omega); have hp1_4_0 := Nat.ne_of_lt hq1_4_0; have hl1_4_0 := Nat.le_of_lt hq1_4_0)); (try (have hq1_4_1 := hz1 (w4.heap.size + 1) (by first | with_reducible assumption | (simp; done) | (simp; omega) | omega); have hp1_4_1 := Nat.ne_of_lt hq1_4_1; have hl1_4_1 := Nat.le_of_lt hq1_4_1)); (try (have hq1_5_0 := hz1 (w5.heap.size) (by first | with_reducible assumption | (simp; done) | (simp; omega) | omega); have hp1_5_0 := Nat.ne_of_lt hq1_5_0; have hl1_5_0 := Nat.le_of_lt hq1_5_0)); (try (have hq1_5_1 := hz1 (w5.heap.size + 1) (by first | with_reducible assumption | (simp; done) | (simp; omega) | omega); have hp1_5_1 := Nat.ne_of_lt hq1_5_1; have hl1_5_1 := Nat.le_of_lt hq1_5_1)); (try (have hq1_6_0 := hz1 (w6.heap.size) (by first | with_reducible assumption | (simp; done) | (simp; omega) | omega); have hp1_6_0 := Nat.ne_of_lt hq1_6_0; have hl1_6_0 := Nat.le_of_lt hq1_6_0)); (try (have hq1_6_1 := hz1 (w6.heap.size + 1) (by first | with_reducible assumption | (simp; done) | (simp; omega) | omega); have hp1_6_1 := Nat.ne_of_lt hq1_6_1; have hl1_6_1 := Nat.le_of_lt hq1_6_1)); (try (have hq1_7_0 := hz1 (w7.heap.size) (by first | with_reducible assumption | (simp; done) | (simp; omega) | omega); have hp1_7_0 := Nat.ne_of_lt hq1_7_0; have hl1_7_0 := Nat.le_of_lt hq1_7_0)); (try (have hq1_7_1 := hz1 (w7.heap.size + 1) (by first | with_reducible assumption | (simp; done) | (simp; omega) | omega); have hp1_7_1 := Nat.ne_of_lt hq1_7_1; have hl1_7_1 := Nat.le_of_lt hq1_7_1)); (try (have hq1_8_0 := hz1 (w8.heap.size) (by first | with_reducible assumption | (simp; done) | (simp; omega) | omega); have hp1_8_0 := Nat.ne_of_lt hq1_8_0; have hl1_8_0 := Nat.le_of_lt hq1_8_0)); (try (have hq1_8_1 := hz1 (w8.heap.size + 1) (by first | with_reducible assumption | (simp; done) | (simp; omega) | omega); have hp1_8_1 := Nat.ne_of_lt hq1_8_1; have hl1_8_1 := Nat.le_of_lt hq1_8_1)); (try (have hq1_9_0 := hz1 (w9.heap.size) (by first | with_reducible assumption | (simp; done) | (simp; omega) | omega); have hp1_9_0 := Nat.ne_of_lt hq1_9_0; have hl1_9_0 := Nat.le_of_lt hq1_9_0)); (try (have hq1_9_1 := hz1 (w9.heap.size + 1) (by first | with_reducible assumption | (simp; done) | (simp; omega) | omega); have hp1_9_1 := Nat.ne_of_lt hq1_9_1; have hl1_9_1 := Nat.le_of_lt hq1_9_1)))
        exact ⟨⟨k + 1, _, by omega, by go_num, rfl, hnew, hS0.trans hS1⟩, by simp [intOf]; omega⟩
    · obtain rfl : k = 64 := by omega
      obtain ⟨h1, h2⟩ := root_end hR
      clear hR
      go_wp2
      go_ret2
      exact ⟨R, h1, h2, rfl, by (repeat (first | with_reducible (exact Since.refl _) | with_reducible assumption | with_reducible (refine Since.drew ?_) | with_reducible (refine Since.drewN ?_ _) | with_reducible (refine Since.alloc ?_ _) | (with_reducible (refine Since.setCell ?_ ?_ _); rotate_left; focus (first | (simp; done) | (simp; omega) | omega)) | (with_reducible (refine Since.trans ?_ (by with_reducible assumption)))))⟩
end Go.Proofs.Ytckochcocflleaa
