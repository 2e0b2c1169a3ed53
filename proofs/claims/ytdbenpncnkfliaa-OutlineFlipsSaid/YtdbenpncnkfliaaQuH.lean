/-
  Layer 13: 'Steps', walked.
-/
import Derived.Test.YtdbenpncnkfliaaQuF
namespace Go.Proofs.Ytdbenpncnkfliaa
open Go.RowKit
set_option linter.unusedVariables false

/-- How often a piece is halved that bends so. -/
def stepsN (b : Int) : Nat := if b ≤ 64 then 0 else if b ≤ 256 then 1 else if b ≤ 1024 then 2 else if b ≤ 4096 then 3 else if b ≤ 16384 then 4 else if b ≤ 65536 then 5 else if b ≤ 262144 then 6 else if b ≤ 1048576 then 7 else if b ≤ 4194304 then 8 else 9
theorem steps_le (b : Int) : stepsN b ≤ 9 := by unfold stepsN; repeat' split
                                                all_goals omega
set_option maxHeartbeats 8000000 in
theorem steps_iff {b z : Int} (hb : b ≤ 16777216) (h0 : 0 ≤ z) (h9 : z ≤ 9) : (64 * 2 ^ (2 * z).toNat < b ↔ z < stepsN b) ∧ 64 ≤ (64 : Int) * 2 ^ (2 * z).toNat ∧ (64 : Int) * 2 ^ (2 * z).toNat ≤ 16777216 := by
  have hz : z = 0 ∨ z = 1 ∨ z = 2 ∨ z = 3 ∨ z = 4 ∨ z = 5 ∨ z = 6 ∨ z = 7 ∨ z = 8 ∨ z = 9 := by omega
  unfold stepsN
  rcases hz with rfl | rfl | rfl | rfl | rfl | rfl | rfl | rfl | rfl | rfl <;> refine ⟨?_, by decide, by decide⟩
  all_goals
    simp only [Int.reduceMul, Int.reduceToNat, Int.reducePow]
    (repeat' split) <;> omega

set_option maxHeartbeats 8000000 in
theorem qu_steps (s : Sg) (hs : s.wf) (w : World) :
    Calls Try.prog 62 #[s.v] w fun e w' => e = .returned (.int .i64 (stepsN (bendI s) : Nat)) ∧ Since w w' := by
  have hc := fun w => qu_bend s hs w
  have hb := bend_in s
  have h9 := steps_le (bendI s)
  generalize bendI s = b at *
  have hi := fun z h1 h2 => steps_iff (b := b) (z := z) hb.2 h1 h2
  unfold Sg.v at *
  have HC := Lib.hid hc
  have HI := Lib.hid hi
  generalize stepsN b = N at *
  clear hc hs hi
  go_enter Try.func62, Try.ntmps62
  go_wp2_with (go_at_call 65; (with_reducible refine (HC.out _).mono ?_); rintro e w1 ⟨rfl, hS1⟩; have hS : Since w w1 := (by (repeat (first | with_reducible (exact Since.refl _) | with_reducible assumption | with_reducible (refine Since.drew ?_) | with_reducible (refine Since.drewN ?_ _) | with_reducible (refine Since.alloc ?_ _) | (with_reducible (refine Since.setCell ?_ ?_ _); rotate_left; focus (first | (simp; done) | (simp; omega) | omega)) | (with_reducible (refine Since.trans ?_ (by with_reducible assumption)))))); clear hS1 HC)
  go_loop [4] (fun y => ∃ z : Int, 0 ≤ z ∧ z ≤ N ∧ y = .int .i64 z) (fun y => 10 - (intOf y).toNat)
  case atStart => exact ⟨0, by omega, by omega, rfl⟩
  case round =>
    obtain ⟨z, h0, h1, rfl⟩ := hrel
    obtain ⟨i1, i2, i3⟩ := HI.out z h0 (by omega)
    have w1 : IntKind.i64.wrap (2 * z) = 2 * z := IntWalk.i64_in _ (by omega)
    have w2 : IntKind.i64.wrap (z + 1) = z + 1 := IntWalk.i64_in _ (by omega)
    have hm : min (2 * z).toNat 64 = (2 * z).toNat := by omega
    have hn0 : ¬ 2 * z < 0 := by omega
    generalize hq : (2 : Int) ^ (2 * z).toNat = q at *
    have w3 : IntKind.i64.wrap (64 * q) = 64 * q := IntWalk.i64_in _ (by omega)
    clear HI
    by_cases hL : 64 * q < b
    · have hz := i1.1 hL
      go_wp2
      go_round
      case rel => exact ⟨z + 1, by omega, by omega, rfl⟩
      case measure => simp [intOf]; omega
    · have hz : z = N := by have := mt i1.2 hL; omega
      have HZ := Lib.hid hz
      clear hz i1
      go_wp2
      go_ret
      exact ⟨by rw [HZ.out]; rfl, hS⟩
end Go.Proofs.Ytdbenpncnkfliaa
