/-
  Layer 10: 'Area', program and reference, and the reference's 'Same', walked.
-/
import Derived.Test.YtdbenpncnkfliaaGaG
import Derived.Deep.QuietTactic
import Derived.BigQuiet
namespace Go.Proofs.Ytdbenpncnkfliaa
open Go.RowKit
set_option linter.unusedVariables false

/-- Twice the area that the first k sides of a closed way of n points make. -/
def areaTo (X Y : Nat → Int) (n : Nat) : Nat → Int
  | 0 => 0
  | k + 1 => areaTo X Y n k + crossI (X k) (Y k) (X ((k + 1) % n)) (Y ((k + 1) % n))
theorem cross_range {x y u v : Int} (h1 : Near x) (h2 : Near y) (h3 : Near u) (h4 : Near v) : -562949953421312 ≤ crossI x y u v ∧ crossI x y u v ≤ 562949953421312 := by
  have b1 := near_mul h1 h4; have b2 := near_mul h2 h3
  unfold crossI
  omega
theorem areaTo_range {X Y : Nat → Int} {n : Nat} (h : ∀ j, j < n → Near (X j) ∧ Near (Y j)) : ∀ k, k ≤ n → -(k * 562949953421312) ≤ areaTo X Y n k ∧ areaTo X Y n k ≤ k * 562949953421312
  | 0, _ => by simp [areaTo]
  | k + 1, hk => by
    have h0 := areaTo_range h k (by omega)
    have hm : (k + 1) % n < n := Nat.mod_lt _ (by omega)
    have hc := cross_range (h k (by omega)).1 (h k (by omega)).2 (h _ hm).1 (h _ hm).2
    simp only [areaTo]
    omega

set_option maxHeartbeats 8000000 in
theorem rf_same (A B : Option Addr) (n c d : Nat) (X Y : Nat → Int) (w : World) (h1 : RdP w w.heap.size A n X Y) (h2 : RdP w w.heap.size B n X Y) (hn : n ≤ maxLen) :
    Calls Try.prog 33 #[.slice A n c, .slice B n d] w fun e w' => e = .returned (.bool true) ∧ Since w w' := by
  have hn' : (n : Int) ≤ 9223372036854775807 := by simp only [maxLen] at hn; omega
  go_enter Try.func33, Try.ntmps33
  go_wp2
  go_loopw [13] (fun y wr => ∃ j : Nat, j ≤ n ∧ y = .int .i64 (j : Int) ∧ Since w wr) (fun y _ => n - (intOf y).toNat)
  case atStart => exact ⟨0, by omega, rfl, Since.refl _⟩
  case round =>
    obtain ⟨j, hj, rfl, hSr⟩ := hrel
    by_cases hjn : j < n
    · have hjn' : (j : Int) < n := by omega
      obtain ⟨b, o, rfl, hb, hc⟩ := h1 (by omega)
      obtain ⟨b', o', rfl, hb', hc'⟩ := h2 (by omega)
      have c1 : wr.cell? ⟨b, o + j * 2, none⟩ = some (.int .i64 (X j)) := (hSr.1 _ _ hb).trans (hc j hjn).1
      have c2 : wr.cell? ⟨b, o + j * 2 + 1, none⟩ = some (.int .i64 (Y j)) := (hSr.1 _ _ hb).trans (hc j hjn).2
      have e1 : wr.cell? ⟨b', o' + j * 2, none⟩ = some (.int .i64 (X j)) := (hSr.1 _ _ hb').trans (hc' j hjn).1
      have e2 : wr.cell? ⟨b', o' + j * 2 + 1, none⟩ = some (.int .i64 (Y j)) := (hSr.1 _ _ hb').trans (hc' j hjn).2
      have hj0 : (0 : Int) ≤ j := by omega
      generalize X j = x at *
      generalize Y j = y at *
      clear hc hc' h1 h2
      go_wp2_with fail
      go_quiet (fail)
      go_wp2
      refine ⟨⟨j + 1, by omega, by simp, by (repeat (first | with_reducible (exact Since.refl _) | with_reducible assumption | with_reducible (refine Since.drew ?_) | with_reducible (refine Since.drewN ?_ _) | with_reducible (refine Since.alloc ?_ _) | (with_reducible (refine Since.setCell ?_ ?_ _); rotate_left; focus (first | (simp; done) | (simp; omega) | omega)) | (with_reducible (refine Since.trans ?_ (by with_reducible assumption)))))⟩, by simp [intOf]; omega⟩
    · obtain rfl : j = n := by omega
      clear h1 h2
      go_wp2
      go_ret
      exact ⟨rfl, hSr⟩
end Go.Proofs.Ytdbenpncnkfliaa
