/-
  Layer 2: the document's examples.
-/
import Derived.Test.YtaojdflnfdabhaaBeC
import Derived.Test.YtaojdflnfdabhaaBeF
namespace Go.Proofs.Ytaojdflnfdabhaa
open Go.RowKit
set_option linter.unusedVariables false

theorem rd_cells (w : World) (xs : Array Value) (t : TypeId) (f : Nat → Int) (h : ∀ j, j < xs.size → xs[j]? = some (.int .u8 (f j))) : Rd (w.alloc (.cells xs t)) (w.alloc (.cells xs t)).heap.size (some ⟨w.heap.size, 0, none⟩) xs.size (U8 f) := fun hn =>
  ⟨w.heap.size, 0, rfl, by simp, fun j hj => by rw [World.cell?_alloc_new, Nat.zero_add]; exact h j hj⟩
theorem small_cases {n j : Nat} (hj : j < n) (h : n ≤ 3) : j = 0 ∨ j = 1 ∨ j = 2 := by omega
theorem al_u (w : World) (t : TypeId) : Calls Try.prog 15 #[.slice (some ⟨w.heap.size, 0, none⟩) 3 3, .int .i64 1, .int .i64 2] (w.alloc (.cells #[.int .u8 1, .int .u8 2, .int .u8 3] t)) fun e w' => e = .returned (.tuple #[.int .i64 515, .int .i64 0]) ∧ w' = w.alloc (.cells #[.int .u8 1, .int .u8 2, .int .u8 3] t) := by
  refine be_u _ 3 3 (fun j => [1, 2, 3].getD j 0) 1 2 _ (rd_cells w #[.int .u8 1, .int .u8 2, .int .u8 3] t _ (fun j hj => ?_)) (fun j hj => ?_) (by unfold In64; omega) (by unfold In64; omega) (by omega)
  · rcases small_cases hj (by decide) with rfl | rfl | rfl <;> rfl
  · rcases small_cases hj (by decide) with rfl | rfl | rfl <;> simp
theorem al_s (w : World) (b : Nat) (hb : b = w.heap.size) (t : TypeId) : Calls Try.prog 17 #[.slice (some ⟨b, 0, none⟩) 2 2, .int .i64 0, .int .i64 2] (w.alloc (.cells #[.int .u8 255, .int .u8 254] t)) fun e w' => e = .returned (.tuple #[.int .i64 (-2), .int .i64 0]) ∧ w' = w.alloc (.cells #[.int .u8 255, .int .u8 254] t) := by
  subst hb
  refine be_s _ 2 2 (fun j => [255, 254].getD j 0) 0 2 _ (rd_cells w #[.int .u8 255, .int .u8 254] t _ (fun j hj => ?_)) (fun j hj => ?_) (by unfold In64; omega) (by unfold In64; omega) (by omega)
  · rcases small_cases hj (by decide) with rfl | rfl | rfl <;> first | rfl | (exfalso; simp at hj)
  · rcases small_cases hj (by decide) with rfl | rfl | rfl <;> first | (exfalso; simp at hj; done) | simp

theorem al_put (w : World) : Calls Try.prog 20 #[.int .i64 (-2), .int .i64 3] w fun e w' => ∃ g, e = .returned (.slice (some ⟨g, 0, none⟩) 3 3) ∧ w.heap.size ≤ g ∧ Row w' g 3 (U8 (byteOf (-2) 3)) ∧ Since w w' :=
  be_put (-2) 3 w (by unfold In64; omega) (by unfold In64; omega)
theorem al_pad (w : World) (A : Option Addr) (c : Nat) (f : Nat → Int) (h : Rd w w.heap.size A 5 (U8 f)) : Calls Try.prog 26 #[.slice A 5 c, .int .i64 4] w fun e w' => ∃ g, e = .returned (.slice (some ⟨g, 0, none⟩) 8 8) ∧ Since w w' := by
  refine (be_pad A 5 c f 4 w h (by unfold In64; omega) (by omega)).mono ?_
  rintro e w' ⟨g, rfl, _, _, hS⟩
  exact ⟨g, rfl, hS⟩
theorem al_conv {w : World} {g : Nat} (h : Row w g 3 (U8 (byteOf (-2) 3))) : (convert 22 9 (.slice (some ⟨g, 0, none⟩) 3 3)).run Try.prog w = .ok (.string (strOfNums [255, 255, 254])) w := (Rd.of_row h).conv 3

theorem al_noughts (w : World) (b : Nat) (hb : b = w.heap.size) : Rd (w.alloc (.cells #[.int .u8 0, .int .u8 0, .int .u8 0, .int .u8 0, .int .u8 0] 5)) (w.alloc (.cells #[.int .u8 0, .int .u8 0, .int .u8 0, .int .u8 0, .int .u8 0] 5)).heap.size (some ⟨b, 0, none⟩) 5 (U8 (fun _ => 0)) := by
  subst hb
  refine rd_cells w #[.int .u8 0, .int .u8 0, .int .u8 0, .int .u8 0, .int .u8 0] _ _ (fun j hj => ?_)
  have h : j = 0 ∨ j = 1 ∨ j = 2 ∨ j = 3 ∨ j = 4 := by simp at hj; omega
  rcases h with rfl | rfl | rfl | rfl | rfl <;> rfl
set_option maxHeartbeats 4000000 in
theorem alive02 (w : World) : Calls Try.prog 13 #[] w fun e w' => e = .returned (.bool true) ∧ Since w w' := by
  obtain ⟨i0, hi0, hz0, hz1, hz2⟩ := info_parts Try.info_u8
  have kt : ((strOfNums [255, 255, 254]).toList == [255, 255, 254]) = true := by kernel_rfl
  have hmk : ∀ w, (Instr.makeSlice 22 (.int .i64 5) (.int .i64 5)).run Try.prog w = .ok (.slice (some ⟨w.heap.size, 0, none⟩) 5 5) (w.alloc (.cells #[.int .u8 0, .int .u8 0, .int .u8 0, .int .u8 0, .int .u8 0] 5)) := fun _ => by kernel_rfl
  go_enter Try.func13, Try.ntmps13
  go_wp2_with (first | (go_at_call 15; (with_reducible refine (al_u _ _).mono ?_); rintro e w1 ⟨rfl, rfl⟩) | (go_at_call 17; (with_reducible refine (al_s _ _ (by simp) _).mono ?_); rintro e w2 ⟨rfl, rfl⟩) | (go_at_call 20; (with_reducible refine (al_put _).mono ?_); rintro e w3 ⟨g, rfl, hg, hR, hS3⟩; have kc := al_conv hR) | (go_at_call 26; (with_reducible refine (al_pad _ _ _ (fun _ => 0) (al_noughts _ _ rfl)).mono ?_); rintro e w5 ⟨g5, rfl, hS5⟩))
  go_ret
  exact ⟨rfl, by (repeat (first | with_reducible (exact Since.refl _) | with_reducible assumption | with_reducible (refine Since.drew ?_) | with_reducible (refine Since.drewN ?_ _) | with_reducible (refine Since.alloc ?_ _) | (with_reducible (refine Since.setCell ?_ ?_ _); rotate_left; focus (first | (simp; done) | (simp; omega) | omega)) | (with_reducible (refine Since.trans ?_ (by with_reducible assumption)))))⟩
end Go.Proofs.Ytaojdflnfdabhaa
