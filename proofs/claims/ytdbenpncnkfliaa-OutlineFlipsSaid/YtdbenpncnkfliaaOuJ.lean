/-
  Layer 11: the document's examples; the law OutlineMids, walked.
-/
import Derived.Test.YtdbenpncnkfliaaOuF
import Derived.Test.YtdbenpncnkfliaaCrA
namespace Go.Proofs.Ytdbenpncnkfliaa
open Go.RowKit Go.ChangeShapes Go.WideShapes Go.Deep
set_option linter.unusedVariables false

theorem al_seg1 (w : World) (b : Nat) (hb : b = w.heap.size) (t : TypeId) : Calls Try.prog 15 #[.slice (some ⟨b, 0, none⟩) 3 3] (w.alloc (.cells #[.int .i64 0, .int .i64 0, .bool true, .int .i64 4, .int .i64 0, .bool false, .int .i64 4, .int .i64 4, .bool true] t)) fun e w' => ∃ A c, e = .returned (.slice A 2 c) ∧ RdS w' w'.heap.size A [⟨0, 0, 4, 0, 4, 4, true⟩, ⟨4, 4, 0, 0, 0, 0, false⟩] ∧ Since (w.alloc (.cells #[.int .i64 0, .int .i64 0, .bool true, .int .i64 4, .int .i64 0, .bool false, .int .i64 4, .int .i64 4, .bool true] t)) w' := by
  have h := ou_segs_rd _ 3 3 (nthI [0, 4, 4]) (nthI [0, 0, 4]) (nthB [true, false, true]) _ (rdK_lit w b hb t #[.int .i64 0, .int .i64 0, .bool true, .int .i64 4, .int .i64 0, .bool false, .int .i64 4, .int .i64 4, .bool true] 3 (nthI [0, 4, 4]) (nthI [0, 0, 4]) (nthB [true, false, true]) (fun j hj => by
    have hh : j = 0 ∨ j = 1 ∨ j = 2 := by omega
    rcases hh with rfl | rfl | rfl <;> exact ⟨rfl, rfl, rfl⟩)) (fun j _ => inP_lit (by decide) (by decide) j) (by omega)
  have e : segsL 3 (nthI [0, 4, 4]) (nthI [0, 0, 4]) (nthB [true, false, true]) = [⟨0, 0, 4, 0, 4, 4, true⟩, ⟨4, 4, 0, 0, 0, 0, false⟩] := by kernel_rfl
  rw [e] at h
  exact h
theorem al_seg2 (w : World) (b : Nat) (hb : b = w.heap.size) (t : TypeId) : Calls Try.prog 15 #[.slice (some ⟨b, 0, none⟩) 4 4] (w.alloc (.cells #[.int .i64 0, .int .i64 0, .bool false, .int .i64 4, .int .i64 0, .bool false, .int .i64 4, .int .i64 4, .bool false, .int .i64 0, .int .i64 4, .bool false] t)) fun e w' => ∃ b' o c, e = .returned (.slice (some ⟨b', o, none⟩) 4 c) ∧ (b' < w'.heap.size ∧ w'.cell? ⟨b', o, none⟩ = some (.int .i64 0) ∧ w'.cell? ⟨b', o + 1, none⟩ = some (.int .i64 2) ∧ w'.cell? ⟨b', o + 2, none⟩ = some (.int .i64 0) ∧ w'.cell? ⟨b', o + 3, none⟩ = some (.int .i64 0) ∧ w'.cell? ⟨b', o + 4, none⟩ = some (.int .i64 2) ∧ w'.cell? ⟨b', o + 5, none⟩ = some (.int .i64 0) ∧ w'.cell? ⟨b', o + 6, none⟩ = some (.bool true)) ∧ Since (w.alloc (.cells #[.int .i64 0, .int .i64 0, .bool false, .int .i64 4, .int .i64 0, .bool false, .int .i64 4, .int .i64 4, .bool false, .int .i64 0, .int .i64 4, .bool false] t)) w' := by
  have h := ou_segs_rd _ 4 4 (nthI [0, 4, 4, 0]) (nthI [0, 0, 4, 4]) (nthB []) _ (rdK_lit w b hb t #[.int .i64 0, .int .i64 0, .bool false, .int .i64 4, .int .i64 0, .bool false, .int .i64 4, .int .i64 4, .bool false, .int .i64 0, .int .i64 4, .bool false] 4 (nthI [0, 4, 4, 0]) (nthI [0, 0, 4, 4]) (nthB []) (fun j hj => by
    have hh : j = 0 ∨ j = 1 ∨ j = 2 ∨ j = 3 := by omega
    rcases hh with rfl | rfl | rfl | rfl <;> exact ⟨rfl, rfl, rfl⟩)) (fun j _ => inP_lit (by decide) (by decide) j) (by omega)
  have e : segsL 4 (nthI [0, 4, 4, 0]) (nthI [0, 0, 4, 4]) (nthB []) = [⟨0, 2, 0, 0, 2, 0, true⟩, ⟨2, 0, 4, 0, 4, 2, true⟩, ⟨4, 2, 4, 4, 2, 4, true⟩, ⟨2, 4, 0, 4, 0, 2, true⟩] := by kernel_rfl
  rw [e] at h
  refine h.mono ?_
  rintro e w' ⟨A, c, rfl, hr, hS⟩
  obtain ⟨b', o, rfl, hb', hc⟩ := hr (by simp)
  obtain ⟨h1, h2, h3, h4, h5, h6, h7⟩ := hc 0 _ rfl
  exact ⟨b', o, c, rfl, ⟨hb', h1, h2, h3, h4, h5, h6, h7⟩, hS⟩
theorem al_seg3 (w : World) (b : Nat) (hb : b = w.heap.size) (t : TypeId) : Calls Try.prog 15 #[.slice (some ⟨b, 0, none⟩) 1 1] (w.alloc (.cells #[.int .i64 9, .int .i64 0, .bool false] t)) fun e w' => ∃ A c, e = .returned (.slice A 0 c) ∧ Since (w.alloc (.cells #[.int .i64 9, .int .i64 0, .bool false] t)) w' := by
  have h := ou_segs_rd _ 1 1 (nthI [9]) (nthI [0]) (nthB []) _ (rdK_lit w b hb t #[.int .i64 9, .int .i64 0, .bool false] 1 (nthI [9]) (nthI [0]) (nthB []) (fun j hj => by
    obtain rfl : j = 0 := by omega
    exact ⟨rfl, rfl, rfl⟩)) (fun j _ => inP_lit (by decide) (by decide) j) (by omega)
  have e : segsL 1 (nthI [9]) (nthI [0]) (nthB []) = [] := by kernel_rfl
  rw [e] at h
  refine h.mono ?_
  rintro e w' ⟨A, c, rfl, hr, hS⟩
  exact ⟨A, c, rfl, hS⟩
theorem al_mid (w : World) : Calls Try.prog 19 #[.agg #[.int .i64 0, .int .i64 0], .agg #[.int .i64 (-3), .int .i64 5]] w fun e w' => e = .returned (.agg #[.int .i64 (-2), .int .i64 2]) ∧ Since w w' := by
  have h := ou_mid 0 0 (-3) 5 (inP_small (by omega) (by omega)) (inP_small (by omega) (by omega)) w
  have e1 : mid 0 (-3) = -2 := by decide
  have e2 : mid 0 5 = 2 := by decide
  rw [e1, e2] at h
  exact h
set_option maxRecDepth 100000 in
set_option maxHeartbeats 8000000 in
theorem alive11 (w : World) : Calls Try.prog 14 #[] w fun e w' => e = .returned (.bool true) ∧ Since w w' := by
  go_enter Try.func14, Try.ntmps14
  go_wp2_with (first | (go_at_call 15; (with_reducible refine (al_seg1 _ _ (by simp) _).mono ?_); rintro e w1 ⟨A1, c1, rfl, hR1, hS1⟩; have hT1 : Since w w1 := (by (repeat (first | with_reducible (exact Since.refl _) | with_reducible assumption | with_reducible (refine Since.drew ?_) | with_reducible (refine Since.drewN ?_ _) | with_reducible (refine Since.alloc ?_ _) | (with_reducible (refine Since.setCell ?_ ?_ _); rotate_left; focus (first | (simp; done) | (simp; omega) | omega)) | (with_reducible (refine Since.trans ?_ (by with_reducible assumption)))))); clear hS1) | (go_at_call 15; (with_reducible refine (al_seg2 _ _ (by simp) _).mono ?_); rintro e w2 ⟨b2, o2, c2, rfl, ⟨q0, q1, q2, q3, q4, q5, q6, q7⟩, hS2⟩; have hR2 := hR1.on ((Since.alloc (Since.refl w1) _).trans hS2); have hT2 : Since w w2 := (by (repeat (first | with_reducible (exact Since.refl _) | with_reducible assumption | with_reducible (refine Since.drew ?_) | with_reducible (refine Since.drewN ?_ _) | with_reducible (refine Since.alloc ?_ _) | (with_reducible (refine Since.setCell ?_ ?_ _); rotate_left; focus (first | (simp; done) | (simp; omega) | omega)) | (with_reducible (refine Since.trans ?_ (by with_reducible assumption)))))); clear hS2 hT1 hR1; obtain ⟨b1, o1, rfl, p0, hc1⟩ := hR2 (by simp); obtain ⟨p1, p2, p3, p4, p5, p6, p7⟩ := hc1 0 _ rfl; obtain ⟨r1, r2, r3, r4, r5, r6, r7⟩ := hc1 1 _ rfl; (simp only [Nat.zero_mul, Nat.one_mul, Nat.add_zero, Nat.add_assoc, Nat.reduceAdd] at p1 p2 p3 p4 p5 p6 p7 r1 r2 r3 r4 r5 r6 r7); clear hc1) | (go_at_call 15; (with_reducible refine (al_seg3 _ _ (by simp) _).mono ?_); rintro e w3 ⟨A3, c3, rfl, hS3⟩; have hT3 : Since w2 w3 := (by (repeat (first | with_reducible (exact Since.refl _) | with_reducible assumption | with_reducible (refine Since.drew ?_) | with_reducible (refine Since.drewN ?_ _) | with_reducible (refine Since.alloc ?_ _) | (with_reducible (refine Since.setCell ?_ ?_ _); rotate_left; focus (first | (simp; done) | (simp; omega) | omega)) | (with_reducible (refine Since.trans ?_ (by with_reducible assumption)))))); clear hS3) | (go_at_call 19; (with_reducible refine (al_mid _).mono ?_); rintro e w4 ⟨rfl, hS4⟩; have hT4 : Since w2 w4 := (by (repeat (first | with_reducible (exact Since.refl _) | with_reducible assumption | with_reducible (refine Since.drew ?_) | with_reducible (refine Since.drewN ?_ _) | with_reducible (refine Since.alloc ?_ _) | (with_reducible (refine Since.setCell ?_ ?_ _); rotate_left; focus (first | (simp; done) | (simp; omega) | omega)) | (with_reducible (refine Since.trans ?_ (by with_reducible assumption)))))); clear hS4))
  go_ret
  exact ⟨by first | rfl | simp, hT2.trans hT4⟩
end Go.Proofs.Ytdbenpncnkfliaa
