/-
  Layer 11: the law OutlineMids, walked.
-/
import Derived.Test.YtdbenpncnkfliaaOuJ
namespace Go.Proofs.Ytdbenpncnkfliaa
open Go.RowKit Go.ChangeShapes Go.WideShapes Go.Deep
set_option linter.unusedVariables false

theorem mid_comm (a b : Int) : mid a b = mid b a := by unfold mid; rw [Int.add_comm]
theorem mid_lo (a b : Int) : lo2 a b ≤ mid a b := by unfold mid lo2; split <;> omega
theorem mid_hi (a b : Int) : mid a b ≤ hi2 a b := by unfold mid hi2; split <;> omega
set_option maxRecDepth 1000000 in
set_option maxHeartbeats 16000000 in
theorem walk_outlinemids (x y u v : Int) (h : InP x y) (h' : InP u v) (w : World) :
    Calls Try.prog 4 #[Pt x y, Pt u v] w fun e w' => e = .returned (.bool true) ∧ Since w w' := by
  have h1 := fun w => ou_mid x y u v h h' w
  have h2 := fun w => ou_mid u v x y h' h w
  have h3 := fun w => rf_mid x y u v h h' w
  simp only [mid_comm u x, mid_comm v y] at h2
  have k1 := mid_lo x u
  have k2 := mid_hi x u
  have k3 := mid_lo y v
  have k4 := mid_hi y v
  generalize mid x u = X at *
  generalize mid y v = Y at *
  unfold Pt at *
  have d1 : decide (lo2 x u ≤ X) = true := by simp [k1]
  have d2 : decide (X ≤ hi2 x u) = true := by simp [k2]
  have d3 : decide (lo2 y v ≤ Y) = true := by simp [k3]
  have d4 : decide (Y ≤ hi2 y v) = true := by simp [k4]
  have hmin := min2_run
  have hmax := max2_run
  have H1 := Lib.hid h1
  have H2 := Lib.hid h2
  have H3 := Lib.hid h3
  clear h1 h2 h3 h h'
  go_enter Try.func4, Try.ntmps4
  go_upto_region 4 with (first | (go_at_call 14; (with_reducible refine (alive11 _).mono ?_); rintro e w1 ⟨rfl, hS1⟩; have pa := ((pt_new w _ rfl x y 33).alloc (.cells #[.int .i64 u, .int .i64 v] 33)).since hS1; have pb := (pt_new (w.alloc (.cells #[.int .i64 x, .int .i64 y] 33)) (w.heap.size + 1) (by simp) u v 33).since hS1; have hT : Since w w1 := (by (repeat (first | with_reducible (exact Since.refl _) | with_reducible assumption | with_reducible (refine Since.drew ?_) | with_reducible (refine Since.drewN ?_ _) | with_reducible (refine Since.alloc ?_ _) | (with_reducible (refine Since.setCell ?_ ?_ _); rotate_left; focus (first | (simp; done) | (simp; omega) | omega)) | (with_reducible (refine Since.trans ?_ (by with_reducible assumption)))))); obtain ⟨a1, a2, a3⟩ := id pa; obtain ⟨b1, b2, b3⟩ := id pb) | (go_at_call 19; (with_reducible refine (H1.out _).mono ?_); rintro e w2 ⟨rfl, hS2⟩; clear a1 a2 a3 b1 b2 b3; have pa := (pa.since hS2).alloc (.cells #[.int .i64 X, .int .i64 Y] 33); have pb := (pb.since hS2).alloc (.cells #[.int .i64 X, .int .i64 Y] 33); have pc := pt_new w2 _ rfl X Y 33; have hT := (hT.trans hS2).alloc (.cells #[.int .i64 X, .int .i64 Y] 33); obtain ⟨a1, a2, a3⟩ := id pa; obtain ⟨b1, b2, b3⟩ := id pb; obtain ⟨c1, c2, c3⟩ := id pc))
  refine wp_named fun wx hwx => ?_
  have qa : PtAt wx w.heap.size x y := by subst hwx; exact pa
  have qb : PtAt wx (w.heap.size + 1) u v := by subst hwx; exact pb
  have qc : PtAt wx w2.heap.size X Y := by subst hwx; exact pc
  have qT : Since w wx := by subst hwx; exact hT
  clear pa pb pc k1 k2 k3 k4 hT hwx a1 a2 a3 b1 b2 b3 c1 c2 c3
  generalize w2.heap.size = bc at *
  generalize w.heap.size + 1 = bb at *
  have qa' : ∃ ba, ba = w.heap.size := ⟨_, rfl⟩
  obtain ⟨ba, hba⟩ := qa'
  rw [← hba] at qa ⊢
  clear hba
  obtain ⟨a1, a2, a3⟩ := qa
  obtain ⟨b1, b2, b3⟩ := qb
  obtain ⟨c1, c2, c3⟩ := qc
  go_wp2_with fail
  (refine wp_named fun wr1 hwr1 => ?_; go_region_held3 (fun w' => (∀ b o, b < wr1.heap.size → w'.cell? ⟨b, o, none⟩ = wr1.cell? ⟨b, o, none⟩) ∧ (∀ b o, b < wr1.heap.size → w'.frozen? ⟨b, o, none⟩ = wr1.frozen? ⟨b, o, none⟩) ∧ (∀ k, k < wr1.heap.size → k < w'.heap.size) ∧ Below wr1.heap.size wr1 w') ((subst hwr1; (repeat (with_reducible (refine since_put ?_ ?_ _); rotate_left; focus (first | (simp; done) | (simp; omega) | omega))); first | assumption | (refine since_step (by assumption) ?_; first | assumption | ((repeat (first | with_reducible (exact Since.refl _) | with_reducible assumption | with_reducible (refine Since.drew ?_) | with_reducible (refine Since.drewN ?_ _) | with_reducible (refine Since.alloc ?_ _) | (with_reducible (refine Since.setCell ?_ ?_ _); rotate_left; focus (first | (simp; done) | (simp; omega) | omega)))); done)) | (refine since_step (Since.refl _) ?_; first | assumption | ((repeat (first | with_reducible (exact Since.refl _) | with_reducible assumption | with_reducible (refine Since.drew ?_) | with_reducible (refine Since.drewN ?_ _) | with_reducible (refine Since.alloc ?_ _) | (with_reducible (refine Since.setCell ?_ ?_ _); rotate_left; focus (first | (simp; done) | (simp; omega) | omega)) | (with_reducible (refine Since.trans ?_ (by with_reducible assumption))))); done)))) (first | (go_at_call 19; (with_reducible refine (H2.out _).mono ?_); rintro e w1 ⟨rfl, hS⟩; have hZ := hS.below.size; (try simp at hZ)) | (go_at_call 20; (with_reducible refine (H3.out _).mono ?_); rintro e w1 ⟨rfl, hS⟩; have hZ := hS.below.size; (try simp at hZ))); all_goals (rename_i hHeld; have hR1 : Since wr1 _ := hHeld; obtain ⟨hcR1, hfR1, hzR1, hbR1⟩ := hHeld; subst hwr1))
  all_goals go_wp2
  all_goals go_ret
  all_goals exact ⟨rfl, by (repeat (first | with_reducible (exact Since.refl _) | with_reducible assumption | with_reducible (refine Since.drew ?_) | with_reducible (refine Since.drewN ?_ _) | with_reducible (refine Since.alloc ?_ _) | (with_reducible (refine Since.setCell ?_ ?_ _); rotate_left; focus (first | (simp; done) | (simp; omega) | omega)) | (with_reducible (refine Since.trans ?_ (by with_reducible assumption)))))⟩
end Go.Proofs.Ytdbenpncnkfliaa
