/-
  Layer 16: the order of points that the sort is handed, walked to the world that it leaves.
-/
import Derived.Test.YtcfghkphkmoikaaGreatMqA
import Derived.Test.YtcfghkphkmoikaaGreatMqH
namespace Go.Proofs.YtcfghkphkmoikaaGreat
set_option maxRecDepth 100000
open Go.RowKit
set_option linter.unusedVariables false

def orI (x y : Int) : Int := if x = 0 then y else x
set_option maxHeartbeats 2000000 in
theorem PtAt.drew {w : World} {b : Nat} {x y : Int} (h : PtAt w b x y) : PtAt w.drew b x y := h
theorem or_two (x y : Int) (w : World) (b : Nat) (h : PtAt w b x y) : Calls Tryz.prog 59 #[.slice (some ⟨b, 0, none⟩) 2 2] w fun e w' => e = .returned (.int .i64 (orI x y)) ∧ w' = w := by
  obtain ⟨c1, c2, c3⟩ := h
  unfold orI
  by_cases hx : x = 0
  · rw [if_pos hx]
    subst hx
    by_cases hy : y = 0
    · subst hy
      go_enter Tryz.func59, Tryz.ntmps59
      go_wp2
      refine wp_loop_rounds 3 ?_
      rw [rounds_succ]
      go_wp2_with fail
      rw [rounds_succ]
      go_wp2_with fail
      rw [rounds_succ]
      go_wp2_with fail
      go_ret
      exact ⟨rfl, rfl⟩
    · have q1 : (y == 0) = false := by simp [hy]
      have q2 : (y != 0) = true := by simp [hy]
      go_enter Tryz.func59, Tryz.ntmps59
      go_wp2
      refine wp_loop_rounds 3 ?_
      rw [rounds_succ]
      go_wp2_with fail
      rw [rounds_succ]
      go_wp2_with fail
      go_ret
      exact ⟨rfl, rfl⟩
  · rw [if_neg hx]
    have q1 : (x == 0) = false := by simp [hx]
    have q2 : (x != 0) = true := by simp [hx]
    go_enter Tryz.func59, Tryz.ntmps59
    go_wp2
    refine wp_loop_rounds 3 ?_
    rw [rounds_succ]
    go_wp2_with fail
    go_ret
    exact ⟨rfl, rfl⟩
/-- The order of points: by x, then by y. -/
def cmpP (p q : Pq) : Int := orI (cmpI p.x q.x) (cmpI p.y q.y)
set_option maxRecDepth 100000 in
set_option maxHeartbeats 4000000 in
theorem px_bypt (p q : Pq) (w : World) :
    Calls Tryz.prog 66 #[.agg #[.int .i64 p.x, .int .i64 p.y], .agg #[.int .i64 q.x, .int .i64 q.y]] w fun e w' => e = .returned (.int .i64 (cmpP p q)) ∧ Gr w w' := by
  obtain ⟨x, y⟩ := p
  obtain ⟨u, v⟩ := q
  unfold cmpP
  simp only
  have h1 := fun w => cmp_int x u w
  have h2 := fun w => cmp_int y v w
  have hO := fun w b h => or_two (cmpI x u) (cmpI y v) w b h
  generalize cmpI x u = A at *
  generalize cmpI y v = B at *
  generalize orI A B = R at *
  have H1 := Lib.hid h1; have H2 := Lib.hid h2; have HO := Lib.hid hO
  clear h1 h2 hO
  go_enter Tryz.func66, Tryz.ntmps66
  go_upto_region 1 with fail
  refine wp_named fun wq hwq => ?_
  have hG : Gr w wq := by subst hwq; exact ((Gr.refl w).alloc _).alloc _
  have hA : PtAt wq w.heap.size x y := by subst hwq; exact (pt_new w _ rfl x y _).alloc _
  have hB : PtAt wq (w.heap.size + 1) u v := by subst hwq; exact pt_new _ (w.heap.size + 1) (by simp) u v _
  obtain ⟨a1, a2, a3⟩ := hA
  obtain ⟨b1, b2, b3⟩ := hB
  clear hwq
  have HG := Lib.hid hG
  clear hG
  have tok7 : True := trivial
  have tok8 : True := trivial
  (refine wp_named fun wr1 hwr1 => ?_; go_region_held3 (fun w' => (∀ b o, b < wr1.heap.size → w'.cell? ⟨b, o, none⟩ = wr1.cell? ⟨b, o, none⟩) ∧ (∀ b o, b < wr1.heap.size → w'.frozen? ⟨b, o, none⟩ = wr1.frozen? ⟨b, o, none⟩) ∧ (∀ k, k < wr1.heap.size → k < w'.heap.size) ∧ Below wr1.heap.size wr1 w' ∧ Gr wr1 w') ((subst hwr1; first | with_reducible assumption | (refine gr_step (by with_reducible assumption) ?_; first | with_reducible assumption | ((repeat (first | with_reducible (exact Gr.refl _) | with_reducible assumption | with_reducible (refine Gr.drew ?_) | with_reducible (refine Gr.drewN ?_ _) | with_reducible (refine Gr.alloc ?_ _))); done)) | (refine gr_step (gr_start _) ?_; first | with_reducible assumption | ((repeat (first | with_reducible (exact Gr.refl _) | with_reducible assumption | with_reducible (refine Gr.drew ?_) | with_reducible (refine Gr.drewN ?_ _) | with_reducible (refine Gr.alloc ?_ _) | (with_reducible (refine Gr.trans ?_ (by with_reducible assumption))))); done)))) (first | (go_at_call 55; have _t := tok7; (with_reducible refine (H1.out _).mono ?_); rintro e w1 ⟨rfl, rfl⟩; clear tok7) | (go_at_call 55; have _t := tok8; (with_reducible refine (H2.out _).mono ?_); rintro e w1 ⟨rfl, rfl⟩; clear tok8) | (go_at_call 59; (with_reducible refine (HO.out _ _ (by first | with_reducible (exact pt_new _ _ rfl _ _ _) | with_reducible (exact PtAt.drew (pt_new _ _ rfl _ _ _)))).mono ?_); rintro e w1 ⟨rfl, rfl⟩)); all_goals (rename_i hHeld; obtain ⟨hcR1, hfR1, hzR1, hbR1, hgR1⟩ := hHeld; subst hwr1))
  all_goals go_wp2_with fail
  all_goals go_ret
  all_goals exact ⟨rfl, HG.out.trans (by (repeat (first | with_reducible (exact Gr.refl _) | with_reducible assumption | with_reducible (refine Gr.drew ?_) | with_reducible (refine Gr.drewN ?_ _) | with_reducible (refine Gr.alloc ?_ _) | (with_reducible (refine Gr.trans ?_ (by with_reducible assumption))))))⟩
end Go.Proofs.YtcfghkphkmoikaaGreat
