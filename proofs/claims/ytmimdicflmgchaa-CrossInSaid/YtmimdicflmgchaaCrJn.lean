/-
  Layer 15: the law CrossIn whole.
-/
import Derived.Test.YtmimdicflmgchaaCrIn
namespace Go.Proofs.Ytmimdicflmgchaa
open Go.RowKit
set_option linter.unusedVariables false

theorem cmp_ge {a b : Int} (h : b ≤ a) : decide (cmpI a b < 0) = false := by
  unfold cmpI
  rw [decide_eq_false_iff_not]
  split
  · omega
  · split <;> omega
theorem cmp_le {a b : Int} (h : a ≤ b) : decide (0 < cmpI a b) = false := by
  unfold cmpI
  rw [decide_eq_false_iff_not]
  split
  · omega
  · rw [if_neg (by omega)]; omega
theorem lo_inw {a b : Int} (ha : -4194304 ≤ a ∧ a ≤ 4194304) (hb : -4194304 ≤ b ∧ b ≤ 4194304) : InW (lo2 a b) := by unfold InW lo2; split <;> omega
theorem hi_inw {a b : Int} (ha : -4194304 ≤ a ∧ a ≤ 4194304) (hb : -4194304 ≤ b ∧ b ≤ 4194304) : InW (hi2 a b) := by unfold InW hi2; split <;> omega
theorem crossin_ln (s t : Ln) (hs : lnG s = true) (ht : lnG t = true) (q0 q1 q2 q3 q4 q5 q6 q7 : Int) (w : World)
    (hL : ∀ w, Calls Try.prog 16 #[.agg #[.int .i32 q0, .int .i32 q1, .int .i32 q2, .int .i32 q3, .int .i32 q4, .int .i32 q5, .int .i32 q6, .int .i32 q7]] w fun e w' => e = .returned (.tuple #[s.v, t.v]) ∧ Since w w') :
    Calls Try.prog 6 #[.agg #[.int .i32 q0, .int .i32 q1, .int .i32 q2, .int .i32 q3, .int .i32 q4, .int .i32 q5, .int .i32 q6, .int .i32 q7]] w fun e w' => e = .returned (.bool true) ∧ Since w w' := by
  have k1 := goodB_iff.1 (Bool.and_eq_true_iff.1 hs).1
  have k2 := goodB_iff.1 (Bool.and_eq_true_iff.1 hs).2
  have k3 := goodB_iff.1 (Bool.and_eq_true_iff.1 ht).1
  have k4 := goodB_iff.1 (Bool.and_eq_true_iff.1 ht).2
  have hq : lnG ⟨s.bx, s.bz, t.bx, t.bz⟩ = true := by
    unfold lnG
    rw [(Bool.and_eq_true_iff.1 hs).2, (Bool.and_eq_true_iff.1 ht).2]; rfl
  have ws := wf_lnG hs
  have wt := wf_lnG ht
  have hm := fun w => meet_ok s t hs ht w
  have hmq := fun w => meet_ok s ⟨s.bx, s.bz, t.bx, t.bz⟩ hs hq w
  have o1 := fun w => cr_on t.ax t.ay s wt.1 ws w
  have o2 := fun w => cr_on t.bx t.bz s wt.2 ws w
  have o3 := fun w => cr_on s.ax s.ay t ws.1 wt w
  have o4 := fun w => cr_on s.bx s.bz t ws.2 wt w
  have o5 := fun w => cr_on s.ax s.ay s ws.1 ws w
  rw [on_start s hs] at o5
  have hbs := fun hk => meetG_in s t hk
  have hbt := fun hk => meetG_in2 s t hk
  have hd := meet_d s t hs ht
  refine crossin_of q0 q1 q2 q3 q4 q5 q6 q7 s.ax s.ay s.bx s.bz t.ax t.ay t.bx t.bz (meetG s t).k (meetG s t).x (meetG s t).y (meetG s t).d _ _ _ _ (onB t.ax t.ay s) (onB t.bx t.bz s) (onB s.ax s.ay t) (onB s.bx s.bz t) w hL hm hmq o1 o2 o3 o4 o5
    (fun hk => ?_) (fun hk => cmp_ge (hbs hk).2.1) (fun hk => cmp_le (hbs hk).2.2.1) (fun hk => cmp_ge (hbs hk).2.2.2.1) (fun hk => cmp_le (hbs hk).2.2.2.2) (fun hk => cmp_ge (hbt hk).1) (fun hk => cmp_le (hbt hk).2.1) (fun hk => cmp_ge (hbt hk).2.2.1) (fun hk => cmp_le (hbt hk).2.2.2)
    (fun hk => ⟨lo_inw (by omega) (by omega), hi_inw (by omega) (by omega), lo_inw (by omega) (by omega), hi_inw (by omega) (by omega), lo_inw (by omega) (by omega), hi_inw (by omega) (by omega), lo_inw (by omega) (by omega), hi_inw (by omega) (by omega), ?_⟩) ?_ (fun h => ?_)
  · have := (hbs hk).1
    simp; omega
  · have := (hbs hk).1
    unfold InW; omega
  · exact decide_eq_true (end_met s t.bx t.bz hs)
  · refine on_met' s t ?_
    simp only [Bool.or_eq_true] at h ⊢
    rcases h with ((h | h) | h) | h
    · exact .inl (.inr h)
    · exact .inr h
    · exact .inl (.inl (.inl h))
    · exact .inl (.inl (.inr h))
theorem walk_crossin (q0 q1 q2 q3 q4 q5 q6 q7 : Int) (h0 : In32 q0) (h1 : In32 q1) (h2 : In32 q2) (h3 : In32 q3) (h4 : In32 q4) (h5 : In32 q5) (h6 : In32 q6) (h7 : In32 q7) (w : World) :
    Calls Try.prog 6 #[.agg #[.int .i32 q0, .int .i32 q1, .int .i32 q2, .int .i32 q3, .int .i32 q4, .int .i32 q5, .int .i32 q6, .int .i32 q7]] w fun e w' => e = .returned (.bool true) ∧ Since w w' :=
  crossin_ln _ _ (lnG_sm h0 h1 h2 h3) (lnG_sm h4 h5 h6 h7) q0 q1 q2 q3 q4 q5 q6 q7 w (fun w => law_lines q0 q1 q2 q3 q4 q5 q6 q7 h0 h1 h2 h3 h4 h5 h6 h7 w)
end Go.Proofs.Ytmimdicflmgchaa
