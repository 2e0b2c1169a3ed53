/-
  Layer 13: 'Split', walked.
-/
import Derived.Test.YtbbbojhncfdbdaaQuC
namespace Go.Proofs.Ytbbbojhncfdbdaa
open Go.RowKit
set_option linter.unusedVariables false

def nearB (x y : Int) : Bool := decide (-1048576 ≤ x ∧ x ≤ 1048576 ∧ -1048576 ≤ y ∧ y ≤ 1048576)
theorem nearB_iff {x y : Int} : nearB x y = true ↔ (-1048576 ≤ x ∧ x ≤ 1048576 ∧ -1048576 ≤ y ∧ y ≤ 1048576) := by unfold nearB; simp
theorem nearB_no {x y : Int} : nearB x y = false ↔ ¬ (-1048576 ≤ x ∧ x ≤ 1048576 ∧ -1048576 ≤ y ∧ y ≤ 1048576) := by unfold nearB; simp only [decide_eq_false_iff_not]
set_option maxHeartbeats 4000000 in
theorem qu_splits (x y : Int) (h : InP x y) (w : World) : Calls Try.prog 62 #[Pt x y] w fun e w' => e = .returned (.bool (nearB x y)) ∧ Since w w' := by
  unfold Pt
  cases hn : nearB x y with
  | true =>
    have hn := nearB_iff.1 hn
    go_enter Try.func62, Try.ntmps62
    go_wp2
    all_goals first | (exfalso; omega) | skip
    all_goals go_ret
    all_goals exact ⟨by first | rfl | (simp; omega), by (repeat (first | with_reducible (exact Since.refl _) | with_reducible assumption | with_reducible (refine Since.drew ?_) | with_reducible (refine Since.drewN ?_ _) | with_reducible (refine Since.alloc ?_ _) | (with_reducible (refine Since.setCell ?_ ?_ _); rotate_left; focus (first | (simp; done) | (simp; omega) | omega)) | (with_reducible (refine Since.trans ?_ (by with_reducible assumption)))))⟩
  | false =>
    have hn := nearB_no.1 hn
    go_enter Try.func62, Try.ntmps62
    go_wp2
    all_goals go_ret
    all_goals exact ⟨by first | rfl | (simp; omega), by (repeat (first | with_reducible (exact Since.refl _) | with_reducible assumption | with_reducible (refine Since.drew ?_) | with_reducible (refine Since.drewN ?_ _) | with_reducible (refine Since.alloc ?_ _) | (with_reducible (refine Since.setCell ?_ ?_ _); rotate_left; focus (first | (simp; done) | (simp; omega) | omega)) | (with_reducible (refine Since.trans ?_ (by with_reducible assumption)))))⟩

def Nr (x : Int) : Prop := -1048576 ≤ x ∧ x ≤ 1048576
set_option maxHeartbeats 4000000 in
theorem qu_sum1 (a : Nat) (x0 y0 x1 y1 x2 y2 x3 y3 A B C D : Int) (b0 b1 b2 b3 : Nat) (w : World) (hE : ∀ args w, (callFunc a args).run Try.prog w = .ok (.enter a args) w)
    (q0 : PtAt w b0 x0 y0) (q1 : PtAt w b1 x1 y1) (q2 : PtAt w b2 x2 y2) (q3 : PtAt w b3 x3 y3)
    (hA : ∀ w, Calls Try.prog a #[Pt x0 y0] w fun e w2 => e = .returned (.int .i64 A) ∧ Since w w2)
    (hB : ∀ w, Calls Try.prog a #[Pt x1 y1] w fun e w2 => e = .returned (.int .i64 B) ∧ Since w w2)
    (hC : ∀ w, Calls Try.prog a #[Pt x2 y2] w fun e w2 => e = .returned (.int .i64 C) ∧ Since w w2)
    (hD : ∀ w, Calls Try.prog a #[Pt x3 y3] w fun e w2 => e = .returned (.int .i64 D) ∧ Since w w2)
    (tA : Nr A) (tB : Nr B) (tC : Nr C) (tD : Nr D) :
    Calls Try.prog 64 #[.func (.func a) #[] #[], .pointer (some ⟨b0, 0, none⟩), .pointer (some ⟨b1, 0, none⟩), .pointer (some ⟨b2, 0, none⟩), .pointer (some ⟨b3, 0, none⟩)] w
      fun e w' => e = .returned (.int .i64 (A + B + C + D)) ∧ Since w w' := by
  obtain ⟨s1, s2, s3⟩ := q0
  obtain ⟨t1, t2, t3⟩ := q1
  obtain ⟨u1, u2, u3⟩ := q2
  obtain ⟨v1, v2, v3⟩ := q3
  unfold Pt at hA hB hC hD
  have HA := Lib.hid hA
  have HB := Lib.hid hB
  have HC := Lib.hid hC
  have HD := Lib.hid hD
  clear hA hB hC hD
  unfold Nr at *
  have w1 : IntKind.i64.wrap (A + B) = A + B := IntWalk.i64_in _ (by omega)
  have w2 : IntKind.i64.wrap (A + B + C) = A + B + C := IntWalk.i64_in _ (by omega)
  have w3 : IntKind.i64.wrap (A + B + C + D) = A + B + C + D := IntWalk.i64_in _ (by omega)
  go_enter Try.func64, Try.ntmps64
  go_wp2
  (refine wp_named fun wr1 hwr1 => ?_; go_region_held3 (fun w' => (∀ b o, b < wr1.heap.size → w'.cell? ⟨b, o, none⟩ = wr1.cell? ⟨b, o, none⟩) ∧ (∀ b o, b < wr1.heap.size → w'.frozen? ⟨b, o, none⟩ = wr1.frozen? ⟨b, o, none⟩) ∧ (∀ k, k < wr1.heap.size → k < w'.heap.size) ∧ Below wr1.heap.size wr1 w') ((subst hwr1; (repeat (with_reducible (refine since_put ?_ ?_ _); rotate_left; focus (first | (simp; done) | (simp; omega) | omega))); first | assumption | (refine since_step (by assumption) ?_; first | assumption | ((repeat (first | with_reducible (exact Since.refl _) | with_reducible assumption | with_reducible (refine Since.drew ?_) | with_reducible (refine Since.drewN ?_ _) | with_reducible (refine Since.alloc ?_ _) | (with_reducible (refine Since.setCell ?_ ?_ _); rotate_left; focus (first | (simp; done) | (simp; omega) | omega)))); done)) | (refine since_step (Since.refl _) ?_; first | assumption | ((repeat (first | with_reducible (exact Since.refl _) | with_reducible assumption | with_reducible (refine Since.drew ?_) | with_reducible (refine Since.drewN ?_ _) | with_reducible (refine Since.alloc ?_ _) | (with_reducible (refine Since.setCell ?_ ?_ _); rotate_left; focus (first | (simp; done) | (simp; omega) | omega)) | (with_reducible (refine Since.trans ?_ (by with_reducible assumption))))); done)))) (first | (refine (Calls.mono (HA.out _) ?_); rintro e w1 ⟨rfl, hS⟩; have hZ := hS.below.size; (try simp at hZ)) | (refine (Calls.mono (HB.out _) ?_); rintro e w1 ⟨rfl, hS⟩; have hZ := hS.below.size; (try simp at hZ)) | (refine (Calls.mono (HC.out _) ?_); rintro e w1 ⟨rfl, hS⟩; have hZ := hS.below.size; (try simp at hZ)) | (refine (Calls.mono (HD.out _) ?_); rintro e w1 ⟨rfl, hS⟩; have hZ := hS.below.size; (try simp at hZ))); all_goals (rename_i hHeld; have hR1 : Since wr1 _ := hHeld; obtain ⟨hcR1, hfR1, hzR1, hbR1⟩ := hHeld; subst hwr1))
  all_goals go_wp2
  all_goals go_ret
  all_goals exact ⟨by first | rfl | simp, by (repeat (first | with_reducible (exact Since.refl _) | with_reducible assumption | with_reducible (refine Since.drew ?_) | with_reducible (refine Since.drewN ?_ _) | with_reducible (refine Since.alloc ?_ _) | (with_reducible (refine Since.setCell ?_ ?_ _); rotate_left; focus (first | (simp; done) | (simp; omega) | omega)) | (with_reducible (refine Since.trans ?_ (by with_reducible assumption)))))⟩

theorem enters64 : ∀ args w, (callFunc 64 args).run Try.prog w = .ok (.enter 64 args) w := enters_of Try.func64 (by kernel_rfl) rfl
theorem enters63 : ∀ args w, (callFunc 63 args).run Try.prog w = .ok (.enter 63 args) w := enters_of Try.func63 (by kernel_rfl) rfl
set_option maxHeartbeats 8000000 in
theorem qu_sum (x0 y0 x1 y1 x2 y2 x3 y3 : Int) (a0 : Nr x0 ∧ Nr y0) (a1 : Nr x1 ∧ Nr y1) (a2 : Nr x2 ∧ Nr y2) (a3 : Nr x3 ∧ Nr y3) (w : World) :
    Calls Try.prog 63 #[Pt x0 y0, Pt x1 y1, Pt x2 y2, Pt x3 y3] w fun e w' => e = .returned (Pt (x0 + x1 + x2 + x3) (y0 + y1 + y2 + y3)) ∧ Since w w' := by
  have hmf : ∀ (fn : Fn) (first cap : Array Value) (w : World), (Instr.makeFunc fn first cap).run Try.prog w = .ok (.func fn first cap) w := fun _ _ _ _ => rfl
  have hF := fun (b0 b1 b2 b3 : Nat) (w : World) (q0 : PtAt w b0 x0 y0) (q1 : PtAt w b1 x1 y1) (q2 : PtAt w b2 x2 y2) (q3 : PtAt w b3 x3 y3) =>
    qu_both 64 #[.pointer (some ⟨b0, 0, none⟩), .pointer (some ⟨b1, 0, none⟩), .pointer (some ⟨b2, 0, none⟩), .pointer (some ⟨b3, 0, none⟩)] _ _ w enters64
      (fun w1 hS => qu_sum1 71 x0 y0 x1 y1 x2 y2 x3 y3 x0 x1 x2 x3 b0 b1 b2 b3 w1 enters71 (q0.since hS) (q1.since hS) (q2.since hS) (q3.since hS) (fun w => qu_axisX _ _ w) (fun w => qu_axisX _ _ w) (fun w => qu_axisX _ _ w) (fun w => qu_axisX _ _ w) a0.1 a1.1 a2.1 a3.1)
      (fun w1 hS => qu_sum1 72 x0 y0 x1 y1 x2 y2 x3 y3 y0 y1 y2 y3 b0 b1 b2 b3 w1 enters72 (q0.since hS) (q1.since hS) (q2.since hS) (q3.since hS) (fun w => qu_axisY _ _ w) (fun w => qu_axisY _ _ w) (fun w => qu_axisY _ _ w) (fun w => qu_axisY _ _ w) a0.2 a1.2 a2.2 a3.2)
  generalize x0 + x1 + x2 + x3 = X at *
  generalize y0 + y1 + y2 + y3 = Y at *
  have h0 := ((((pt_new w _ rfl x0 y0 23).alloc (.cells #[.int .i64 x1, .int .i64 y1] 23)).alloc (.cells #[.int .i64 x2, .int .i64 y2] 23)).alloc (.cells #[.int .i64 x3, .int .i64 y3] 23)).alloc (.cells #[.int .i64 0, .int .i64 0] 23)
  have h1 := (((pt_new (w.alloc (.cells #[.int .i64 x0, .int .i64 y0] 23)) (w.heap.size + 1) (by simp) x1 y1 23).alloc (.cells #[.int .i64 x2, .int .i64 y2] 23)).alloc (.cells #[.int .i64 x3, .int .i64 y3] 23)).alloc (.cells #[.int .i64 0, .int .i64 0] 23)
  have h2 := ((pt_new ((w.alloc (.cells #[.int .i64 x0, .int .i64 y0] 23)).alloc (.cells #[.int .i64 x1, .int .i64 y1] 23)) (w.heap.size + 1 + 1) (by simp) x2 y2 23).alloc (.cells #[.int .i64 x3, .int .i64 y3] 23)).alloc (.cells #[.int .i64 0, .int .i64 0] 23)
  have h3 := (pt_new (((w.alloc (.cells #[.int .i64 x0, .int .i64 y0] 23)).alloc (.cells #[.int .i64 x1, .int .i64 y1] 23)).alloc (.cells #[.int .i64 x2, .int .i64 y2] 23)) (w.heap.size + 1 + 1 + 1) (by simp) x3 y3 23).alloc (.cells #[.int .i64 0, .int .i64 0] 23)
  have h4 := zero2_new ((((w.alloc (.cells #[.int .i64 x0, .int .i64 y0] 23)).alloc (.cells #[.int .i64 x1, .int .i64 y1] 23)).alloc (.cells #[.int .i64 x2, .int .i64 y2] 23)).alloc (.cells #[.int .i64 x3, .int .i64 y3] 23)) (w.heap.size + 1 + 1 + 1 + 1) (by simp) 23
  have HF := Lib.hid (hF _ _ _ _ _ h0 h1 h2 h3)
  have H4 := Lib.hid h4
  unfold Pt at *
  clear hF h0 h1 h2 h3 h4
  go_enter Try.func63, Try.ntmps63
  go_wp2_with (go_at_call 55; (with_reducible refine (HF.out).mono ?_); rintro e w1 ⟨rfl, hS1⟩; have hZ := H4.out.since hS1; have hS : Since w w1 := (by (repeat (first | with_reducible (exact Since.refl _) | with_reducible assumption | with_reducible (refine Since.drew ?_) | with_reducible (refine Since.drewN ?_ _) | with_reducible (refine Since.alloc ?_ _) | (with_reducible (refine Since.setCell ?_ ?_ _); rotate_left; focus (first | (simp; done) | (simp; omega) | omega)) | (with_reducible (refine Since.trans ?_ (by with_reducible assumption)))))); clear hS1; obtain ⟨⟨z1, z2, z3⟩, zF⟩ := hZ; have zF0 := zF 0; have zF1 := zF 1; clear zF)
  refine bodyPost_ret (by simp only [results, Try.results63]; go_simp) rfl ⟨rfl, ?_⟩
  (repeat (first | with_reducible (exact Since.refl _) | with_reducible assumption | with_reducible (refine Since.drew ?_) | with_reducible (refine Since.drewN ?_ _) | with_reducible (refine Since.alloc ?_ _) | (with_reducible (refine Since.setCell ?_ ?_ _); rotate_left; focus (first | (simp; done) | (simp; omega) | omega)) | (with_reducible (refine Since.trans ?_ (by with_reducible assumption)))))
end Go.Proofs.Ytbbbojhncfdbdaa
