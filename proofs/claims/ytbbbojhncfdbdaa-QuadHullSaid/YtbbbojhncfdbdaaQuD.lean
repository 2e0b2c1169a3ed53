/-
  Layer 13: 'Round', walked.
-/
import Derived.Test.YtbbbojhncfdbdaaQuC
namespace Go.Proofs.Ytbbbojhncfdbdaa
open Go.RowKit
set_option linter.unusedVariables false

theorem qu_at_no (s : Sg) (hs : s.wf) (k n : Int) (hk : In64 k) (hn : In64 n) (h : atOK s k n = false) (w : World) :
    Calls Try.prog 34 #[s.v, .int .i64 k, .int .i64 n] w fun e w' => e = .returned (.tuple #[Pt 0 0, .int .i64 (atE s k n)]) ∧ Since w w' := by
  unfold atOK at h
  unfold atE
  cases h1 : argOK k n with
  | false => simpa using qu_at_bad s k n hk hn h1 w
  | true =>
    rw [h1] at h
    simp only [Bool.true_and] at h
    simpa [h] using qu_at_far s hs k n hk hn h1 h w
theorem qu_at_yes (s : Sg) (hs : s.wf) (k n : Int) (hk : In64 k) (hn : In64 n) (h : atOK s k n = true) (w : World) :
    Calls Try.prog 34 #[s.v, .int .i64 k, .int .i64 n] w fun e w' => e = .returned (.tuple #[Pt (atX s k n) (atY s k n), .int .i64 0]) ∧ Since w w' := by
  unfold atOK at h
  obtain ⟨h1, h2⟩ := Bool.and_eq_true_iff.1 h
  exact qu_at_ok s hs k n hk hn h1 h2 w
theorem atE_no {s : Sg} {k n : Int} (h : atOK s k n = false) : atE s k n = 2 ∨ atE s k n = 6 := by
  unfold atOK at h
  unfold atE
  cases h1 : argOK k n <;> cases h2 : inR s <;> simp_all
theorem atE_yes {s : Sg} {k n : Int} (h : atOK s k n = true) : atE s k n = 0 := by
  unfold atOK at h
  unfold atE
  cases h1 : argOK k n <;> cases h2 : inR s <;> simp_all
theorem arg_parts {k n : Int} (h : argOK k n = true) : 0 ≤ n ∧ n ≤ 10 ∧ 0 ≤ k ∧ k ≤ 2 ^ n.toNat := by unfold argOK at h; simpa using h
theorem inR_parts {s : Sg} (h : inR s = true) : (Tny s.ax ∧ Tny s.ay) ∧ (Tny s.bx ∧ Tny s.bz) ∧ (s.k = true → Tny s.cx ∧ Tny s.cy) := by
  unfold inR at h
  simp only [Bool.and_eq_true, Bool.or_eq_true, Bool.not_eq_true'] at h
  obtain ⟨⟨r1, r2⟩, r3⟩ := h
  exact ⟨tny_of r1, tny_of r2, fun e => by rcases r3 with r | r; (rw [e] at r; cases r); exact tny_of r⟩
theorem atI_in {s : Sg} {A C B k n : Int} (hA : Tny A) (hB : Tny B) (hC : s.k = true → Tny C) (h : argOK k n = true) : -17592186044416 ≤ atI s A C B k n ∧ atI s A C B k n ≤ 17592186044416 := by
  obtain ⟨h1, h2, h3, h4⟩ := arg_parts h
  have hp := two_pow h1 h2
  unfold atI
  cases hk : s.k with
  | false => have := lineI_in (p := 2 ^ n.toNat) (k := k) (l := 2 ^ n.toNat - k) hA hB (by omega) h3 (by omega) hp.2; simp only [Bool.false_eq_true, if_false]; omega
  | true => have := curveI_in (k := k) (l := 2 ^ n.toNat - k) hA (hC hk) hB (by omega) h3 (by omega); simp only [if_true]; omega
theorem at_in {s : Sg} {k n : Int} (h : atOK s k n = true) : (-17592186044416 ≤ atX s k n ∧ atX s k n ≤ 17592186044416) ∧ (-17592186044416 ≤ atY s k n ∧ atY s k n ≤ 17592186044416) := by
  unfold atOK at h
  obtain ⟨h1, h2⟩ := Bool.and_eq_true_iff.1 h
  obtain ⟨⟨a1, a2⟩, ⟨b1, b2⟩, c⟩ := inR_parts h2
  exact ⟨atI_in a1 b1 (fun e => (c e).1) h1, atI_in a2 b2 (fun e => (c e).2) h1⟩
theorem four_pow {n : Int} (h : 0 ≤ n) (h' : n ≤ 10) : (1 : Int) ≤ 2 ^ (2 * n).toNat ∧ (2 : Int) ^ (2 * n).toNat ≤ 1048576 := by
  have h0 : (2 * n).toNat = 2 * n.toNat := by omega
  rw [h0]
  have : n.toNat ≤ 10 := by omega
  generalize n.toNat = m at *
  have hm : m = 0 ∨ m = 1 ∨ m = 2 ∨ m = 3 ∨ m = 4 ∨ m = 5 ∨ m = 6 ∨ m = 7 ∨ m = 8 ∨ m = 9 ∨ m = 10 := by omega
  rcases hm with rfl | rfl | rfl | rfl | rfl | rfl | rfl | rfl | rfl | rfl | rfl <;> decide
/-- A number divided, rounded. -/
def rndI (v n : Int) : Int := (v + 2 ^ (2 * n).toNat / 2) / 2 ^ (2 * n).toNat
theorem PtAt.drew {w : World} {b : Nat} {x y : Int} (h : PtAt w b x y) : PtAt w.drew b x y := h
theorem PtAt.drewN {w : World} {b : Nat} {x y : Int} (h : PtAt w b x y) (k : Nat) : PtAt (w.drewN k) b x y := h

set_option maxHeartbeats 4000000 in
theorem qu_round1 (a : Nat) (x y V n q : Int) (bp bh bn : Nat) (w : World) (hE : ∀ args w, (callFunc a args).run Try.prog w = .ok (.enter a args) w)
    (hp : PtAt w bp x y) (hH : OneAt w bh (.int .i64 (q / 2))) (hN : OneAt w bn (.int .i64 n))
    (hA : ∀ w, Calls Try.prog a #[Pt x y] w fun e w2 => e = .returned (.int .i64 V) ∧ Since w w2)
    (tV : -17592186044416 ≤ V ∧ V ≤ 17592186044416) (hn : 0 ≤ n) (hn' : n ≤ 10) (hq : (2 : Int) ^ (2 * n).toNat = q) :
    Calls Try.prog 57 #[.func (.func a) #[] #[], .pointer (some ⟨bp, 0, none⟩), .pointer (some ⟨bh, 0, none⟩), .pointer (some ⟨bn, 0, none⟩)] w
      fun e w' => e = .returned (.int .i64 ((V + q / 2) / q)) ∧ Since w w' := by
  have h4 := four_pow hn hn'
  rw [hq] at h4
  obtain ⟨p1, p2, p3⟩ := hp
  obtain ⟨k1, k2⟩ := hH
  obtain ⟨n1, n2⟩ := hN
  unfold Pt at hA
  have HA := Lib.hid hA
  clear hA
  have w1 : IntKind.i64.wrap (V + q / 2) = V + q / 2 := IntWalk.i64_in _ (by omega)
  have w2 : IntKind.i64.wrap (2 * n) = 2 * n := IntWalk.i64_in _ (by omega)
  have hm : min (2 * n).toNat 64 = (2 * n).toNat := by omega
  have hn0 : ¬ 2 * n < 0 := by omega
  clear tV h4
  go_enter Try.func57, Try.ntmps57
  go_wp2
  (refine wp_named fun wr1 hwr1 => ?_; go_region_held3 (fun w' => (∀ b o, b < wr1.heap.size → w'.cell? ⟨b, o, none⟩ = wr1.cell? ⟨b, o, none⟩) ∧ (∀ b o, b < wr1.heap.size → w'.frozen? ⟨b, o, none⟩ = wr1.frozen? ⟨b, o, none⟩) ∧ (∀ k, k < wr1.heap.size → k < w'.heap.size) ∧ Below wr1.heap.size wr1 w') ((subst hwr1; (repeat (with_reducible (refine since_put ?_ ?_ _); rotate_left; focus (first | (simp; done) | (simp; omega) | omega))); first | assumption | (refine since_step (by assumption) ?_; first | assumption | ((repeat (first | with_reducible (exact Since.refl _) | with_reducible assumption | with_reducible (refine Since.drew ?_) | with_reducible (refine Since.drewN ?_ _) | with_reducible (refine Since.alloc ?_ _) | (with_reducible (refine Since.setCell ?_ ?_ _); rotate_left; focus (first | (simp; done) | (simp; omega) | omega)))); done)) | (refine since_step (Since.refl _) ?_; first | assumption | ((repeat (first | with_reducible (exact Since.refl _) | with_reducible assumption | with_reducible (refine Since.drew ?_) | with_reducible (refine Since.drewN ?_ _) | with_reducible (refine Since.alloc ?_ _) | (with_reducible (refine Since.setCell ?_ ?_ _); rotate_left; focus (first | (simp; done) | (simp; omega) | omega)) | (with_reducible (refine Since.trans ?_ (by with_reducible assumption))))); done)))) (first | (refine (Calls.mono (HA.out _) ?_); rintro e w1 ⟨rfl, hS⟩; have hZ := hS.below.size; (try simp at hZ))); all_goals (rename_i hHeld; have hR1 : Since wr1 _ := hHeld; obtain ⟨hcR1, hfR1, hzR1, hbR1⟩ := hHeld; subst hwr1))
  all_goals go_wp2
  all_goals go_ret
  all_goals exact ⟨by first | rfl | simp, by (repeat (first | with_reducible (exact Since.refl _) | with_reducible assumption | with_reducible (refine Since.drew ?_) | with_reducible (refine Since.drewN ?_ _) | with_reducible (refine Since.alloc ?_ _) | (with_reducible (refine Since.setCell ?_ ?_ _); rotate_left; focus (first | (simp; done) | (simp; omega) | omega)) | (with_reducible (refine Since.trans ?_ (by with_reducible assumption)))))⟩

theorem enters57 : ∀ args w, (callFunc 57 args).run Try.prog w = .ok (.enter 57 args) w := enters_of Try.func57 (by kernel_rfl) rfl
set_option maxHeartbeats 8000000 in
theorem qu_round_no (s : Sg) (hs : s.wf) (k n : Int) (hk : In64 k) (hn : In64 n) (h : atOK s k n = false) (w : World) :
    Calls Try.prog 35 #[s.v, .int .i64 k, .int .i64 n] w fun e w' => e = .returned (.tuple #[Pt 0 0, .int .i64 (atE s k n)]) ∧ Since w w' := by
  have hc := fun w => qu_at_no s hs k n hk hn h w
  have he : (atE s k n == 0) = false := by rcases atE_no h with e | e <;> rw [e] <;> rfl
  generalize atE s k n = E at *
  unfold Pt Sg.v at *
  have HC := Lib.hid hc
  clear hc hs h hk hn
  go_enter Try.func35, Try.ntmps35
  go_wp2_with (go_at_call 34; (with_reducible refine (HC.out _).mono ?_); rintro e w1 ⟨rfl, hS1⟩; have hZ := (zero2_new _ (w.heap.size + 1 + 1) (by simp) _).since hS1; have hS : Since w w1 := (by (repeat (first | with_reducible (exact Since.refl _) | with_reducible assumption | with_reducible (refine Since.drew ?_) | with_reducible (refine Since.drewN ?_ _) | with_reducible (refine Since.alloc ?_ _) | (with_reducible (refine Since.setCell ?_ ?_ _); rotate_left; focus (first | (simp; done) | (simp; omega) | omega)) | (with_reducible (refine Since.trans ?_ (by with_reducible assumption)))))); clear hS1; obtain ⟨⟨z1, z2, z3⟩, zF⟩ := hZ; have zF0 := zF 0; have zF1 := zF 1; clear zF)
  refine bodyPost_ret (by simp only [results, Try.results35]; go_simp) rfl ⟨rfl, ?_⟩
  (repeat (first | with_reducible (exact Since.refl _) | with_reducible assumption | with_reducible (refine Since.drew ?_) | with_reducible (refine Since.drewN ?_ _) | with_reducible (refine Since.alloc ?_ _) | (with_reducible (refine Since.setCell ?_ ?_ _); rotate_left; focus (first | (simp; done) | (simp; omega) | omega)) | (with_reducible (refine Since.trans ?_ (by with_reducible assumption)))))
set_option maxHeartbeats 8000000 in
theorem qu_round_yes (s : Sg) (hs : s.wf) (k n : Int) (hk : In64 k) (hn : In64 n) (h : atOK s k n = true) (w : World) :
    Calls Try.prog 35 #[s.v, .int .i64 k, .int .i64 n] w fun e w' => e = .returned (.tuple #[Pt (rndI (atX s k n) n) (rndI (atY s k n) n), .int .i64 0]) ∧ Since w w' := by
  have hc := fun w => qu_at_yes s hs k n hk hn h w
  have hin := at_in h
  unfold atOK at h
  obtain ⟨ho, hr⟩ := Bool.and_eq_true_iff.1 h
  obtain ⟨h1, h2, _, _⟩ := arg_parts ho
  have hp := four_pow h1 h2
  generalize atX s k n = X at *
  generalize atY s k n = Y at *
  unfold rndI
  generalize hq : (2 : Int) ^ (2 * n).toNat = q at *
  have hF := fun (bp bh bn : Nat) (w : World) (q1 : PtAt w bp X Y) (q2 : OneAt w bh (.int .i64 (q / 2))) (q4 : OneAt w bn (.int .i64 n)) =>
    qu_both 57 #[.pointer (some ⟨bp, 0, none⟩), .pointer (some ⟨bh, 0, none⟩), .pointer (some ⟨bn, 0, none⟩)] _ _ w enters57
      (fun w1 hS => qu_round1 71 X Y X n q bp bh bn w1 enters71 (q1.since hS) (q2.since hS) (q4.since hS) (fun w => qu_axisX _ _ w) hin.1 h1 h2 hq)
      (fun w1 hS => qu_round1 72 X Y Y n q bp bh bn w1 enters72 (q1.since hS) (q2.since hS) (q4.since hS) (fun w => qu_axisY _ _ w) hin.2 h1 h2 hq)
  have HF := Lib.hid hF
  have hmf : ∀ (fn : Fn) (first cap : Array Value) (w : World), (Instr.makeFunc fn first cap).run Try.prog w = .ok (.func fn first cap) w := fun _ _ _ _ => rfl
  have w1 : IntKind.i64.wrap q = q := IntWalk.i64_in _ (by omega)
  have w2 : IntKind.i64.wrap (2 * n) = 2 * n := IntWalk.i64_in _ (by omega)
  have w3 : IntKind.i64.wrap (q / 2) = q / 2 := IntWalk.i64_in _ (by omega)
  have hm : min (2 * n).toNat 64 = (2 * n).toNat := by omega
  have hn0 : ¬ 2 * n < 0 := by omega
  have hq0 : 0 ≤ q := by omega
  have hd : q.tdiv 2 = q / 2 := Int.tdiv_eq_ediv_of_nonneg hq0
  unfold Pt Sg.v at *
  have HC := Lib.hid hc
  clear hc hs h hk hn hF hin ho hr hp
  go_enter Try.func35, Try.ntmps35
  go_wp2_with (go_at_call 34; (with_reducible refine (HC.out _).mono ?_); rintro e w1 ⟨rfl, hS1⟩; have hN := ((one_new _ (w.heap.size + 1) (by simp) (.int .i64 n) _).alloc _).since hS1; have hZ := (zero2_new _ (w.heap.size + 1 + 1) (by simp) _).since hS1; have hS : Since w w1 := (by (repeat (first | with_reducible (exact Since.refl _) | with_reducible assumption | with_reducible (refine Since.drew ?_) | with_reducible (refine Since.drewN ?_ _) | with_reducible (refine Since.alloc ?_ _) | (with_reducible (refine Since.setCell ?_ ?_ _); rotate_left; focus (first | (simp; done) | (simp; omega) | omega)) | (with_reducible (refine Since.trans ?_ (by with_reducible assumption)))))); clear hS1; obtain ⟨n1, n2⟩ := hN; clear HC; have hP5 := (pt_new w1 _ rfl X Y 23).alloc (.cells #[.int .i64 (q / 2)] 3); have hH5 := one_new (w1.alloc (.cells #[.int .i64 X, .int .i64 Y] 23)) (w1.heap.size + 1) (by simp) (.int .i64 (q / 2)) 3; have hN5 := (OneAt.alloc ⟨n1, n2⟩ (.cells #[.int .i64 X, .int .i64 Y] 23)).alloc (.cells #[.int .i64 (q / 2)] 3); have hZ5 := (hZ.alloc (.cells #[.int .i64 X, .int .i64 Y] 23)).alloc (.cells #[.int .i64 (q / 2)] 3); have hS5 := (hS.alloc (.cells #[.int .i64 X, .int .i64 Y] 23)).alloc (.cells #[.int .i64 (q / 2)] 3); clear hZ hS)
  refine (HF.out _ _ _ _ hP5 hH5 hN5).mono ?_
  rintro e w6 ⟨rfl, hS6⟩
  have hZ6 := hZ5.since hS6
  have hT6 := hS5.trans hS6
  obtain ⟨⟨z1, z2, z3⟩, zF⟩ := hZ6
  have zF0 := zF 0
  have zF1 := zF 1
  clear zF hZ5 hS5 hS6
  go_wp2
  refine bodyPost_ret (by simp only [results, Try.results35]; go_simp) rfl ⟨rfl, ?_⟩
  (repeat (first | with_reducible (exact Since.refl _) | with_reducible assumption | with_reducible (refine Since.drew ?_) | with_reducible (refine Since.drewN ?_ _) | with_reducible (refine Since.alloc ?_ _) | (with_reducible (refine Since.setCell ?_ ?_ _); rotate_left; focus (first | (simp; done) | (simp; omega) | omega)) | (with_reducible (refine Since.trans ?_ (by with_reducible assumption)))))
end Go.Proofs.Ytbbbojhncfdbdaa
