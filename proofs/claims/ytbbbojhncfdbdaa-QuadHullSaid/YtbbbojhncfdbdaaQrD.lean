/-
  Layer 13: the reference's near, Bend, Steps, Box, walked.
-/
import Derived.Test.YtbbbojhncfdbdaaQuE
import Derived.Test.YtbbbojhncfdbdaaQuG
import Derived.Test.YtbbbojhncfdbdaaQuH
import Derived.Test.YtbbbojhncfdbdaaQrA
namespace Go.Proofs.Ytbbbojhncfdbdaa
open Go.RowKit
set_option linter.unusedVariables false

set_option maxHeartbeats 4000000 in
theorem rq_near (x y : Int) (w : World) : Calls Try.prog 65 #[Pt x y] w fun e w' => e = .returned (.bool (nearB x y)) ∧ Since w w' := by
  unfold Pt
  cases hn : nearB x y with
  | true =>
    have hn := nearB_iff.1 hn
    go_enter Try.func65, Try.ntmps65
    go_wp2
    all_goals go_ret
    all_goals exact ⟨by first | rfl | (simp; omega), by (repeat (first | with_reducible (exact Since.refl _) | with_reducible assumption | with_reducible (refine Since.drew ?_) | with_reducible (refine Since.drewN ?_ _) | with_reducible (refine Since.alloc ?_ _) | (with_reducible (refine Since.setCell ?_ ?_ _); rotate_left; focus (first | (simp; done) | (simp; omega) | omega)) | (with_reducible (refine Since.trans ?_ (by with_reducible assumption)))))⟩
  | false =>
    have hn := nearB_no.1 hn
    go_enter Try.func65, Try.ntmps65
    go_wp2
    all_goals go_ret
    all_goals exact ⟨by first | rfl | (simp; omega), by (repeat (first | with_reducible (exact Since.refl _) | with_reducible assumption | with_reducible (refine Since.drew ?_) | with_reducible (refine Since.drewN ?_ _) | with_reducible (refine Since.alloc ?_ _) | (with_reducible (refine Since.setCell ?_ ?_ _); rotate_left; focus (first | (simp; done) | (simp; omega) | omega)) | (with_reducible (refine Since.trans ?_ (by with_reducible assumption)))))⟩

theorem bend_ok {a c b : Int} (ha : Tny a) (hc : Tny c) (hb : Tny b) : PtOK a c b 1 (-2) 1 := by
  unfold Tny at *
  unfold PtOK
  refine ⟨IntWalk.i64_in _ ?_, IntWalk.i64_in _ ?_, IntWalk.i64_in _ ?_, IntWalk.i64_in _ ?_, IntWalk.i64_in _ ?_⟩ <;> omega
theorem bend_num (a c b : Int) : 1 * a + -2 * c + 1 * b = a - 2 * c + b := by omega
set_option maxHeartbeats 8000000 in
theorem rq_bend (s : Sg) (w : World) :
    Calls Try.prog 43 #[s.v] w fun e w' => e = .returned (.int .i64 (bendI s)) ∧ Since w w' := by
  have hc := fun w => rq_good s w
  cases hk : s.k with
  | false =>
    have hb : bendI s = 0 := by unfold bendI; rw [hk]; rfl
    rw [hb]
    unfold Sg.v
    rw [hk]
    clear hb hc
    go_enter Try.func43, Try.ntmps43
    go_wp2
    go_ret
    exact ⟨rfl, by (repeat (first | with_reducible (exact Since.refl _) | with_reducible assumption | with_reducible (refine Since.drew ?_) | with_reducible (refine Since.drewN ?_ _) | with_reducible (refine Since.alloc ?_ _) | (with_reducible (refine Since.setCell ?_ ?_ _); rotate_left; focus (first | (simp; done) | (simp; omega) | omega)) | (with_reducible (refine Since.trans ?_ (by with_reducible assumption)))))⟩
  | true =>
    cases hr : inR s with
    | false =>
      have hb : bendI s = 0 := by unfold bendI; rw [hk, hr]; rfl
      rw [hb]
      rw [hr] at hc
      unfold Sg.v at *
      rw [hk] at hc ⊢
      have HC := Lib.hid hc
      clear hb hc hr
      go_enter Try.func43, Try.ntmps43
      go_wp2_with (go_at_call 59; (with_reducible refine (HC.out _).mono ?_); rintro e w1 ⟨rfl, hS1⟩; have hS : Since w w1 := (by (repeat (first | with_reducible (exact Since.refl _) | with_reducible assumption | with_reducible (refine Since.drew ?_) | with_reducible (refine Since.drewN ?_ _) | with_reducible (refine Since.alloc ?_ _) | (with_reducible (refine Since.setCell ?_ ?_ _); rotate_left; focus (first | (simp; done) | (simp; omega) | omega)) | (with_reducible (refine Since.trans ?_ (by with_reducible assumption)))))))
      go_ret
      exact ⟨rfl, by (repeat (first | with_reducible (exact Since.refl _) | with_reducible assumption | with_reducible (refine Since.drew ?_) | with_reducible (refine Since.drewN ?_ _) | with_reducible (refine Since.alloc ?_ _) | (with_reducible (refine Since.setCell ?_ ?_ _); rotate_left; focus (first | (simp; done) | (simp; omega) | omega)) | (with_reducible (refine Since.trans ?_ (by with_reducible assumption)))))⟩
    | true =>
      have hkr : (s.k && inR s) = true := by rw [hk, hr]; rfl
      have hb : bendI s = max (ben s.ax s.cx s.bx) (ben s.ay s.cy s.bz) := by unfold bendI; rw [if_pos hkr]
      obtain ⟨⟨a1, a2⟩, ⟨b1, b2⟩, c1, c2⟩ := inR_tny hkr
      rw [hb]
      rw [hr] at hc
      have hF := fun w => rq_point s 1 (-2) 1 (bend_ok a1 c1 b1) (bend_ok a2 c2 b2) w
      simp only [bend_num] at hF
      unfold Tny at *
      have hA1 := fun w => rq_abs (s.ax - 2 * s.cx + s.bx) (by omega) (by omega) w
      have hA2 := fun w => rq_abs (s.ay - 2 * s.cy + s.bz) (by omega) (by omega) w
      unfold ben
      generalize s.ax - 2 * s.cx + s.bx = X at *
      generalize s.ay - 2 * s.cy + s.bz = Y at *
      obtain ⟨U, hU⟩ : ∃ u : Int, u = if X < 0 then -X else X := ⟨_, rfl⟩
      obtain ⟨V, hV⟩ : ∃ u : Int, u = if Y < 0 then -Y else Y := ⟨_, rfl⟩
      rw [← hU, ← hV]
      rw [← hU] at hA1
      rw [← hV] at hA2
      have hmax : max U V = ma U V := by unfold ma; split <;> omega
      rw [hmax]
      have hN := fun w b hb t => seg_new w b hb s t
      have hm2 : ∀ w : World, (Builtin.max_ #[3, 3] 3 #[.int .i64 U, .int .i64 V]).run Try.prog w = .ok (.int .i64 (ma U V)) w := fun _ => rfl
      generalize ma U V = M at *
      unfold Sg.v Pt at *
      rw [hk] at hc ⊢
      simp only [hk] at hN hF
      have HC := Lib.hid hc
      have HF := Lib.hid hF
      have HN := Lib.hid hN
      have HA1 := Lib.hid hA1
      have HA2 := Lib.hid hA2
      clear hb hc hr hkr hF hN a1 a2 b1 b2 c1 c2 hA1 hA2 hU hV hmax
      go_enter Try.func43, Try.ntmps43
      go_wp2_with (first | (go_at_call 59; (with_reducible refine (HC.out _).mono ?_); rintro e w1 ⟨rfl, hS1⟩; have hX1 := (HN.out w _ rfl _).since hS1; have hS : Since w w1 := (by (repeat (first | with_reducible (exact Since.refl _) | with_reducible assumption | with_reducible (refine Since.drew ?_) | with_reducible (refine Since.drewN ?_ _) | with_reducible (refine Since.alloc ?_ _) | (with_reducible (refine Since.setCell ?_ ?_ _); rotate_left; focus (first | (simp; done) | (simp; omega) | omega)) | (with_reducible (refine Since.trans ?_ (by with_reducible assumption)))))); clear hS1; have hX2 := hX1; obtain ⟨s1, s2, s3, s4, s5, s6, s7, s8⟩ := hX2) | (go_at_call 60; (with_reducible refine (HF.out _).mono ?_); rintro e w2 ⟨rfl, hS2⟩; have hS3 : Since w w2 := (by (repeat (first | with_reducible (exact Since.refl _) | with_reducible assumption | with_reducible (refine Since.drew ?_) | with_reducible (refine Since.drewN ?_ _) | with_reducible (refine Since.alloc ?_ _) | (with_reducible (refine Since.setCell ?_ ?_ _); rotate_left; focus (first | (simp; done) | (simp; omega) | omega)) | (with_reducible (refine Since.trans ?_ (by with_reducible assumption)))))); clear hS2 hS hX1 s1 s2 s3 s4 s5 s6 s7 s8))
      refine wp_named fun w3 hw3 => ?_
      have hP3 : PtAt w3 w2.heap.size X Y := by subst hw3; exact pt_new w2 _ rfl X Y _
      have hS4 : Since w w3 := by subst hw3; exact hS3.alloc _
      clear hw3 hS3
      obtain ⟨p1, p2, p3⟩ := hP3
      (refine wp_named fun wr1 hwr1 => ?_; go_region_held3 (fun w' => (∀ b o, b < wr1.heap.size → w'.cell? ⟨b, o, none⟩ = wr1.cell? ⟨b, o, none⟩) ∧ (∀ b o, b < wr1.heap.size → w'.frozen? ⟨b, o, none⟩ = wr1.frozen? ⟨b, o, none⟩) ∧ (∀ k, k < wr1.heap.size → k < w'.heap.size) ∧ Below wr1.heap.size wr1 w') ((subst hwr1; (repeat (with_reducible (refine since_put ?_ ?_ _); rotate_left; focus (first | (simp; done) | (simp; omega) | omega))); first | assumption | (refine since_step (by assumption) ?_; first | assumption | ((repeat (first | with_reducible (exact Since.refl _) | with_reducible assumption | with_reducible (refine Since.drew ?_) | with_reducible (refine Since.drewN ?_ _) | with_reducible (refine Since.alloc ?_ _) | (with_reducible (refine Since.setCell ?_ ?_ _); rotate_left; focus (first | (simp; done) | (simp; omega) | omega)))); done)) | (refine since_step (Since.refl _) ?_; first | assumption | ((repeat (first | with_reducible (exact Since.refl _) | with_reducible assumption | with_reducible (refine Since.drew ?_) | with_reducible (refine Since.drewN ?_ _) | with_reducible (refine Since.alloc ?_ _) | (with_reducible (refine Since.setCell ?_ ?_ _); rotate_left; focus (first | (simp; done) | (simp; omega) | omega)) | (with_reducible (refine Since.trans ?_ (by with_reducible assumption))))); done)))) (first | (go_at_call 69; (with_reducible refine (HA1.out _).mono ?_); rintro e w1 ⟨rfl, hS⟩; have hZ := hS.below.size; (try simp at hZ)) | (go_at_call 69; (with_reducible refine (HA2.out _).mono ?_); rintro e w1 ⟨rfl, hS⟩; have hZ := hS.below.size; (try simp at hZ))); all_goals (rename_i hHeld; have hR1 : Since wr1 _ := hHeld; obtain ⟨hcR1, hfR1, hzR1, hbR1⟩ := hHeld; subst hwr1))
      all_goals go_wp2
      all_goals go_ret
      all_goals exact ⟨by first | rfl | (simp; omega), by (repeat (first | with_reducible (exact Since.refl _) | with_reducible assumption | with_reducible (refine Since.drew ?_) | with_reducible (refine Since.drewN ?_ _) | with_reducible (refine Since.alloc ?_ _) | (with_reducible (refine Since.setCell ?_ ?_ _); rotate_left; focus (first | (simp; done) | (simp; omega) | omega)) | (with_reducible (refine Since.trans ?_ (by with_reducible assumption)))))⟩

theorem four_eq {z : Int} (h : 0 ≤ z) : (4 : Int) ^ z.toNat = 2 ^ (2 * z).toNat := by
  have h0 : (2 * z).toNat = 2 * z.toNat := by omega
  rw [h0, Int.pow_mul]
  rfl
set_option maxHeartbeats 8000000 in
theorem rq_steps (s : Sg) (w : World) :
    Calls Try.prog 45 #[s.v] w fun e w' => e = .returned (.int .i64 (stepsN (bendI s) : Nat)) ∧ Since w w' := by
  have hc := fun w => rq_bend s w
  have hb := bend_in s
  have h9 := steps_le (bendI s)
  generalize bendI s = b at *
  have hi := fun z h1 h2 => steps_iff (b := b) (z := z) hb.2 h1 h2
  have hN := fun w b hb t => seg_new w b hb s t
  unfold Sg.v at *
  have HC := Lib.hid hc
  have HI := Lib.hid hi
  have HN := Lib.hid hN
  generalize stepsN b = N at *
  clear hc hi hN
  go_enter Try.func45, Try.ntmps45
  go_wp2
  go_loopw [3] (fun y wr => ∃ z : Int, 0 ≤ z ∧ z ≤ N ∧ y = .int .i64 z ∧ Since w wr ∧ SegAt wr w.heap.size s) (fun y _ => 10 - (intOf y).toNat)
  case atStart => exact ⟨0, by omega, by omega, rfl, by (repeat (first | with_reducible (exact Since.refl _) | with_reducible assumption | with_reducible (refine Since.drew ?_) | with_reducible (refine Since.drewN ?_ _) | with_reducible (refine Since.alloc ?_ _) | (with_reducible (refine Since.setCell ?_ ?_ _); rotate_left; focus (first | (simp; done) | (simp; omega) | omega)) | (with_reducible (refine Since.trans ?_ (by with_reducible assumption))))), HN.out w _ rfl _⟩
  case round =>
    obtain ⟨z, h0, h1, rfl, hSr, hX⟩ := hrel
    obtain ⟨i1, i2, i3⟩ := HI.out z h0 (by omega)
    have hp := fun w => rq_power 4 z (by decide) (by decide) h0 (by omega) w
    rw [four_eq h0] at hp
    have w2 : IntKind.i64.wrap (z + 1) = z + 1 := IntWalk.i64_in _ (by omega)
    generalize hq : (2 : Int) ^ (2 * z).toNat = q at *
    have w3 : IntKind.i64.wrap (64 * q) = 64 * q := IntWalk.i64_in _ (by omega)
    have HP := Lib.hid hp
    have hXX := hX
    obtain ⟨s1, s2, s3, s4, s5, s6, s7, s8⟩ := hXX
    clear HI hp hq
    by_cases hL : 64 * q < b
    · have hz := i1.1 hL
      go_wp2_with (first | (go_at_call 43; (with_reducible refine (HC.out _).mono ?_); rintro e w1 ⟨rfl, hS1⟩; have hX1 := hX.since hS1; have hS2 := hSr.trans hS1; clear hS1 s1 s2 s3 s4 s5 s6 s7 s8) | (go_at_call 58; (with_reducible refine (HP.out _).mono ?_); rintro e w4 ⟨rfl, hS3⟩; have hX2 := hX1.since hS3; have hS4 := hS2.trans hS3))
      refine ⟨⟨z + 1, by omega, by omega, rfl, hS4, hX2⟩, by simp [intOf]; omega⟩
    · have hz : z = N := by have := mt i1.2 hL; omega
      have HZ := Lib.hid hz
      clear hz i1
      go_wp2_with (first | (go_at_call 43; (with_reducible refine (HC.out _).mono ?_); rintro e w1 ⟨rfl, hS1⟩; have hX1 := hX.since hS1; have hS2 := hSr.trans hS1; clear hS1 s1 s2 s3 s4 s5 s6 s7 s8) | (go_at_call 58; (with_reducible refine (HP.out _).mono ?_); rintro e w4 ⟨rfl, hS3⟩; have hX2 := hX1.since hS3; have hS4 := hS2.trans hS3))
      go_ret
      exact ⟨by rw [HZ.out]; rfl, hS4⟩
end Go.Proofs.Ytbbbojhncfdbdaa
