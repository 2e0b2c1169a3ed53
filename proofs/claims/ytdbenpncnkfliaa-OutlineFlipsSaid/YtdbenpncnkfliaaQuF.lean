/-
  Layer 13: 'Bend', 'Steps', 'Box', walked.
-/
import Derived.Test.YtdbenpncnkfliaaQuC
namespace Go.Proofs.Ytdbenpncnkfliaa
open Go.RowKit
set_option linter.unusedVariables false

def ben (a c b : Int) : Int := if a - 2 * c + b < 0 then -(a - 2 * c + b) else a - 2 * c + b
theorem ben_in {a c b : Int} (ha : Tny a) (hc : Tny c) (hb : Tny b) : 0 ≤ ben a c b ∧ ben a c b ≤ 16777216 := by
  unfold Tny at *; unfold ben; split <;> omega
set_option maxHeartbeats 4000000 in
theorem qu_bend1 (s : Sg) (a : Nat) (A C B : Int) (bs : Nat) (w : World) (hE : ∀ args w, (callFunc a args).run Try.prog w = .ok (.enter a args) w)
    (hs : SegAt w bs s)
    (hA : ∀ w, Calls Try.prog a #[Pt s.ax s.ay] w fun e w2 => e = .returned (.int .i64 A) ∧ Since w w2)
    (hC : ∀ w, Calls Try.prog a #[Pt s.cx s.cy] w fun e w2 => e = .returned (.int .i64 C) ∧ Since w w2)
    (hB : ∀ w, Calls Try.prog a #[Pt s.bx s.bz] w fun e w2 => e = .returned (.int .i64 B) ∧ Since w w2)
    (tA : Tny A) (tB : Tny B) (tC : Tny C) :
    Calls Try.prog 70 #[.func (.func a) #[] #[], .pointer (some ⟨bs, 0, none⟩)] w
      fun e w' => e = .returned (.int .i64 (ben A C B)) ∧ Since w w' := by
  obtain ⟨ax, ay, cx, cy, bx, bz, kk⟩ := s
  simp only at hA hC hB
  obtain ⟨s1, s2, s3, s4, s5, s6, s7, s8⟩ := hs
  simp only at s1 s2 s3 s4 s5 s6 s7 ⊢
  unfold Pt at hA hB hC
  have HA := Lib.hid hA
  have HB := Lib.hid hB
  have HC := Lib.hid hC
  clear hA hB hC
  unfold Tny at *
  unfold ben
  have w1 : IntKind.i64.wrap (2 * C) = 2 * C := IntWalk.i64_in _ (by omega)
  have w2 : IntKind.i64.wrap (A - 2 * C) = A - 2 * C := IntWalk.i64_in _ (by omega)
  have w3 : IntKind.i64.wrap (A - 2 * C + B) = A - 2 * C + B := IntWalk.i64_in _ (by omega)
  have w4 : IntKind.i64.wrap (-(A - 2 * C + B)) = -(A - 2 * C + B) := IntWalk.i64_in _ (by omega)
  generalize hD : A - 2 * C + B = D at *
  by_cases hD0 : D < 0
  all_goals
    go_enter Try.func70, Try.ntmps70
    go_wp2
    (refine wp_named fun wr1 hwr1 => ?_; go_region_held3 (fun w' => (∀ b o, b < wr1.heap.size → w'.cell? ⟨b, o, none⟩ = wr1.cell? ⟨b, o, none⟩) ∧ (∀ b o, b < wr1.heap.size → w'.frozen? ⟨b, o, none⟩ = wr1.frozen? ⟨b, o, none⟩) ∧ (∀ k, k < wr1.heap.size → k < w'.heap.size) ∧ Below wr1.heap.size wr1 w') ((subst hwr1; (repeat (with_reducible (refine since_put ?_ ?_ _); rotate_left; focus (first | (simp; done) | (simp; omega) | omega))); first | assumption | (refine since_step (by assumption) ?_; first | assumption | ((repeat (first | with_reducible (exact Since.refl _) | with_reducible assumption | with_reducible (refine Since.drew ?_) | with_reducible (refine Since.drewN ?_ _) | with_reducible (refine Since.alloc ?_ _) | (with_reducible (refine Since.setCell ?_ ?_ _); rotate_left; focus (first | (simp; done) | (simp; omega) | omega)))); done)) | (refine since_step (Since.refl _) ?_; first | assumption | ((repeat (first | with_reducible (exact Since.refl _) | with_reducible assumption | with_reducible (refine Since.drew ?_) | with_reducible (refine Since.drewN ?_ _) | with_reducible (refine Since.alloc ?_ _) | (with_reducible (refine Since.setCell ?_ ?_ _); rotate_left; focus (first | (simp; done) | (simp; omega) | omega)) | (with_reducible (refine Since.trans ?_ (by with_reducible assumption))))); done)))) (first | (refine (Calls.mono (HA.out _) ?_); rintro e w1 ⟨rfl, hS⟩; have hZ := hS.below.size; (try simp at hZ)) | (refine (Calls.mono (HC.out _) ?_); rintro e w1 ⟨rfl, hS⟩; have hZ := hS.below.size; (try simp at hZ)) | (refine (Calls.mono (HB.out _) ?_); rintro e w1 ⟨rfl, hS⟩; have hZ := hS.below.size; (try simp at hZ))); all_goals (rename_i hHeld; have hR1 : Since wr1 _ := hHeld; obtain ⟨hcR1, hfR1, hzR1, hbR1⟩ := hHeld; subst hwr1))
    all_goals go_wp2
    all_goals go_ret
    all_goals exact ⟨by first | (simp; omega) | simp, by (repeat (first | with_reducible (exact Since.refl _) | with_reducible assumption | with_reducible (refine Since.drew ?_) | with_reducible (refine Since.drewN ?_ _) | with_reducible (refine Since.alloc ?_ _) | (with_reducible (refine Since.setCell ?_ ?_ _); rotate_left; focus (first | (simp; done) | (simp; omega) | omega)) | (with_reducible (refine Since.trans ?_ (by with_reducible assumption)))))⟩

theorem enters68 : ∀ args w, (callFunc 70 args).run Try.prog w = .ok (.enter 70 args) w := enters_of Try.func70 (by kernel_rfl) rfl
/-- How far a piece bends. -/
def bendI (s : Sg) : Int := if s.k && inR s then max (ben s.ax s.cx s.bx) (ben s.ay s.cy s.bz) else 0
theorem inR_tny {s : Sg} (h : (s.k && inR s) = true) : (Tny s.ax ∧ Tny s.ay) ∧ (Tny s.bx ∧ Tny s.bz) ∧ (Tny s.cx ∧ Tny s.cy) := by
  obtain ⟨h1, h2⟩ := Bool.and_eq_true_iff.1 h
  unfold inR at h2
  simp only [Bool.and_eq_true, Bool.or_eq_true, Bool.not_eq_true'] at h2
  obtain ⟨⟨r1, r2⟩, r3⟩ := h2
  exact ⟨tny_of r1, tny_of r2, by rcases r3 with r | r; (rw [h1] at r; cases r); exact tny_of r⟩
theorem bend_in (s : Sg) : 0 ≤ bendI s ∧ bendI s ≤ 16777216 := by
  unfold bendI
  split
  · rename_i h
    obtain ⟨⟨a1, a2⟩, ⟨b1, b2⟩, c1, c2⟩ := inR_tny h
    have := ben_in a1 c1 b1
    have := ben_in a2 c2 b2
    omega
  · omega
set_option maxHeartbeats 8000000 in
theorem qu_bend (s : Sg) (hs : s.wf) (w : World) :
    Calls Try.prog 65 #[s.v] w fun e w' => e = .returned (.int .i64 (bendI s)) ∧ Since w w' := by
  have hc := fun w => qu_inRange s hs w
  have hmf : ∀ (fn : Fn) (first cap : Array Value) (w : World), (Instr.makeFunc fn first cap).run Try.prog w = .ok (.func fn first cap) w := fun _ _ _ _ => rfl
  cases hk : s.k with
  | false =>
    have hb : bendI s = 0 := by unfold bendI; rw [hk]; rfl
    rw [hb]
    unfold Sg.v
    rw [hk]
    clear hb hc hs
    go_enter Try.func65, Try.ntmps65
    go_wp2
    go_ret
    exact ⟨rfl, by (repeat (first | with_reducible (exact Since.refl _) | with_reducible assumption | with_reducible (refine Since.drew ?_) | with_reducible (refine Since.drewN ?_ _) | with_reducible (refine Since.alloc ?_ _) | (with_reducible (refine Since.setCell ?_ ?_ _); rotate_left; focus (first | (simp; done) | (simp; omega) | omega)) | (with_reducible (refine Since.trans ?_ (by with_reducible assumption)))))⟩
  | true =>
    cases hr : inR s with
    | false =>
      have hb : bendI s = 0 := by unfold bendI; rw [hk, hr]; rfl
      rw [hb]
      rw [hr] at hc
      unfold Sg.v at *
      rw [hk] at hc ⊢
      have HC := Lib.hid hc
      clear hb hc hs hr
      go_enter Try.func65, Try.ntmps65
      go_wp2_with (go_at_call 69; (with_reducible refine (HC.out _).mono ?_); rintro e w1 ⟨rfl, hS1⟩; have hS : Since w w1 := (by (repeat (first | with_reducible (exact Since.refl _) | with_reducible assumption | with_reducible (refine Since.drew ?_) | with_reducible (refine Since.drewN ?_ _) | with_reducible (refine Since.alloc ?_ _) | (with_reducible (refine Since.setCell ?_ ?_ _); rotate_left; focus (first | (simp; done) | (simp; omega) | omega)) | (with_reducible (refine Since.trans ?_ (by with_reducible assumption)))))))
      go_ret
      exact ⟨rfl, by (repeat (first | with_reducible (exact Since.refl _) | with_reducible assumption | with_reducible (refine Since.drew ?_) | with_reducible (refine Since.drewN ?_ _) | with_reducible (refine Since.alloc ?_ _) | (with_reducible (refine Since.setCell ?_ ?_ _); rotate_left; focus (first | (simp; done) | (simp; omega) | omega)) | (with_reducible (refine Since.trans ?_ (by with_reducible assumption)))))⟩
    | true =>
      have hkr : (s.k && inR s) = true := by rw [hk, hr]; rfl
      have hb : bendI s = max (ben s.ax s.cx s.bx) (ben s.ay s.cy s.bz) := by unfold bendI; rw [if_pos hkr]
      obtain ⟨⟨a1, a2⟩, ⟨b1, b2⟩, c1, c2⟩ := inR_tny hkr
      rw [hb]
      rw [hr] at hc
      have hF := fun (bs : Nat) (w : World) (q1 : SegAt w bs s) =>
        qu_both 70 #[.pointer (some ⟨bs, 0, none⟩)] _ _ w enters68
          (fun w1 hS => qu_bend1 s 72 s.ax s.cx s.bx bs w1 enters71 (q1.since hS) (fun w => qu_axisX _ _ w) (fun w => qu_axisX _ _ w) (fun w => qu_axisX _ _ w) a1 b1 c1)
          (fun w1 hS => qu_bend1 s 73 s.ay s.cy s.bz bs w1 enters72 (q1.since hS) (fun w => qu_axisY _ _ w) (fun w => qu_axisY _ _ w) (fun w => qu_axisY _ _ w) a2 b2 c2)
      generalize ben s.ax s.cx s.bx = X at *
      generalize ben s.ay s.cy s.bz = Y at *
      have hN := fun w b hb t => seg_new w b hb s t
      unfold Sg.v Pt at *
      rw [hk] at hc ⊢
      simp only [hk] at hN
      have HC := Lib.hid hc
      have HF := Lib.hid hF
      have HN := Lib.hid hN
      clear hb hc hs hr hkr hF hN a1 a2 b1 b2 c1 c2
      go_enter Try.func65, Try.ntmps65
      go_wp2_with (first | (go_at_call 69; (with_reducible refine (HC.out _).mono ?_); rintro e w1 ⟨rfl, hS1⟩; have hX1 := (HN.out w _ rfl _).since hS1; have hS : Since w w1 := (by (repeat (first | with_reducible (exact Since.refl _) | with_reducible assumption | with_reducible (refine Since.drew ?_) | with_reducible (refine Since.drewN ?_ _) | with_reducible (refine Since.alloc ?_ _) | (with_reducible (refine Since.setCell ?_ ?_ _); rotate_left; focus (first | (simp; done) | (simp; omega) | omega)) | (with_reducible (refine Since.trans ?_ (by with_reducible assumption)))))); clear hS1) | (go_at_call 67; (with_reducible refine (HF.out _ _ hX1).mono ?_); rintro e w2 ⟨rfl, hS2⟩; have hS3 : Since w w2 := (by (repeat (first | with_reducible (exact Since.refl _) | with_reducible assumption | with_reducible (refine Since.drew ?_) | with_reducible (refine Since.drewN ?_ _) | with_reducible (refine Since.alloc ?_ _) | (with_reducible (refine Since.setCell ?_ ?_ _); rotate_left; focus (first | (simp; done) | (simp; omega) | omega)) | (with_reducible (refine Since.trans ?_ (by with_reducible assumption)))))); clear hS2 hS hX1))
      all_goals go_ret
      all_goals exact ⟨by first | rfl | (simp; omega), by (repeat (first | with_reducible (exact Since.refl _) | with_reducible assumption | with_reducible (refine Since.drew ?_) | with_reducible (refine Since.drewN ?_ _) | with_reducible (refine Since.alloc ?_ _) | (with_reducible (refine Since.setCell ?_ ?_ _); rotate_left; focus (first | (simp; done) | (simp; omega) | omega)) | (with_reducible (refine Since.trans ?_ (by with_reducible assumption)))))⟩
end Go.Proofs.Ytdbenpncnkfliaa
