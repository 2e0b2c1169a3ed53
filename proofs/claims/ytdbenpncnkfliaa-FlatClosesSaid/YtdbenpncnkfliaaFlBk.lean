/-
  Texts of this seat, put together: each with its own head.
-/
import Derived.Test.YtdbenpncnkfliaaFlBj

/-
  Layer 13: the reference's At (where it answers), walked.
-/
namespace Go.Proofs.Ytdbenpncnkfliaa
open Go.RowKit
set_option linter.unusedVariables false

/-- A block holds a piece, and may be written. -/
def SegF (w : World) (b : Nat) (s : Sg) : Prop := SegAt w b s ∧ ∀ j, w.frozen? ⟨b, j, none⟩ = false
theorem SegF.since {w w' : World} {b : Nat} {s : Sg} (h : SegF w b s) (k : Since w w') : SegF w' b s := ⟨h.1.since k, fun j => (k.2.1 _ _ h.1.2.2.2.2.2.2.2).trans (h.2 j)⟩
theorem SegF.alloc {w : World} {b : Nat} {s : Sg} (h : SegF w b s) (o : Obj) : SegF (w.alloc o) b s := h.since ((Since.refl w).alloc o)
theorem segf_new (w : World) (b : Nat) (hb : b = w.heap.size) (s : Sg) (t : TypeId) : SegF (w.alloc (.cells #[.int .i64 s.ax, .int .i64 s.ay, .int .i64 s.cx, .int .i64 s.cy, .int .i64 s.bx, .int .i64 s.bz, .bool s.k] t)) b s := by
  refine ⟨seg_new w b hb s t, fun j => ?_⟩
  subst hb
  rw [frozen?_alloc_cells]
  simp [World.frozen?]
theorem SegAt.zero {w : World} {b : Nat} {s : Sg} (h : SegAt w b s) : SegAt ((w.setCell ⟨b, 2, none⟩ (.int .i64 0)).setCell ⟨b, 3, none⟩ (.int .i64 0)) b ⟨s.ax, s.ay, 0, 0, s.bx, s.bz, s.k⟩ := by
  obtain ⟨h1, h2, h3, h4, h5, h6, h7, h8⟩ := h
  have k : ∀ j, j ≠ 2 → j ≠ 3 → ((w.setCell ⟨b, 2, none⟩ (.int .i64 0)).setCell ⟨b, 3, none⟩ (.int .i64 0)).cell? ⟨b, j, none⟩ = w.cell? ⟨b, j, none⟩ := fun j e2 e3 => by
    rw [cell_set, if_neg (by omega), cell_set, if_neg (by omega)]
  refine ⟨(k _ (by decide) (by decide)).trans h1, (k _ (by decide) (by decide)).trans h2, ?_, ?_, (k _ (by decide) (by decide)).trans h5, (k _ (by decide) (by decide)).trans h6, (k _ (by decide) (by decide)).trans h7, by simpa [World.setCell] using h8⟩
  · rw [cell_set, if_neg (by omega), cell_set, if_pos ⟨rfl, rfl⟩, h3]; rfl
  · rw [cell_set, if_pos ⟨rfl, rfl⟩, cell_set, if_neg (by omega), h4]; rfl

set_option maxHeartbeats 8000000 in
theorem rq_at_ok (s : Sg) (k n : Int) (h : argOK k n = true) (hr : inR s = true) (w : World) :
    Calls Try.prog 44 #[s.v, .int .i64 k, .int .i64 n] w fun e w' => e = .returned (.tuple #[Pt (atX s k n) (atY s k n), .int .i64 0]) ∧ Since w w' := by
  have hg := fun w => rq_good s w
  rw [hr] at hg
  obtain ⟨h1, h2, h3, h4⟩ := arg_parts h
  obtain ⟨⟨a1, a2⟩, ⟨b1, b2⟩, c⟩ := inR_parts hr
  have hc := Lib.hid (fun w => rq_power 2 n (by decide) (by decide) (by omega) (by omega) w)
  have hp := two_pow h1 h2
  have hN := fun w b hb t => segf_new w b hb s t
  unfold atX atY atI
  generalize (2 : Int) ^ n.toNat = p at *
  have w0 : IntKind.i64.wrap (p - k) = p - k := IntWalk.i64_in _ (by omega)
  generalize hl : p - k = l at *
  obtain ⟨ax, ay, cx, cy, bx, bz, kk⟩ := s
  have q1 := sq_in (X := 1024) (show 0 ≤ l by omega) (by omega) (by omega : 0 ≤ p) hp.2
  have q2 := sq_in (X := 1024) h3 (by omega) (by omega : 0 ≤ p) hp.2
  have q3 := sq_in (X := 1024) (show 0 ≤ l by omega) (by omega) (show 0 ≤ l by omega) (by omega)
  have q4 := sq_in (X := 1024) h3 (by omega) h3 (by omega)
  have q5 := sq_in (X := 2048) (show 0 ≤ 2 * k by omega) (by omega) (show 0 ≤ l by omega) (by omega)
  have w1 : IntKind.i64.wrap (l * p) = l * p := IntWalk.i64_in _ (by omega)
  have w2 : IntKind.i64.wrap (k * p) = k * p := IntWalk.i64_in _ (by omega)
  have w3 : IntKind.i64.wrap (l * l) = l * l := IntWalk.i64_in _ (by omega)
  have w4 : IntKind.i64.wrap (k * k) = k * k := IntWalk.i64_in _ (by omega)
  have w5 : IntKind.i64.wrap (2 * k) = 2 * k := IntWalk.i64_in _ (by omega)
  have w6 : IntKind.i64.wrap (2 * k * l) = 2 * k * l := IntWalk.i64_in _ (by omega)
  have HG := Lib.hid hg
  simp only at a1 a2 b1 b2 c
  cases kk with
  | false =>
    have hP := fun w => rq_point ⟨ax, ay, 0, 0, bx, bz, false⟩ (l * p) 0 (k * p) (line_ok a1 b1 (by omega) h3 (by omega) hp.2) (line_ok a2 b2 (by omega) h3 (by omega) hp.2) w
    simp only [ref_line] at hP
    simp only [Bool.false_eq_true, if_false]
    generalize lineI ax bx l k p = X at *
    generalize lineI ay bz l k p = Y at *
    have HP := Lib.hid hP
    have HN := Lib.hid hN
    have hkp : k ≤ p := h4
    clear h hr hg a1 a2 b1 b2 c hP q1 q2 q3 q4 q5 hp h4 hN
    unfold Pt Sg.v at *
    go_enter Try.func44, Try.ntmps44
    go_wp2_with (first | (go_at_call 56; have _t := h1; (with_reducible refine (hc.out _).mono ?_); rintro e w1 ⟨rfl, hS1⟩; have hX1 := ((HN.out w _ rfl _).alloc _).since hS1; have hZ := (zero2_new _ (w.heap.size + 1) (by simp) _).since hS1; have hS : Since w w1 := (by (repeat (first | with_reducible (exact Since.refl _) | with_reducible assumption | with_reducible (refine Since.drew ?_) | with_reducible (refine Since.drewN ?_ _) | with_reducible (refine Since.alloc ?_ _) | (with_reducible (refine Since.setCell ?_ ?_ _); rotate_left; focus (first | (simp; done) | (simp; omega) | omega)) | (with_reducible (refine Since.trans ?_ (by with_reducible assumption)))))); clear hS1 h1; have hX2 := hX1.1; obtain ⟨s1, s2, s3, s4, s5, s6, s7, s8⟩ := hX2) | (go_at_call 32; (with_reducible refine (HG.out _).mono ?_); rintro e w2 ⟨rfl, hS2⟩; have hX3 := hX1.since hS2; have hZ2 := hZ.since hS2; have hS3 := hS.trans hS2; clear hS2 hS hX1 s1 s2 s3 s4 s5 s6 s7 s8 hZ; have tok := True.intro) | (go_at_call 56; have _t := tok; (with_reducible refine (hc.out _).mono ?_); rintro e w3 ⟨rfl, hS4⟩; have hX4 := hX3.since hS4; have hZ3 := hZ2.since hS4; have hS5 := hS3.trans hS4; clear tok hS4 hS3 hX3 hZ2; have hX5 := hX4; obtain ⟨⟨s1, s2, s3, s4, s5, s6, s7, s8⟩, sF⟩ := hX5; have sF2 := sF 2; have sF3 := sF 3; clear sF; have hZ4 := hZ3; obtain ⟨⟨z1, z2, z3⟩, zF⟩ := hZ4; have zF0 := zF 0; have zF1 := zF 1; clear zF))
    refine wp_named fun w4 hw4 => ?_
    have hX6 : SegAt w4 w.heap.size ⟨ax, ay, 0, 0, bx, bz, false⟩ := by subst hw4; exact hX4.1.zero
    have hZ6 : Zero2 w4 (w.heap.size + 1) := by subst hw4; exact (hZ3.far (by omega) _ _).far (by omega) _ _
    have hS6 : Since w w4 := by subst hw4; (repeat (first | with_reducible (exact Since.refl _) | with_reducible assumption | with_reducible (refine Since.drew ?_) | with_reducible (refine Since.drewN ?_ _) | with_reducible (refine Since.alloc ?_ _) | (with_reducible (refine Since.setCell ?_ ?_ _); rotate_left; focus (first | (simp; done) | (simp; omega) | omega)) | (with_reducible (refine Since.trans ?_ (by with_reducible assumption)))))
    clear hw4 hX4 hZ3 hS5 s1 s2 s3 s4 s5 s6 s7 s8 sF2 sF3 z1 z2 z3 zF0 zF1
    obtain ⟨s1, s2, s3, s4, s5, s6, s7, s8⟩ := hX6
    simp only at s1 s2 s3 s4 s5 s6 s7
    obtain ⟨⟨z1, z2, z3⟩, zF⟩ := hZ6
    have zF0 := zF 0
    have zF1 := zF 1
    clear zF
    (refine wp_named fun wr1 hwr1 => ?_; go_region_held3 (fun w' => (∀ b o, b < (w.heap.size + 1) → w'.cell? ⟨b, o, none⟩ = wr1.cell? ⟨b, o, none⟩) ∧ (∀ b o, b < wr1.heap.size → w'.frozen? ⟨b, o, none⟩ = wr1.frozen? ⟨b, o, none⟩) ∧ (∀ k, k < wr1.heap.size → k < w'.heap.size) ∧ Below ((w.heap.size + 1)) wr1 w' ∧ (∀ o, o < 2 → w'.cell? ⟨(w.heap.size + 1), o, none⟩ = some (cellD w' ((w.heap.size + 1)) o))) ((subst hwr1; (repeat with_reducible (refine sr_set ?_ _ _)); first | assumption | (refine sr_step (by first | assumption | omega | (simp; done) | (simp; omega)) (by assumption) ?_; first | assumption | (repeat (first | with_reducible (exact Since.refl _) | with_reducible assumption | with_reducible (refine Since.drew ?_) | with_reducible (refine Since.drewN ?_ _) | with_reducible (refine Since.alloc ?_ _) | (with_reducible (refine Since.setCell ?_ ?_ _); rotate_left; focus (first | (simp; done) | (simp; omega) | omega))))) | (refine sr_step (by first | assumption | omega | (simp; done) | (simp; omega)) (sr_start (fun o ho => by (have ho' : o = 0 ∨ o = 1 := by omega); rcases ho' with rfl | rfl <;> (first | (simp [go_sem]; done) | simp_all))) ?_; first | assumption | (repeat (first | with_reducible (exact Since.refl _) | with_reducible assumption | with_reducible (refine Since.drew ?_) | with_reducible (refine Since.drewN ?_ _) | with_reducible (refine Since.alloc ?_ _) | (with_reducible (refine Since.setCell ?_ ?_ _); rotate_left; focus (first | (simp; done) | (simp; omega) | omega))))))) (first | (go_at_call 56; refine (hc.out _).mono ?_; rintro e w1 ⟨rfl, hS⟩; have hZ := hS.below.size; (try simp at hZ)) | (go_at_call 61; refine (HP.out _).mono ?_; rintro e w1 ⟨rfl, hS⟩; have hZ := hS.below.size; (try simp at hZ))); all_goals (rename_i hHeld; obtain ⟨hcR1, hfR1, hzR1, hbR1, hoR1⟩ := hHeld; have hiR := fun o ho => there_of (hoR1 o ho); (try simp only [there_set] at hiR); clear hoR1; subst hwr1; have hR1 : Since w _ := sr_out hbR1 (by (repeat (first | with_reducible (exact Since.refl _) | with_reducible assumption | with_reducible (refine Since.drew ?_) | with_reducible (refine Since.drewN ?_ _) | with_reducible (refine Since.alloc ?_ _) | (with_reducible (refine Since.setCell ?_ ?_ _); rotate_left; focus (first | (simp; done) | (simp; omega) | omega)) | (with_reducible (refine Since.trans ?_ (by with_reducible assumption)))))) (by first | (simp; done) | (simp; omega) | omega)))
    all_goals go_wp2
    all_goals refine bodyPost_ret (by simp only [results, Try.results44]; go_simp) rfl ⟨rfl, ?_⟩
    all_goals (repeat (first | with_reducible (exact Since.refl _) | with_reducible assumption | with_reducible (refine Since.drew ?_) | with_reducible (refine Since.drewN ?_ _) | with_reducible (refine Since.alloc ?_ _) | (with_reducible (refine Since.setCell ?_ ?_ _); rotate_left; focus (first | (simp; done) | (simp; omega) | omega)) | (with_reducible (refine Since.trans ?_ (by with_reducible assumption)))))
  | true =>
    have c := c rfl
    have hP := fun w => rq_point ⟨ax, ay, cx, cy, bx, bz, true⟩ (l * l) (2 * k * l) (k * k) (curve_ok a1 c.1 b1 (by omega) h3 (by omega)) (curve_ok a2 c.2 b2 (by omega) h3 (by omega)) w
    simp only [ref_curve] at hP
    simp only [if_true]
    generalize curveI ax cx bx l k = X at *
    generalize curveI ay cy bz l k = Y at *
    have HP := Lib.hid hP
    have HN := Lib.hid hN
    have hkp : k ≤ p := h4
    clear h hr hg a1 a2 b1 b2 c hP q1 q2 q3 q4 q5 hp h4 hN
    unfold Pt Sg.v at *
    go_enter Try.func44, Try.ntmps44
    go_wp2_with (first | (go_at_call 56; have _t := h1; (with_reducible refine (hc.out _).mono ?_); rintro e w1 ⟨rfl, hS1⟩; have hX1 := ((HN.out w _ rfl _).alloc _).since hS1; have hZ := (zero2_new _ (w.heap.size + 1) (by simp) _).since hS1; have hS : Since w w1 := (by (repeat (first | with_reducible (exact Since.refl _) | with_reducible assumption | with_reducible (refine Since.drew ?_) | with_reducible (refine Since.drewN ?_ _) | with_reducible (refine Since.alloc ?_ _) | (with_reducible (refine Since.setCell ?_ ?_ _); rotate_left; focus (first | (simp; done) | (simp; omega) | omega)) | (with_reducible (refine Since.trans ?_ (by with_reducible assumption)))))); clear hS1 h1; have hX2 := hX1.1; obtain ⟨s1, s2, s3, s4, s5, s6, s7, s8⟩ := hX2) | (go_at_call 32; (with_reducible refine (HG.out _).mono ?_); rintro e w2 ⟨rfl, hS2⟩; have hX3 := hX1.since hS2; have hZ2 := hZ.since hS2; have hS3 := hS.trans hS2; clear hS2 hS hX1 s1 s2 s3 s4 s5 s6 s7 s8 hZ; have tok := True.intro) | (go_at_call 56; have _t := tok; (with_reducible refine (hc.out _).mono ?_); rintro e w3 ⟨rfl, hS4⟩; have hX4 := hX3.since hS4; have hZ3 := hZ2.since hS4; have hS5 := hS3.trans hS4; clear tok hS4 hS3 hX3 hZ2; have hX5 := hX4; obtain ⟨⟨s1, s2, s3, s4, s5, s6, s7, s8⟩, sF⟩ := hX5; have sF2 := sF 2; have sF3 := sF 3; clear sF; have hZ4 := hZ3; obtain ⟨⟨z1, z2, z3⟩, zF⟩ := hZ4; have zF0 := zF 0; have zF1 := zF 1; clear zF) | (go_at_call 61; (with_reducible refine (HP.out _).mono ?_); rintro e w5 ⟨rfl, hS6⟩; have hZ5 := hZ3.since hS6; have hS7 := hS5.trans hS6; clear hS6 hS5 hX4 hZ3 s1 s2 s3 s4 s5 s6 s7 s8 z1 z2 z3 zF0 zF1; obtain ⟨⟨z1, z2, z3⟩, zF⟩ := hZ5; have zF0 := zF 0; have zF1 := zF 1; clear zF))
    refine bodyPost_ret (by simp only [results, Try.results44]; go_simp) rfl ⟨rfl, ?_⟩
    (repeat (first | with_reducible (exact Since.refl _) | with_reducible assumption | with_reducible (refine Since.drew ?_) | with_reducible (refine Since.drewN ?_ _) | with_reducible (refine Since.alloc ?_ _) | (with_reducible (refine Since.setCell ?_ ?_ _); rotate_left; focus (first | (simp; done) | (simp; omega) | omega)) | (with_reducible (refine Since.trans ?_ (by with_reducible assumption)))))
end Go.Proofs.Ytdbenpncnkfliaa

/-
  Layer 13: 'Split', walked.
-/
namespace Go.Proofs.Ytdbenpncnkfliaa
open Go.RowKit
set_option linter.unusedVariables false

def nearB (x y : Int) : Bool := decide (-1048576 ≤ x ∧ x ≤ 1048576 ∧ -1048576 ≤ y ∧ y ≤ 1048576)
theorem nearB_iff {x y : Int} : nearB x y = true ↔ (-1048576 ≤ x ∧ x ≤ 1048576 ∧ -1048576 ≤ y ∧ y ≤ 1048576) := by unfold nearB; simp
theorem nearB_no {x y : Int} : nearB x y = false ↔ ¬ (-1048576 ≤ x ∧ x ≤ 1048576 ∧ -1048576 ≤ y ∧ y ≤ 1048576) := by unfold nearB; simp only [decide_eq_false_iff_not]
def Nr (x : Int) : Prop := -1048576 ≤ x ∧ x ≤ 1048576
end Go.Proofs.Ytdbenpncnkfliaa

/-
  Layer 13: the reference's near, Bend, Steps, Box, walked.
-/
namespace Go.Proofs.Ytdbenpncnkfliaa
open Go.RowKit
set_option linter.unusedVariables false

theorem bend_ok {a c b : Int} (ha : Tny a) (hc : Tny c) (hb : Tny b) : PtOK a c b 1 (-2) 1 := by
  unfold Tny at *
  unfold PtOK
  refine ⟨IntWalk.i64_in _ ?_, IntWalk.i64_in _ ?_, IntWalk.i64_in _ ?_, IntWalk.i64_in _ ?_, IntWalk.i64_in _ ?_⟩ <;> omega
theorem bend_num (a c b : Int) : 1 * a + -2 * c + 1 * b = a - 2 * c + b := by omega
set_option maxHeartbeats 8000000 in
theorem rq_bend (s : Sg) (w : World) :
    Calls Try.prog 59 #[s.v] w fun e w' => e = .returned (.int .i64 (bendI s)) ∧ Since w w' := by
  have hc := fun w => rq_good s w
  cases hk : s.k with
  | false =>
    have hb : bendI s = 0 := by unfold bendI; rw [hk]; rfl
    rw [hb]
    unfold Sg.v
    rw [hk]
    clear hb hc
    go_enter Try.func59, Try.ntmps59
    go_wp2
    go_ret
    exact ⟨rfl, by (repeat (first | with_reducible (exact Since.refl _) | with_reducible assumption | with_reducible (refine Since.drew ?_) | with_reducible (refine Since.drewN ?_ _) | with_reducible (refine Since.alloc ?_ _) | (with_reducible (refine Since.setCell ?_ ?_ _); rotate_left; focus (first | (simp; done) | (simp; omega) | omega)) | (with_reducible (refine Since.trans ?_ (by with_reducible assumption)))))⟩
  | true =>
    cases hr : inR s with
    | false =>
      have hb : bendI s = 0 := by unfold bendI; rw [hk, hr]; rfl
      rw [hb]
      rw [hr] at hc
      unfold Sg.v at *
      rw [hk] at hc ⊢
      have HC := Lib.hid hc
      clear hb hc hr
      go_enter Try.func59, Try.ntmps59
      go_wp2_with (go_at_call 32; (with_reducible refine (HC.out _).mono ?_); rintro e w1 ⟨rfl, hS1⟩; have hS : Since w w1 := (by (repeat (first | with_reducible (exact Since.refl _) | with_reducible assumption | with_reducible (refine Since.drew ?_) | with_reducible (refine Since.drewN ?_ _) | with_reducible (refine Since.alloc ?_ _) | (with_reducible (refine Since.setCell ?_ ?_ _); rotate_left; focus (first | (simp; done) | (simp; omega) | omega)) | (with_reducible (refine Since.trans ?_ (by with_reducible assumption)))))))
      go_ret
      exact ⟨rfl, by (repeat (first | with_reducible (exact Since.refl _) | with_reducible assumption | with_reducible (refine Since.drew ?_) | with_reducible (refine Since.drewN ?_ _) | with_reducible (refine Since.alloc ?_ _) | (with_reducible (refine Since.setCell ?_ ?_ _); rotate_left; focus (first | (simp; done) | (simp; omega) | omega)) | (with_reducible (refine Since.trans ?_ (by with_reducible assumption)))))⟩
    | true =>
      have hkr : (s.k && inR s) = true := by rw [hk, hr]; rfl
      have hb : bendI s = max (ben s.ax s.cx s.bx) (ben s.ay s.cy s.bz) := by unfold bendI; rw [if_pos hkr]
      obtain ⟨⟨a1, a2⟩, ⟨b1, b2⟩, c1, c2⟩ := inR_tny hkr
      rw [hb]
      rw [hr] at hc
      have hF := fun w => rq_point s 1 (-2) 1 (bend_ok a1 c1 b1) (bend_ok a2 c2 b2) w
      simp only [bend_num] at hF
      unfold Tny at *
      have hA1 := fun w => rq_abs (s.ax - 2 * s.cx + s.bx) (by omega) (by omega) w
      have hA2 := fun w => rq_abs (s.ay - 2 * s.cy + s.bz) (by omega) (by omega) w
      unfold ben
      generalize s.ax - 2 * s.cx + s.bx = X at *
      generalize s.ay - 2 * s.cy + s.bz = Y at *
      obtain ⟨U, hU⟩ : ∃ u : Int, u = if X < 0 then -X else X := ⟨_, rfl⟩
      obtain ⟨V, hV⟩ : ∃ u : Int, u = if Y < 0 then -Y else Y := ⟨_, rfl⟩
      rw [← hU, ← hV]
      rw [← hU] at hA1
      rw [← hV] at hA2
      have hmax : max U V = ma U V := by unfold ma; split <;> omega
      rw [hmax]
      have hN := fun w b hb t => seg_new w b hb s t
      have hm2 : ∀ w : World, (Builtin.max_ #[3, 3] 3 #[.int .i64 U, .int .i64 V]).run Try.prog w = .ok (.int .i64 (ma U V)) w := fun _ => rfl
      generalize ma U V = M at *
      unfold Sg.v Pt at *
      rw [hk] at hc ⊢
      simp only [hk] at hN hF
      have HC := Lib.hid hc
      have HF := Lib.hid hF
      have HN := Lib.hid hN
      have HA1 := Lib.hid hA1
      have HA2 := Lib.hid hA2
      clear hb hc hr hkr hF hN a1 a2 b1 b2 c1 c2 hA1 hA2 hU hV hmax
      go_enter Try.func59, Try.ntmps59
      go_wp2_with (first | (go_at_call 32; (with_reducible refine (HC.out _).mono ?_); rintro e w1 ⟨rfl, hS1⟩; have hX1 := (HN.out w _ rfl _).since hS1; have hS : Since w w1 := (by (repeat (first | with_reducible (exact Since.refl _) | with_reducible assumption | with_reducible (refine Since.drew ?_) | with_reducible (refine Since.drewN ?_ _) | with_reducible (refine Since.alloc ?_ _) | (with_reducible (refine Since.setCell ?_ ?_ _); rotate_left; focus (first | (simp; done) | (simp; omega) | omega)) | (with_reducible (refine Since.trans ?_ (by with_reducible assumption)))))); clear hS1; have hX2 := hX1; obtain ⟨s1, s2, s3, s4, s5, s6, s7, s8⟩ := hX2) | (go_at_call 61; (with_reducible refine (HF.out _).mono ?_); rintro e w2 ⟨rfl, hS2⟩; have hS3 : Since w w2 := (by (repeat (first | with_reducible (exact Since.refl _) | with_reducible assumption | with_reducible (refine Since.drew ?_) | with_reducible (refine Since.drewN ?_ _) | with_reducible (refine Since.alloc ?_ _) | (with_reducible (refine Since.setCell ?_ ?_ _); rotate_left; focus (first | (simp; done) | (simp; omega) | omega)) | (with_reducible (refine Since.trans ?_ (by with_reducible assumption)))))); clear hS2 hS hX1 s1 s2 s3 s4 s5 s6 s7 s8))
      refine wp_named fun w3 hw3 => ?_
      have hP3 : PtAt w3 w2.heap.size X Y := by subst hw3; exact pt_new w2 _ rfl X Y _
      have hS4 : Since w w3 := by subst hw3; exact hS3.alloc _
      clear hw3 hS3
      obtain ⟨p1, p2, p3⟩ := hP3
      (refine wp_named fun wr1 hwr1 => ?_; go_region_held3 (fun w' => (∀ b o, b < wr1.heap.size → w'.cell? ⟨b, o, none⟩ = wr1.cell? ⟨b, o, none⟩) ∧ (∀ b o, b < wr1.heap.size → w'.frozen? ⟨b, o, none⟩ = wr1.frozen? ⟨b, o, none⟩) ∧ (∀ k, k < wr1.heap.size → k < w'.heap.size) ∧ Below wr1.heap.size wr1 w') ((subst hwr1; (repeat (with_reducible (refine since_put ?_ ?_ _); rotate_left; focus (first | (simp; done) | (simp; omega) | omega))); first | assumption | (refine since_step (by assumption) ?_; first | assumption | ((repeat (first | with_reducible (exact Since.refl _) | with_reducible assumption | with_reducible (refine Since.drew ?_) | with_reducible (refine Since.drewN ?_ _) | with_reducible (refine Since.alloc ?_ _) | (with_reducible (refine Since.setCell ?_ ?_ _); rotate_left; focus (first | (simp; done) | (simp; omega) | omega)))); done)) | (refine since_step (Since.refl _) ?_; first | assumption | ((repeat (first | with_reducible (exact Since.refl _) | with_reducible assumption | with_reducible (refine Since.drew ?_) | with_reducible (refine Since.drewN ?_ _) | with_reducible (refine Since.alloc ?_ _) | (with_reducible (refine Since.setCell ?_ ?_ _); rotate_left; focus (first | (simp; done) | (simp; omega) | omega)) | (with_reducible (refine Since.trans ?_ (by with_reducible assumption))))); done)))) (first | (go_at_call 45; (with_reducible refine (HA1.out _).mono ?_); rintro e w1 ⟨rfl, hS⟩; have hZ := hS.below.size; (try simp at hZ)) | (go_at_call 45; (with_reducible refine (HA2.out _).mono ?_); rintro e w1 ⟨rfl, hS⟩; have hZ := hS.below.size; (try simp at hZ))); all_goals (rename_i hHeld; have hR1 : Since wr1 _ := hHeld; obtain ⟨hcR1, hfR1, hzR1, hbR1⟩ := hHeld; subst hwr1))
      all_goals go_wp2
      all_goals go_ret
      all_goals exact ⟨by first | rfl | (simp; omega), by (repeat (first | with_reducible (exact Since.refl _) | with_reducible assumption | with_reducible (refine Since.drew ?_) | with_reducible (refine Since.drewN ?_ _) | with_reducible (refine Since.alloc ?_ _) | (with_reducible (refine Since.setCell ?_ ?_ _); rotate_left; focus (first | (simp; done) | (simp; omega) | omega)) | (with_reducible (refine Since.trans ?_ (by with_reducible assumption)))))⟩

theorem four_eq {z : Int} (h : 0 ≤ z) : (4 : Int) ^ z.toNat = 2 ^ (2 * z).toNat := by
  have h0 : (2 * z).toNat = 2 * z.toNat := by omega
  rw [h0, Int.pow_mul]
  rfl
set_option maxHeartbeats 8000000 in
theorem rq_steps (s : Sg) (w : World) :
    Calls Try.prog 42 #[s.v] w fun e w' => e = .returned (.int .i64 (stepsN (bendI s) : Nat)) ∧ Since w w' := by
  have hc := fun w => rq_bend s w
  have hb := bend_in s
  have h9 := steps_le (bendI s)
  generalize bendI s = b at *
  have hi := fun z h1 h2 => steps_iff (b := b) (z := z) hb.2 h1 h2
  have hN := fun w b hb t => seg_new w b hb s t
  unfold Sg.v at *
  have HC := Lib.hid hc
  have HI := Lib.hid hi
  have HN := Lib.hid hN
  generalize stepsN b = N at *
  clear hc hi hN
  go_enter Try.func42, Try.ntmps42
  go_wp2
  go_loopw [3] (fun y wr => ∃ z : Int, 0 ≤ z ∧ z ≤ N ∧ y = .int .i64 z ∧ Since w wr ∧ SegAt wr w.heap.size s) (fun y _ => 10 - (intOf y).toNat)
  case atStart => exact ⟨0, by omega, by omega, rfl, by (repeat (first | with_reducible (exact Since.refl _) | with_reducible assumption | with_reducible (refine Since.drew ?_) | with_reducible (refine Since.drewN ?_ _) | with_reducible (refine Since.alloc ?_ _) | (with_reducible (refine Since.setCell ?_ ?_ _); rotate_left; focus (first | (simp; done) | (simp; omega) | omega)) | (with_reducible (refine Since.trans ?_ (by with_reducible assumption))))), HN.out w _ rfl _⟩
  case round =>
    obtain ⟨z, h0, h1, rfl, hSr, hX⟩ := hrel
    obtain ⟨i1, i2, i3⟩ := HI.out z h0 (by omega)
    have hp := fun w => rq_power 4 z (by decide) (by decide) h0 (by omega) w
    rw [four_eq h0] at hp
    have w2 : IntKind.i64.wrap (z + 1) = z + 1 := IntWalk.i64_in _ (by omega)
    generalize hq : (2 : Int) ^ (2 * z).toNat = q at *
    have w3 : IntKind.i64.wrap (64 * q) = 64 * q := IntWalk.i64_in _ (by omega)
    have HP := Lib.hid hp
    have hXX := hX
    obtain ⟨s1, s2, s3, s4, s5, s6, s7, s8⟩ := hXX
    clear HI hp hq
    by_cases hL : 64 * q < b
    · have hz := i1.1 hL
      go_wp2_with (first | (go_at_call 59; (with_reducible refine (HC.out _).mono ?_); rintro e w1 ⟨rfl, hS1⟩; have hX1 := hX.since hS1; have hS2 := hSr.trans hS1; clear hS1 s1 s2 s3 s4 s5 s6 s7 s8) | (go_at_call 56; (with_reducible refine (HP.out _).mono ?_); rintro e w4 ⟨rfl, hS3⟩; have hX2 := hX1.since hS3; have hS4 := hS2.trans hS3))
      refine ⟨⟨z + 1, by omega, by omega, rfl, hS4, hX2⟩, by simp [intOf]; omega⟩
    · have hz : z = N := by have := mt i1.2 hL; omega
      have HZ := Lib.hid hz
      clear hz i1
      go_wp2_with (first | (go_at_call 59; (with_reducible refine (HC.out _).mono ?_); rintro e w1 ⟨rfl, hS1⟩; have hX1 := hX.since hS1; have hS2 := hSr.trans hS1; clear hS1 s1 s2 s3 s4 s5 s6 s7 s8) | (go_at_call 56; (with_reducible refine (HP.out _).mono ?_); rintro e w4 ⟨rfl, hS3⟩; have hX2 := hX1.since hS3; have hS4 := hS2.trans hS3))
      go_ret
      exact ⟨by rw [HZ.out]; rfl, hS4⟩
end Go.Proofs.Ytdbenpncnkfliaa

/-
  Layer 13: the reference's Round, walked.
-/
namespace Go.Proofs.Ytdbenpncnkfliaa
open Go.RowKit
set_option linter.unusedVariables false

theorem rq_at_no (s : Sg) (k n : Int) (h : atOK s k n = false) (w : World) :
    Calls Try.prog 44 #[s.v, .int .i64 k, .int .i64 n] w fun e w' => e = .returned (.tuple #[Pt 0 0, .int .i64 (atE s k n)]) ∧ Since w w' := by
  unfold atOK at h
  unfold atE
  cases h1 : argOK k n with
  | false => simpa using rq_at_bad s k n h1 w
  | true =>
    rw [h1] at h
    simp only [Bool.true_and] at h
    simpa [h] using rq_at_far s k n h1 h w
theorem rq_at_yes (s : Sg) (k n : Int) (h : atOK s k n = true) (w : World) :
    Calls Try.prog 44 #[s.v, .int .i64 k, .int .i64 n] w fun e w' => e = .returned (.tuple #[Pt (atX s k n) (atY s k n), .int .i64 0]) ∧ Since w w' := by
  unfold atOK at h
  obtain ⟨h1, h2⟩ := Bool.and_eq_true_iff.1 h
  exact rq_at_ok s k n h1 h2 w
theorem half_div (v q : Int) (hq : q = 1 ∨ ∃ h, 0 < h ∧ q = 2 * h) : (2 * v + q) / (2 * q) = (v + q / 2) / q := by
  rcases hq with rfl | ⟨h, h0, rfl⟩
  · omega
  · rw [show 2 * v + 2 * h = 2 * (v + h) by omega, Int.mul_ediv_mul_of_pos _ _ (by decide : (0 : Int) < 2), show 2 * h / 2 = h by omega]
theorem pow_half {n : Int} (h : 0 ≤ n) (h' : n ≤ 10) : (2 : Int) ^ (2 * n).toNat = 1 ∨ ∃ h, 0 < h ∧ (2 : Int) ^ (2 * n).toNat = 2 * h := by
  have h0 : (2 * n).toNat = 2 * n.toNat := by omega
  rw [h0]
  cases e : n.toNat with
  | zero => left; rfl
  | succ m =>
    right
    refine ⟨2 ^ (2 * m + 1), Int.pow_pos (by decide), ?_⟩
    rw [show 2 * (m + 1) = (2 * m + 1) + 1 by omega, Int.pow_succ, Int.mul_comm]

set_option maxHeartbeats 8000000 in
theorem rq_round_no (s : Sg) (k n : Int) (h : atOK s k n = false) (w : World) :
    Calls Try.prog 43 #[s.v, .int .i64 k, .int .i64 n] w fun e w' => e = .returned (.tuple #[Pt 0 0, .int .i64 (atE s k n)]) ∧ Since w w' := by
  have hc := fun w => rq_at_no s k n h w
  have he : (atE s k n == 0) = false := by rcases atE_no h with e | e <;> rw [e] <;> rfl
  generalize atE s k n = E at *
  unfold Pt Sg.v at *
  have HC := Lib.hid hc
  clear hc h
  go_enter Try.func43, Try.ntmps43
  go_wp2_with (go_at_call 44; (with_reducible refine (HC.out _).mono ?_); rintro e w1 ⟨rfl, hS1⟩; have hZ := (zero2_new _ (w.heap.size + 1) (by simp) _).since hS1; have hS : Since w w1 := (by (repeat (first | with_reducible (exact Since.refl _) | with_reducible assumption | with_reducible (refine Since.drew ?_) | with_reducible (refine Since.drewN ?_ _) | with_reducible (refine Since.alloc ?_ _) | (with_reducible (refine Since.setCell ?_ ?_ _); rotate_left; focus (first | (simp; done) | (simp; omega) | omega)) | (with_reducible (refine Since.trans ?_ (by with_reducible assumption)))))); clear hS1; obtain ⟨⟨z1, z2, z3⟩, zF⟩ := hZ; have zF0 := zF 0; have zF1 := zF 1; clear zF)
  refine bodyPost_ret (by simp only [results, Try.results43]; go_simp) rfl ⟨rfl, ?_⟩
  (repeat (first | with_reducible (exact Since.refl _) | with_reducible assumption | with_reducible (refine Since.drew ?_) | with_reducible (refine Since.drewN ?_ _) | with_reducible (refine Since.alloc ?_ _) | (with_reducible (refine Since.setCell ?_ ?_ _); rotate_left; focus (first | (simp; done) | (simp; omega) | omega)) | (with_reducible (refine Since.trans ?_ (by with_reducible assumption)))))
set_option maxHeartbeats 8000000 in
theorem rq_round_yes (s : Sg) (k n : Int) (h : atOK s k n = true) (w : World) :
    Calls Try.prog 43 #[s.v, .int .i64 k, .int .i64 n] w fun e w' => e = .returned (.tuple #[Pt (rndI (atX s k n) n) (rndI (atY s k n) n), .int .i64 0]) ∧ Since w w' := by
  have hc := fun w => rq_at_yes s k n h w
  have hin := at_in h
  unfold atOK at h
  obtain ⟨ho, hr⟩ := Bool.and_eq_true_iff.1 h
  obtain ⟨h1, h2, _, _⟩ := arg_parts ho
  have hp := four_pow h1 h2
  have hh := pow_half h1 h2
  have hw := fun w => rq_power 4 n (by decide) (by decide) h1 h2 w
  rw [four_eq h1] at hw
  generalize atX s k n = X at *
  generalize atY s k n = Y at *
  unfold rndI
  generalize (2 : Int) ^ (2 * n).toNat = q at *
  rw [← half_div X q hh, ← half_div Y q hh]
  have hd1 := fun w => rq_down (2 * X + q) (2 * q) (by omega) (by omega) (by omega) w
  have hd2 := fun w => rq_down (2 * Y + q) (2 * q) (by omega) (by omega) (by omega) w
  have w1 : IntKind.i64.wrap (2 * q) = 2 * q := IntWalk.i64_in _ (by omega)
  have w2 : IntKind.i64.wrap (2 * X) = 2 * X := IntWalk.i64_in _ (by omega)
  have w3 : IntKind.i64.wrap (2 * Y) = 2 * Y := IntWalk.i64_in _ (by omega)
  have w4 : IntKind.i64.wrap (2 * X + q) = 2 * X + q := IntWalk.i64_in _ (by omega)
  have w5 : IntKind.i64.wrap (2 * Y + q) = 2 * Y + q := IntWalk.i64_in _ (by omega)
  generalize (2 * X + q) / (2 * q) = U at *
  generalize (2 * Y + q) / (2 * q) = V at *
  unfold Pt Sg.v at *
  have HC := Lib.hid hc
  have HW := Lib.hid hw
  have HD1 := Lib.hid hd1
  have HD2 := Lib.hid hd2
  clear hc h hin ho hr hp hw hd1 hd2 hh h1 h2
  go_enter Try.func43, Try.ntmps43
  go_wp2_with (first | (go_at_call 44; (with_reducible refine (HC.out _).mono ?_); rintro e w1 ⟨rfl, hS1⟩; have hZ0 := (zero2_new _ (w.heap.size + 1) (by simp) _).since hS1; have h12 := hZ0.1.2.2; have hZ1 := hZ0.alloc (.cells #[.int .i64 X, .int .i64 Y] 33); have hP1 := pt_new w1 _ rfl X Y 33; have hT1 : Since w (w1.alloc (.cells #[.int .i64 X, .int .i64 Y] 33)) := (by (repeat (first | with_reducible (exact Since.refl _) | with_reducible assumption | with_reducible (refine Since.drew ?_) | with_reducible (refine Since.drewN ?_ _) | with_reducible (refine Since.alloc ?_ _) | (with_reducible (refine Since.setCell ?_ ?_ _); rotate_left; focus (first | (simp; done) | (simp; omega) | omega)) | (with_reducible (refine Since.trans ?_ (by with_reducible assumption)))))); clear hS1 hZ0) | (go_at_call 56; (with_reducible refine (HW.out _).mono ?_); rintro e w2 ⟨rfl, hS2⟩; have hZ := hZ1.since hS2; have hP := hP1.since hS2; have hT := hT1.trans hS2; clear hZ1 hT1 hS2 hP1; have hZZ := hZ; obtain ⟨⟨z1, z2, z3⟩, zF⟩ := hZZ; have zF0 := zF 0; have zF1 := zF 1; clear zF; have hPP := hP; obtain ⟨p1, p2, p3⟩ := hPP))
  go_region_held3 (fun w' => w'.cell? ⟨w1.heap.size, 0, none⟩ = some (.int .i64 X) ∧ w'.cell? ⟨w1.heap.size, 1, none⟩ = some (.int .i64 Y)) ((refine ⟨?_, ?_⟩ <;> (first | assumption | (rw [cell_set, if_neg (by omega), cell_set, if_neg (by omega)]; assumption)))) ((first | (go_at_call 56; (with_reducible refine (HW.out _).mono ?_); rintro e wk ⟨rfl, hSk⟩; have hZk : Zero2 wk (w.heap.size + 1) := (by refine Zero2.since ?_ hSk; exact hZ); have hTk : Since w wk := (by (repeat (first | with_reducible (exact Since.refl _) | with_reducible assumption | with_reducible (refine Since.drew ?_) | with_reducible (refine Since.drewN ?_ _) | with_reducible (refine Since.alloc ?_ _) | (with_reducible (refine Since.setCell ?_ ?_ _); rotate_left; focus (first | (simp; done) | (simp; omega) | omega)) | (with_reducible (refine Since.trans ?_ (by with_reducible assumption)))))); have hPk : PtAt wk w1.heap.size X Y := (by refine PtAt.since ?_ hSk; exact hP); clear hZ hT hP hSk z1 z2 z3 zF0 zF1 p1 p2 p3; have hZ := hZk; have hT := hTk; have hP := hPk; clear hZk hTk hPk; have hZZ := hZ; obtain ⟨⟨z1, z2, z3⟩, zF⟩ := hZZ; have zF0 := zF 0; have zF1 := zF 1; clear zF; have hPP := hP; obtain ⟨p1, p2, p3⟩ := hPP) | (go_at_call 60; (with_reducible refine (HD1.out _).mono ?_); rintro e wk ⟨rfl, hSk⟩; have hZk : Zero2 wk (w.heap.size + 1) := (by refine Zero2.since ?_ hSk; exact hZ); have hTk : Since w wk := (by (repeat (first | with_reducible (exact Since.refl _) | with_reducible assumption | with_reducible (refine Since.drew ?_) | with_reducible (refine Since.drewN ?_ _) | with_reducible (refine Since.alloc ?_ _) | (with_reducible (refine Since.setCell ?_ ?_ _); rotate_left; focus (first | (simp; done) | (simp; omega) | omega)) | (with_reducible (refine Since.trans ?_ (by with_reducible assumption)))))); have hPk : PtAt wk w1.heap.size X Y := (by refine PtAt.since ?_ hSk; exact hP); clear hZ hT hP hSk z1 z2 z3 zF0 zF1 p1 p2 p3; have hZ := hZk; have hT := hTk; have hP := hPk; clear hZk hTk hPk; have hZZ := hZ; obtain ⟨⟨z1, z2, z3⟩, zF⟩ := hZZ; have zF0 := zF 0; have zF1 := zF 1; clear zF; have hPP := hP; obtain ⟨p1, p2, p3⟩ := hPP) | (go_at_call 60; (with_reducible refine (HD2.out _).mono ?_); rintro e wk ⟨rfl, hSk⟩; have hZk : Zero2 wk (w.heap.size + 1) := (by refine Zero2.since ?_ hSk; exact hZ); have hTk : Since w wk := (by (repeat (first | with_reducible (exact Since.refl _) | with_reducible assumption | with_reducible (refine Since.drew ?_) | with_reducible (refine Since.drewN ?_ _) | with_reducible (refine Since.alloc ?_ _) | (with_reducible (refine Since.setCell ?_ ?_ _); rotate_left; focus (first | (simp; done) | (simp; omega) | omega)) | (with_reducible (refine Since.trans ?_ (by with_reducible assumption)))))); have hPk : PtAt wk w1.heap.size X Y := (by refine PtAt.since ?_ hSk; exact hP); clear hZ hT hP hSk z1 z2 z3 zF0 zF1 p1 p2 p3; have hZ := hZk; have hT := hTk; have hP := hPk; clear hZk hTk hPk; have hZZ := hZ; obtain ⟨⟨z1, z2, z3⟩, zF⟩ := hZZ; have zF0 := zF 0; have zF1 := zF 1; clear zF; have hPP := hP; obtain ⟨p1, p2, p3⟩ := hPP)))
  all_goals go_wp2
  all_goals refine bodyPost_ret (by simp only [results, Try.results43]; go_simp) rfl ⟨rfl, ?_⟩
  all_goals (repeat (first | with_reducible (exact Since.refl _) | with_reducible assumption | with_reducible (refine Since.drew ?_) | with_reducible (refine Since.drewN ?_ _) | with_reducible (refine Since.alloc ?_ _) | (with_reducible (refine Since.setCell ?_ ?_ _); rotate_left; focus (first | (simp; done) | (simp; omega) | omega)) | (with_reducible (refine Since.trans ?_ (by with_reducible assumption)))))
end Go.Proofs.Ytdbenpncnkfliaa

/-
  Layer 14: the reference's 'Piece'.
-/
namespace Go.Proofs.Ytdbenpncnkfliaa
open Go.RowKit Go.ChangeShapes Go.WideShapes Go.Deep
set_option linter.unusedVariables false

theorem addP_ne (L : List Pq) (p : Pq) : addP L p ≠ [] := by
  rw [addP_eq]
  unfold lastNe
  cases h : L.getLast? with
  | none => simp
  | some l =>
    simp only
    split
    · simp
    · intro e; rw [e] at h; simp at h
theorem ptsN_ne (s : Sg) (n k : Nat) (h : 0 < k) : ptsN s n k ≠ [] := by
  cases k with
  | zero => omega
  | succ k => exact addP_ne _ _
set_option maxRecDepth 100000 in
set_option maxHeartbeats 8000000 in
theorem rf_piece (s : Sg) (w : World) (hok : inR s = true) :
    Calls Try.prog 34 #[s.v] w fun e w' => ∃ v, e = .returned v ∧ OwnG 33 2 ptL w' w.heap.size v (ptsN s (stN s) (2 ^ stN s + 1)) ∧ Since w w' := by
  have hst := fun w => rq_steps s w
  have hn9 := stN_le s
  have hrd : ∀ (k : Nat) (hk : k ≤ 2 ^ stN s) (w : World), Calls Try.prog 43 #[s.v, .int .i64 k, .int .i64 (stN s : Int)] w fun e w' => e = .returned (.tuple #[Pt (rndP s (stN s) k).x (rndP s (stN s) k).y, .int .i64 0]) ∧ Since w w' := fun (k : Nat) (hk : k ≤ 2 ^ stN s) w => rq_round_yes s (k : Int) (stN s : Int) (atOK_in s _ k hn9 hk hok) w
  have hpw := fun w => rq_power 2 (stN s : Int) (by omega) (by omega) (by omega) (by omega) w
  have hp9 := pow_le9 hn9
  change ∀ w, Calls Try.prog 42 #[s.v] w fun e w' => e = .returned (.int .i64 (stN s : Nat)) ∧ Since w w' at hst
  have hsc : ∀ k, ptsN s (stN s) (k + 1) = if lastNe (ptsN s (stN s) k) (rndP s (stN s) k) then ptsN s (stN s) k ++ [rndP s (stN s) k] else ptsN s (stN s) k := fun k => addP_eq _ _
  have hz0 : ptsN s (stN s) 0 = [] := rfl
  have hnz := fun k => ptsN_ne s (stN s) k
  have hlen := fun k => ptsN_len s (stN s) k
  obtain ⟨n, hn⟩ : ∃ n, n = stN s := ⟨_, rfl⟩
  rw [← hn] at hst hrd hn9 hpw hp9 hsc hz0 hnz hlen ⊢
  rw [Int.toNat_natCast] at hpw
  obtain ⟨m, hm⟩ : ∃ m, m = 2 ^ n := ⟨_, rfl⟩
  have hmI : (2 : Int) ^ n = (m : Int) := by rw [hm]; simp
  rw [hmI] at hpw
  rw [← hm] at hrd hp9 ⊢
  generalize ptsN s n = PS at *
  generalize rndP s n = RP at *
  clear hn hok hm hmI
  have HST := Lib.hid hst
  have HRD := Lib.hid hrd
  have HPW := Lib.hid hpw
  have HSC := Lib.hid hsc
  have HNZ := Lib.hid hnz
  have HLN := Lib.hid hlen
  clear hst hrd hpw hsc hnz hlen
  have hO0 : ∀ w2 : World, OwnG 33 2 ptL w2 (w.heap.size + 1) (.slice none 0 0) (PS 0) := fun w2 => by rw [hz0]; exact OwnG.nil _ _ _ _ _
  have HO0 := Lib.hid hO0
  have HZ0 := Lib.hid hz0
  clear hO0 hz0
  unfold Pt at HRD
  unfold Sg.v at *
  go_enter Try.func34, Try.ntmps34
  go_upto_region 3 with (go_at_call 42; (with_reducible refine (HST.out _).mono ?_); rintro e w1 ⟨rfl, hS1⟩)
  refine wp_named fun w2 hw2 => ?_
  have hseg : w2.heap[w.heap.size]? = some (Obj.cells #[.int .i64 s.ax, .int .i64 s.ay, .int .i64 s.cx, .int .i64 s.cy, .int .i64 s.bx, .int .i64 s.bz, .bool s.k] 37 (0, 0)) := by
    subst hw2
    rw [hS1.below.block w.heap.size (by simp)]
    exact heap_alloc_new w _
  have hS2 : Since w w2 := by subst hw2; exact ((Since.refl w).alloc _).trans hS1
  have HQ := Lib.hid (Nat.le_refl w.heap.size)
  have hO2 : OwnG 33 2 ptL w2 (w.heap.size + 1) (.slice none 0 0) (PS 0) := HO0.out _
  clear hw2 hS1 HO0
  obtain ⟨q, hq⟩ : ∃ q, q = w.heap.size := ⟨_, rfl⟩
  rw [← hq] at hseg hO2 HQ ⊢
  have HQ := Lib.hid (Nat.le_of_eq hq.symm)
  clear hq
  go_wp2_with fail
  go_loopw [3, 5] (fun z y wr => ∃ k : Nat, k ≤ m + 1 ∧ y = .int .i64 (k : Int) ∧ OwnG 33 2 ptL wr (q + 1) z (PS k) ∧ Since w wr ∧ wr.heap[q]? = some (Obj.cells #[.int .i64 s.ax, .int .i64 s.ay, .int .i64 s.cx, .int .i64 s.cy, .int .i64 s.bx, .int .i64 s.bz, .bool s.k] 37 (0, 0))) (fun _ y _ => m + 1 - (intOf y).toNat)
  case atStart => exact ⟨0, by omega, rfl, hO2, hS2, hseg⟩
  case round =>
    obtain ⟨k, hk, rfl, hO, hSr, hsg⟩ := hrel
    by_cases hkm : k < m + 1
    · have hkm' : (k : Int) ≤ (m : Int) := by omega
      have hkm2 : k ≤ m := by omega
      have u1 : IntKind.i64.wrap ((k : Int) + 1) = (k : Int) + 1 := IntWalk.i64_in _ (by omega)
      have c0 : wr.cell? ⟨q, 0, none⟩ = some (.int .i64 s.ax) := by simp [World.cell?, hsg]
      have c1 : wr.cell? ⟨q, 1, none⟩ = some (.int .i64 s.ay) := by simp [World.cell?, hsg]
      have c2 : wr.cell? ⟨q, 2, none⟩ = some (.int .i64 s.cx) := by simp [World.cell?, hsg]
      have c3 : wr.cell? ⟨q, 3, none⟩ = some (.int .i64 s.cy) := by simp [World.cell?, hsg]
      have c4 : wr.cell? ⟨q, 4, none⟩ = some (.int .i64 s.bx) := by simp [World.cell?, hsg]
      have c5 : wr.cell? ⟨q, 5, none⟩ = some (.int .i64 s.bz) := by simp [World.cell?, hsg]
      have c6 : wr.cell? ⟨q, 6, none⟩ = some (.bool s.k) := by simp [World.cell?, hsg]
      have hql : q < wr.heap.size := by
        rcases Nat.lt_or_ge q wr.heap.size with h | h
        · exact h
        · rw [Array.getElem?_eq_none h] at hsg; cases hsg
      have hcr := HRD.out k hkm2
      have hsc := HSC.out k
      have hnz := HNZ.out k
      have hln := HLN.out k
      have HZ := HZ0
      generalize RP k = p at *
      obtain ⟨px, py⟩ := p
      simp only at hcr
      have HCR := Lib.hid hcr
      have HO := Lib.hid hO
      have HSR := Lib.hid hSr
      have HSG := Lib.hid hsg
      have HSC1 := Lib.hid hsc
      have HNZ1 := Lib.hid hnz
      have HLN1 := Lib.hid hln
      clear hcr hO hSr hsg hsc hnz hln hS2 hseg hO2
      go_upto_region 7 with (first | (go_at_call 56; (with_reducible refine (HPW.out _).mono ?_); rintro e w3 ⟨rfl, hS3⟩; have d0 := (hS3.1 q 0 hql).trans c0; have d1 := (hS3.1 q 1 hql).trans c1; have d2 := (hS3.1 q 2 hql).trans c2; have d3 := (hS3.1 q 3 hql).trans c3; have d4 := (hS3.1 q 4 hql).trans c4; have d5 := (hS3.1 q 5 hql).trans c5; have d6 := (hS3.1 q 6 hql).trans c6) | (go_at_call 43; (with_reducible refine (HCR.out _).mono ?_); rintro e w4 ⟨rfl, hS4⟩))
      refine wp_named fun w5 hw5 => ?_
      have hS5 : Since wr w5 := by subst hw5; exact (hS3.trans hS4).alloc _
      have hr4 : wr.heap.size ≤ w4.heap.size := by have := hS3.below.size; have := hS4.below.size; omega
      have rB : Row w5 w4.heap.size 2 (Pf px py) := by subst hw5; exact prow w4 _ rfl _ _ _
      clear hw5 hS3 hS4 d0 d1 d2 d3 d4 d5 d6 c0 c1 c2 c3 c4 c5 c6
      obtain ⟨r, hr0⟩ : ∃ r, r = w4.heap.size := ⟨_, rfl⟩
      rw [← hr0] at hr4 rB ⊢
      clear hr0
      obtain ⟨b1, b2, b3⟩ := pcells rB
      have hO5 := HO.out.since hS5
      obtain ⟨A, c, rfl, hc, hr⟩ := hO5.rd (by omega) ptL_len
      have hL9 : (PS k).length ≤ 1000 := by have := HLN1.out; omega
      obtain ⟨mm, hmm⟩ : ∃ m, m = (PS k).length := ⟨_, rfl⟩
      rw [← hmm] at hc hO5 hL9 ⊢
      have HO5 := Lib.hid hO5
      have HMM := Lib.hid hmm
      clear hO5 HO
      go_cut [34] (fun z wx => z = .bool (lastNe (PS k) ⟨px, py⟩) ∧ wx = w5.drew)
      case first =>
        rcases Nat.eq_zero_or_pos k with hk0 | hk0
        · have e0 : lastNe (PS k) ⟨px, py⟩ = true := by rw [hk0, HZ.out]; rfl
          have E0 := Lib.hid e0
          have e1 : ((k : Int) == 0) = true := by simp [hk0]
          have e2 : (k : Int) = 0 := by omega
          clear e0 hr u1 hkm' hk hkm hk0 hmm
          go_region
          all_goals (go_wp2_with fail)
          all_goals go_meet
          all_goals exact ⟨by rw [E0.out], rfl⟩
        · have hL0 := HNZ1.out hk0
          have hm : 0 < (PS k).length := List.length_pos_iff.2 hL0
          obtain ⟨l, hg⟩ : ∃ l, (PS k).getLast? = some l := ⟨_, List.getLast?_eq_some_getLast hL0⟩
          have hget : (PS k)[(PS k).length - 1]? = some l := by rw [← List.getLast?_eq_getElem?]; exact hg
          have e0 : lastNe (PS k) ⟨px, py⟩ = !(l.x == px && l.y == py) := by unfold lastNe; rw [hg]
          have E0 := Lib.hid e0
          obtain ⟨g, go', rfl, hgb, hcell⟩ := hr hm
          have l1 := hcell _ _ hget 0 (by omega)
          have l2 := hcell _ _ hget 1 (by omega)
          simp only [ptL, List.getD_cons_succ, List.getD_cons_zero, Nat.add_zero] at l1 l2
          obtain ⟨lx, ly⟩ := l
          simp only at l1 l2 E0
          rw [← hmm] at hm l1 l2
          have q1 : IntKind.i64.wrap ((mm : Int) - 1) = (mm : Int) - 1 := IntWalk.i64_in _ (by omega)
          have q2 : (0 : Int) ≤ (mm : Int) - 1 := by omega
          have q3 : ((mm : Int) - 1).toNat = mm - 1 := by omega
          have q4 : (mm : Int) - 1 < (mm : Int) := by omega
          have q5 : (1 : Int) ≤ (mm : Int) := by omega
          have q6 : ((mm : Int) == 0) = false := by simp; omega
          have q7 : ((k : Int) == 0) = false := by simp; omega
          have q8 : (k : Int) ≠ 0 := by omega
          clear e0 hcell hget hg hr hmm hL0 u1 hkm' hk hkm hk0
          by_cases e1 : px = lx
          · by_cases e2 : py = ly
            · subst e1 e2
              go_region
              all_goals (go_wp2_with fail)
              all_goals go_meet
              all_goals exact ⟨by rw [E0.out]; simp, rfl⟩
            · subst e1
              have e3 : (py == ly) = false := by simp [e2]
              have e4 : (ly == py) = false := by simp; exact fun h => e2 h.symm
              go_region
              all_goals (go_wp2_with fail)
              all_goals go_meet
              all_goals exact ⟨by rw [E0.out]; simp [e4], rfl⟩
          · have e3 : (px == lx) = false := by simp [e1]
            have e4 : (lx == px) = false := by simp; exact fun h => e1 h.symm
            go_region
            all_goals (go_wp2_with fail)
            all_goals go_meet
            all_goals exact ⟨by rw [E0.out]; simp [e4], rfl⟩
      obtain ⟨hz, hw⟩ := hcut
      subst hz hw
      have hl5 : q < w5.heap.size := hS5.2.2.1 _ hql
      have hg5 := (hS5.below.block q hql).trans HSG.out
      have HS5 := Lib.hid (HSR.out.trans hS5)
      cases hln : lastNe (PS k) ⟨px, py⟩
      · have he : PS (k + 1) = PS k := by rw [HSC1.out, hln]; rfl
        have HE := Lib.hid he
        clear he hr hmm
        go_wp2_with fail
        go_roundw
        case rel => exact ⟨k + 1, by omega, by go_num, by rw [HE.out]; exact HO5.out, HS5.out.drew, hg5⟩
        case measure => simp [intOf]; omega
      · have he : PS (k + 1) = PS k ++ [⟨px, py⟩] := by rw [HSC1.out, hln]; rfl
        have HE := Lib.hid he
        clear he hr
        obtain rfl := hmm
        go_wp2_with (at_builtin; refine wpList_append_g rfl _ _ 51 33 rfl (by omega) ptL_len ptL_one 16 Try.underlying51 infoPt (q + 1) _ (PS k) rfl (OwnG.alloc (show OwnG 33 2 ptL w5.drew (q + 1) (.slice A (PS k).length c) (PS k) from HO5.out) _) _ _ 1 [⟨px, py⟩] rfl (pt_one w5.drew _ rfl _ ⟨px, py⟩) (by simp only [List.length_cons, List.length_nil]; omega) (by simp only [List.length_cons, List.length_nil, maxLen]; omega) (by simp; omega) ?_; intro v7 w7 hO7 hg7 hb7)
        replace hg7 : (w5.drew.alloc (.cells #[.int .i64 px, .int .i64 py] 33)).grownBy w7 (Value.slice A (PS k).length c).ownBlock := hg7
        replace hb7 : ∀ q1, (Value.slice A (PS k).length c).ownBlock = some q1 → q + 1 ≤ q1 := fun q1 e => (hb7 q1 e).1
        have hseg7 : w7.heap[q]? = some (Obj.cells #[.int .i64 s.ax, .int .i64 s.ay, .int .i64 s.cx, .int .i64 s.cy, .int .i64 s.bx, .int .i64 s.bz, .bool s.k] 37 (0, 0)) :=
          ((hg7.block q (by simp; omega) (fun e => by have := hb7 _ e.symm; omega)).trans (((Since.refl w5).alloc (.cells #[.int .i64 px, .int .i64 py] 33)).below.block q hl5)).trans hg5
        have hS7 : Since w w7 := since_grown ((HS5.out.drew).alloc _) hg7 (fun k e => by have := hb7 k e; have := HQ.out; omega)
        go_roundw
        case rel => exact ⟨k + 1, by omega, by go_num, by rw [HE.out]; exact hO7, hS7, hseg7⟩
        case measure => simp [intOf]; omega
    · obtain rfl : k = m + 1 := by omega
      go_wp2_with (go_at_call 56; (with_reducible refine (HPW.out _).mono ?_); rintro e w3 ⟨rfl, hS3⟩)
      go_ret
      exact ⟨_, rfl, OwnG.lower' (hO.since hS3) (by have := HQ.out; omega), hSr.trans hS3⟩
end Go.Proofs.Ytdbenpncnkfliaa

/-
  Layer 14: the reference's 'Lines', walked.
-/
namespace Go.Proofs.Ytdbenpncnkfliaa
open Go.RowKit Go.ChangeShapes Go.WideShapes Go.Deep
set_option linter.unusedVariables false

theorem cell_alloc9 {w : World} {o : Obj} {b p : Nat} (h : b < w.heap.size) : (w.alloc o).cell? ⟨b, p, none⟩ = w.cell? ⟨b, p, none⟩ := World.cell?_alloc_lt w o ⟨b, p, none⟩ h
theorem cell_drew9 (w : World) (p : Addr) : w.drew.cell? p = w.cell? p := rfl
theorem grown_cell9 {w w7 : World} {o : Obj} {row : Option Nat} {b : Nat} (hb : b < w.heap.size) (hg : ((w.alloc o).drew).grownBy w7 row) (hr : row ≠ some b) (i : Nat) : w7.cell? ⟨b, i, none⟩ = w.cell? ⟨b, i, none⟩ := by
  have e := hg.block b (by simp; omega) (fun e => hr e.symm)
  have e2 : (w.alloc o).drew.heap[b]? = w.heap[b]? := ((Since.refl w).alloc o).below.block b hb
  simp only [World.cell?, e, e2]
theorem sgL_len7 (s : Sg) : (sgL s).length = 7 := rfl
theorem rf_segs_s (A : Option Addr) (n c : Nat) (X Y : Nat → Int) (O : Nat → Bool) (w : World) (h : RdK w w.heap.size A n X Y O) (hX : ∀ j, j < n → InP (X j) (Y j)) (hn : n ≤ 1000000) :
    Calls Try.prog 17 #[.slice A n c] w fun e w' => ∃ A' c' base, e = .returned (.slice A' (segsL n X Y O).length c') ∧ w.heap.size ≤ base ∧ OwnG 37 7 sgL w' base (.slice A' (segsL n X Y O).length c') (segsL n X Y O) ∧ Since w w' := by
  have hh : Calls Try.prog 17 #[.slice A n c] w (SegsOut w (segsL n X Y O)) := by
    rcases Nat.eq_zero_or_pos n with rfl | hn0
    · exact rf_segs_nil A c X Y O w
    · exact rf_segs_pos A n c X Y O w h hX hn0 hn
  refine hh.mono ?_
  rintro e w' ⟨v, base, rfl, hb, hO, hS⟩
  have hO' : OwnG 37 7 sgL w' base v (segsL n X Y O) := hO
  obtain ⟨A', c', rfl, hc, hr⟩ := OwnG.rd (by omega) sgL_len7 hO'
  exact ⟨A', c', base, rfl, hb, hO', hS⟩
theorem pts_pos (s : Sg) : 0 < (ptsOf s).length := List.length_pos_iff.2 (ptsN_ne _ _ _ (Nat.succ_pos _))
theorem pts_le (s : Sg) : (ptsOf s).length ≤ 513 := Nat.le_trans (ptsN_len s (stN s) (2 ^ stN s + 1)) (Nat.succ_le_succ (pow_le9 (stN_le s)).2)
theorem rf_piece_s (s : Sg) (w : World) (hok : inR s = true) :
    Calls Try.prog 34 #[s.v] w fun e w' => ∃ A c, e = .returned (.slice A (ptsOf s).length c) ∧ OwnG 33 2 ptL w' w.heap.size (.slice A (ptsOf s).length c) (ptsOf s) ∧ Since w w' := by
  refine (rf_piece s w hok).mono ?_
  rintro e w' ⟨v, rfl, hO, hS⟩
  obtain ⟨A', c', rfl, hc, hr⟩ := OwnG.rd (by omega) ptL_len hO
  exact ⟨A', c', rfl, hO, hS⟩
theorem lns_take {P : List Pq} {J : Nat} {p q : Pq} (hp : P[J]? = some p) (hq : P[J + 1]? = some q) : lnsP (P.take (J + 2)) = lnsP (P.take (J + 1)) ++ [⟨p.x, p.y, q.x, q.y⟩] := by
  have hj : J + 1 < P.length := by
    rcases Nat.lt_or_ge (J + 1) P.length with h | h
    · exact h
    · rw [List.getElem?_eq_none h] at hq; cases hq
  have e1 : P[J + 1] = q := by rw [List.getElem?_eq_getElem hj] at hq; simpa using hq
  have e2 : P[J]'(by omega) = p := by rw [List.getElem?_eq_getElem (by omega)] at hp; simpa using hp
  rw [List.take_succ_eq_append_getElem hj, e1]
  refine lnsP_snoc _ p q ?_
  rw [List.take_succ_eq_append_getElem (by omega), e2]
  simp
theorem lns_one (P : List Pq) : lnsP (P.take 1) = [] := by
  match P with
  | [] => rfl
  | a :: r => rfl
theorem lns_len : ∀ P : List Pq, (lnsP P).length ≤ P.length
  | [] => by simp [lnsP]
  | [a] => by simp [lnsP]
  | a :: b :: r => by
    have := lns_len (b :: r)
    simp only [lnsP, List.length_cons] at this ⊢
    omega
theorem allL_take {SS : List Sg} {k : Nat} {s : Sg} (hs : SS[k]? = some s) : allL (SS.take (k + 1)) = allL (SS.take k) ++ lnsP (ptsOf s) := by
  have hk : k < SS.length := by
    rcases Nat.lt_or_ge k SS.length with h | h
    · exact h
    · rw [List.getElem?_eq_none h] at hs; cases hs
  have e1 : SS[k] = s := by rw [List.getElem?_eq_getElem hk] at hs; simpa using hs
  rw [List.take_succ_eq_append_getElem hk, e1, allL_append]
  simp [allL]
theorem allL_take_le (SS : List Sg) (k : Nat) : (allL (SS.take k)).length ≤ (allL SS).length := by
  have e : allL SS = allL (SS.take k) ++ allL (SS.drop k) := by rw [← allL_append, List.take_append_drop]
  rw [e, List.length_append]
  omega
theorem two_mem_pt (w : World) (b : Nat) (hb : b = w.heap.size) (ty : TypeId) (p : Lq) : RdG 4 lnL (w.alloc (.cells #[.int .i64 p.ax, .int .i64 p.ay, .int .i64 p.bx, .int .i64 p.bz] ty)) (w.alloc (.cells #[.int .i64 p.ax, .int .i64 p.ay, .int .i64 p.bx, .int .i64 p.bz] ty)).heap.size (some ⟨b, 0, none⟩) [p] := ln_one w b hb ty p
set_option maxRecDepth 100000 in
set_option maxHeartbeats 16000000 in
theorem rf_lines (A : Option Addr) (c : Nat) (LL : List (List Kt)) (w : World) (h : RdOL w w.heap.size A LL) (hn : LL.length ≤ 600) (hm : ∀ L, L ∈ LL → L.length ≤ 5000) (hin : ∀ L, L ∈ LL → ∀ k, k ∈ L → InP k.x k.y) :
    Calls Try.prog 36 #[.slice A LL.length c] w (LinesOut w LL) := by
  have hkn := fun w (h : RdOL w w.heap.size A LL) => rf_knots A c LL w h hn hm
  unfold KnotsOut at hkn
  obtain ⟨N, hN⟩ : ∃ N, N = LL.length := ⟨_, rfl⟩
  rw [← hN] at hn hkn ⊢
  have HN := Lib.hid hN
  have HM := Lib.hid hm
  have HIN := Lib.hid hin
  have HKN := Lib.hid hkn
  have HO := Lib.hid h
  clear hN hm hin hkn h
  obtain ⟨S, hS0⟩ : ∃ S, S = sumL LL := ⟨_, rfl⟩
  rw [← hS0] at HKN
  have HS0 := Lib.hid hS0
  clear hS0
  by_cases hsum : 4096 < S
  · have hE : linesE LL = 7 := linesE_full (by rw [← HS0.out]; exact hsum)
    have hL := linesL_no (LL := LL) (by rw [hE]; decide)
    have HE := Lib.hid hE
    have HL := Lib.hid hL
    have hd : decide ((4096 : Int) < (S : Int)) = true := by simp; omega
    clear hE hL
    go_enter Try.func36, Try.ntmps36
    go_wp2_with (go_at_call 26; (with_reducible refine (HKN.out _ HO.out).mono ?_); rintro e w1 ⟨rfl, hS1⟩)
    refine bodyPost_ret (results_tmp2 rfl _ _ _) rfl ?_
    exact ⟨_, by rw [HE.out]; rfl, by rw [HL.out]; exact OwnG.nil _ _ _ _ _, hS1⟩
  · have hd : decide ((4096 : Int) < (S : Int)) = false := by simp; omega
    go_enter Try.func36, Try.ntmps36
    have HSUM := Lib.hid hsum
    clear hsum
    go_wp2_with (go_at_call 26; (with_reducible refine (HKN.out _ HO.out).mono ?_); rintro e w1 ⟨rfl, hS1⟩)
    clear HKN
    go_loopw [20] (fun y wr => ∃ j : Nat, j ≤ N ∧ y = .int .i64 (j : Int) ∧ Since w wr ∧ ∀ (i : Nat) (L : List Kt), i < j → LL[i]? = some L → goodK L = true) (fun y _ => N - (intOf y).toNat)
    case atStart => exact ⟨0, by omega, rfl, hS1, fun i L hi => by omega⟩
    case round =>
      obtain ⟨j, hj, rfl, hS, hA⟩ := hrel
      have HA := Lib.hid hA
      clear hA hS1
      by_cases hjn : j < N
      · have hjn' : (j : Int) < N := by omega
        have hjL : j < LL.length := by rw [← HN.out]; exact hjn
        have hL : LL[j]? = some LL[j] := List.getElem?_eq_getElem hjL
        have hml := HM.out _ (List.mem_of_getElem? hL)
        have hil := HIN.out _ (List.mem_of_getElem? hL)
        generalize LL[j] = L at *
        obtain ⟨b, o, A', c', rfl, hb, hcell, hK⟩ := HO.out.row hL
        have c1 := (hS.1 _ _ hb).trans hcell
        obtain ⟨n, hnl⟩ : ∃ n, n = L.length := ⟨_, rfl⟩
        rw [← hnl] at hml c1
        have HNL := Lib.hid hnl
        have HLJ := Lib.hid hL
        have HK := Lib.hid hK
        have HIL := Lib.hid hil
        clear hL hcell hjL hnl hK hil
        go_wp2_with fail
        go_loopw [26] (fun y wi => ∃ k : Nat, k ≤ n ∧ y = .int .i64 (k : Int) ∧ Since w wi ∧ ∀ (i : Nat) (x : Kt), i < k → L[i]? = some x → goodB x.x x.y = true) (fun y _ => n - (intOf y).toNat)
        case atStart => exact ⟨0, by omega, rfl, hS, fun i x hi => by omega⟩
        case round =>
          obtain ⟨k, hk, rfl, hSi, hB⟩ := hrel
          have HB := Lib.hid hB
          clear hB hS
          by_cases hkn : k < n
          · have hkn' : (k : Int) < n := by omega
            have hkL : k < L.length := by rw [← HNL.out]; exact hkn
            have hx : L[k]? = some L[k] := List.getElem?_eq_getElem hkL
            have hxi := HIL.out _ (List.mem_of_getElem? hx)
            generalize L[k] = x at *
            obtain ⟨bk, ok, rfl, hbk, hck⟩ := HK.out (by omega)
            have d1 := (hSi.1 _ _ hbk).trans (hck k _ hx 0 (by omega))
            have d2 := (hSi.1 _ _ hbk).trans (hck k _ hx 1 (by omega))
            have d3 := (hSi.1 _ _ hbk).trans (hck k _ hx 2 (by omega))
            simp only [knL, List.getD_cons_succ, List.getD_cons_zero, Nat.add_zero] at d1 d2 d3
            have HX := Lib.hid hx
            have hg := fun w => rf_good x.x x.y w
            unfold Pt at hg
            have HG := Lib.hid hg
            clear hx hxi hg hck hkL
            cases hgb : goodB x.x x.y with
            | false =>
              rw [hgb] at HG
              have hE : linesE LL = 6 := linesE_bad (by rw [← HS0.out]; exact HSUM.out) (all_bad HLJ.out HX.out hgb)
              have hL := linesL_no (LL := LL) (by rw [hE]; decide)
              have HE := Lib.hid hE
              have HL := Lib.hid hL
              clear hE hL hgb
              go_wp2_with (go_at_call 55; (with_reducible refine (HG.out _).mono ?_); rintro e w2 ⟨rfl, hS2⟩)
              refine bodyPost_ret (results_tmp2 rfl _ _ _) rfl ?_
              exact ⟨_, by rw [HE.out]; rfl, by rw [HL.out]; exact OwnG.nil _ _ _ _ _, by (repeat (first | with_reducible (exact Since.refl _) | with_reducible assumption | with_reducible (refine Since.drew ?_) | with_reducible (refine Since.drewN ?_ _) | with_reducible (refine Since.alloc ?_ _) | (with_reducible (refine Since.setCell ?_ ?_ _); rotate_left; focus (first | (simp; done) | (simp; omega) | omega)) | (with_reducible (refine Since.trans ?_ (by with_reducible assumption)))))⟩
            | true =>
              rw [hgb] at HG
              have hB2 : ∀ (i : Nat) (y : Kt), i < k + 1 → L[i]? = some y → goodB y.x y.y = true := fun i y hi hy => by
                by_cases e : i = k
                · subst e
                  rw [HX.out] at hy
                  injection hy with hy
                  rw [← hy]
                  exact hgb
                · exact HB.out i y (by omega) hy
              have HB2 := Lib.hid hB2
              have u1 : IntKind.i64.wrap ((k : Int) + 1) = (k : Int) + 1 := IntWalk.i64_in _ (by omega)
              clear hB2 hgb c1
              go_wp2_with (go_at_call 55; (with_reducible refine (HG.out _).mono ?_); rintro e w2 ⟨rfl, hS2⟩)
              go_roundw
              case rel => exact ⟨k + 1, by omega, by go_num, by (repeat (first | with_reducible (exact Since.refl _) | with_reducible assumption | with_reducible (refine Since.drew ?_) | with_reducible (refine Since.drewN ?_ _) | with_reducible (refine Since.alloc ?_ _) | (with_reducible (refine Since.setCell ?_ ?_ _); rotate_left; focus (first | (simp; done) | (simp; omega) | omega)) | (with_reducible (refine Since.trans ?_ (by with_reducible assumption))))), HB2.out⟩
              case measure => simp [intOf]; omega
          · obtain rfl : k = n := by omega
            have hgk : goodK L = true := goodK_all fun i x hx => HB.out i x (by
              rw [HNL.out]
              rcases Nat.lt_or_ge i L.length with h | h
              · exact h
              · rw [List.getElem?_eq_none h] at hx; cases hx) hx
            have hA2 : ∀ (i : Nat) (M : List Kt), i < j + 1 → LL[i]? = some M → goodK M = true := fun i M hi hM => by
              by_cases e : i = j
              · subst e
                rw [HLJ.out] at hM
                injection hM with hM
                rw [← hM]
                exact hgk
              · exact HA.out i M (by omega) hM
            have HA2 := Lib.hid hA2
            have u1 : IntKind.i64.wrap ((j : Int) + 1) = (j : Int) + 1 := IntWalk.i64_in _ (by omega)
            clear hA2 hgk c1
            go_wp2_with fail
            go_roundw
            case rel => exact ⟨j + 1, by omega, by go_num, hSi, HA2.out⟩
            case measure => simp [intOf]; omega
      · obtain rfl : j = N := by omega
        have hga : LL.all goodK = true := all_good fun i L hi => HA.out i L (by
          rw [HN.out]
          rcases Nat.lt_or_ge i LL.length with h | h
          · exact h
          · rw [List.getElem?_eq_none h] at hi; cases hi) hi
        have HGA := Lib.hid hga
        clear hga HA
        go_wp2_with fail
        go_loopw [8, 41] (fun v y wr => ∃ i : Nat, i ≤ j ∧ y = .int .i64 (i : Int) ∧ OwnG 67 4 lnL wr w.heap.size v (allL (sgsO (LL.take i))) ∧ (allL (sgsO (LL.take i))).length ≤ 4096 ∧ Since w wr) (fun _ y _ => j - (intOf y).toNat)
        case atStart => exact ⟨0, by omega, rfl, OwnG.nil _ _ _ _ _, by simp [sgsO, allL], hS⟩
        case round =>
          obtain ⟨i, hi, rfl, hOl, hlen, hSr⟩ := hrel
          by_cases hij : i < j
          · have hij' : (i : Int) < j := by omega
            have hiL : i < LL.length := by rw [← HN.out]; exact hij
            have hL : LL[i]? = some LL[i] := List.getElem?_eq_getElem hiL
            have hml := HM.out _ (List.mem_of_getElem? hL)
            have hil := HIN.out _ (List.mem_of_getElem? hL)
            have hgl := List.all_eq_true.1 HGA.out _ (List.mem_of_getElem? hL)
            have htk := sgsO_take hL
            have hal := all_take_le LL (i + 1)
            generalize LL[i] = L at *
            obtain ⟨b, o, A', c', rfl, hb, hcell, hK⟩ := HO.out.row hL
            have c1 := (hSr.1 _ _ hb).trans hcell
            have hin := fun s hs => (sgs_in hgl s hs).1
            have hsl := sgs_len L
            have hsg := rf_segs_s A' L.length c' _ _ _ wr (RdKl.fn ((hK.keep fun b o hb => hSr.1 b o hb).more hSr.below.size)) (fn_in hil) (by omega)
            change Calls Try.prog 17 #[.slice A' L.length c'] wr (fun e w' => ∃ A2 c2 base, e = .returned (.slice A2 (sgsK L).length c2) ∧ wr.heap.size ≤ base ∧ OwnG 37 7 sgL w' base (.slice A2 (sgsK L).length c2) (sgsK L) ∧ Since wr w') at hsg
            rw [htk, allL_append] at hal
            have hnew : allL (sgsO (LL.take (i + 1))) = allL (sgsO (LL.take i)) ++ allL (sgsK L) := by rw [htk, allL_append]
            have HNEW := Lib.hid hnew
            have HIS := Lib.hid hin
            have HAL := Lib.hid hal
            clear hin hil hgl hcell hK hL hiL htk hnew hal
            obtain ⟨n, hnl⟩ : ∃ n, n = L.length := ⟨_, rfl⟩
            rw [← hnl] at hsg c1 hsl hml
            clear hnl
            generalize sgsK L = SS at *
            generalize allL (sgsO (LL.take i)) = P at *
            obtain ⟨q, hq⟩ : ∃ q, q = SS.length := ⟨_, rfl⟩
            rw [← hq] at hsg hsl
            have HQ := Lib.hid hq
            have HSG := Lib.hid hsg
            have u1 : IntKind.i64.wrap ((i : Int) + 1) = (i : Int) + 1 := IntWalk.i64_in _ (by omega)
            clear hq hsg
            go_wp2_with (go_at_call 17; (with_reducible refine HSG.out.mono ?_); rintro e w5 ⟨A2, c2, bS, rfl, hbS, hO5, hS5⟩)
            have hOl5 := hOl.since hS5
            have hS55 := hSr.trans hS5
            clear hOl hS5 HSG c1
            go_loopw [8, 48] (fun v y wk => ∃ k : Nat, k ≤ q ∧ y = .int .i64 (k : Int) ∧ OwnG 67 4 lnL wk w.heap.size v (P ++ allL (SS.take k)) ∧ (P ++ allL (SS.take k)).length ≤ 4096 ∧ OwnG 37 7 sgL wk bS (.slice A2 q c2) SS ∧ Since w wk) (fun _ y _ => q - (intOf y).toNat)
            case atStart => exact ⟨0, by omega, rfl, by simpa [allL] using hOl5, by simpa [allL] using hlen, hO5, hS55⟩
            case round =>
              obtain ⟨k, hk, rfl, hOk, hlk, hOS, hSk⟩ := hrel
              clear hOl5 hO5 hS55
              by_cases hkq : k < q
              · have hkq' : (k : Int) < q := by omega
                have hkS : k < SS.length := by rw [← HQ.out]; exact hkq
                have hs : SS[k]? = some SS[k] := List.getElem?_eq_getElem hkS
                have hsi := HIS.out _ (List.mem_of_getElem? hs)
                generalize SS[k] = s at *
                obtain ⟨A3, c3, e3, hc3, hr3⟩ := OwnG.rd (by omega) sgL_len7 hOS
                injection e3 with e3 e4 e5
                subst e3
                obtain ⟨bq, oq, rfl, hbq, hcq⟩ := hr3 (by omega)
                have d0 := hcq k s hs 0 (by omega)
                have d1 := hcq k s hs 1 (by omega)
                have d2 := hcq k s hs 2 (by omega)
                have d3 := hcq k s hs 3 (by omega)
                have d4 := hcq k s hs 4 (by omega)
                have d5 := hcq k s hs 5 (by omega)
                have d6 := hcq k s hs 6 (by omega)
                simp only [sgL, List.getD_cons_succ, List.getD_cons_zero, Nat.add_zero] at d0 d1 d2 d3 d4 d5 d6
                have htk2 := allL_take hs
                have hle2 := allL_take_le SS (k + 1)
                have hpp := pts_pos s
                have hpl := pts_le s
                have hpc := fun w => rf_piece_s s w hsi
                unfold Sg.v at hpc
                have HPC := Lib.hid hpc
                have HTK := Lib.hid htk2
                have HLE := Lib.hid hle2
                have HHS := Lib.hid hs
                obtain ⟨PK, hPK⟩ : ∃ PK, PK = P ++ allL (SS.take k) := ⟨_, rfl⟩
                have hpk : P ++ allL (SS.take (k + 1)) = PK ++ lnsP (ptsOf s) := by rw [hPK, htk2, List.append_assoc]
                rw [← hPK] at hOk hlk
                have HPK := Lib.hid hpk
                clear hpk hPK
                obtain ⟨AK, cK, rfl, hcK, hrK⟩ := OwnG.rd (by omega) lnL_len hOk
                have HOS := Lib.hid hOS
                have HOK := Lib.hid hOk
                clear hrK hOS hOk
                clear htk2 hpc hs hkS hsi hcq hr3 e4 e5 hc3 hle2
                go_wp2_with (go_at_call 34; (with_reducible refine (HPC.out _).mono ?_); rintro e w6 ⟨A6, c6, rfl, hO6, hS6⟩)
                have hT6 : Since wr w6 := ((Since.refl wr).alloc _).trans hS6
                have hOS6 := HOS.out.since hT6
                have hOK6 := HOK.out.since hT6
                have hS6w := hSk.trans hT6
                clear HTK HOS HOK HPC hS6 d0 d1 d2 d3 d4 d5 d6
                generalize (wr.alloc _).heap.size = bP at hO6
                have hll := lns_len (ptsOf s)
                generalize ptsOf s = PT at *
                obtain ⟨np, hnp⟩ : ∃ np, np = PT.length := ⟨_, rfl⟩
                rw [← hnp] at hO6 hpp hpl hll ⊢
                have HNP := Lib.hid hnp
                clear hnp
                go_loopw [8, 14] (fun v y wz => ∃ J : Nat, J + 1 ≤ np ∧ y = .int .i64 ((J : Int) + 1) ∧ OwnG 67 4 lnL wz w.heap.size v (PK ++ lnsP (PT.take (J + 1))) ∧ OwnG 37 7 sgL wz bS (.slice (some ⟨bq, oq, none⟩) q c2) SS ∧ OwnG 33 2 ptL wz bP (.slice A6 np c6) PT ∧ Since w wz) (fun _ y _ => np - (intOf y).toNat)
                case atStart => exact ⟨0, by omega, by simp, by rw [lns_one, List.append_nil]; exact hOK6, hOS6, hO6, hS6w⟩
                case round =>
                  obtain ⟨J, hJ, rfl, hOJ, hOSJ, hOPJ, hSJ⟩ := hrel
                  clear hOK6 hOS6 hO6 hS6w hT6
                  have hlJ : (lnsP (PT.take (J + 1))).length ≤ 513 := by
                    have := lns_len (PT.take (J + 1))
                    rw [List.length_take] at this
                    omega
                  obtain ⟨PJ, hPJ⟩ : ∃ PJ, PJ = PK ++ lnsP (PT.take (J + 1)) := ⟨_, rfl⟩
                  have hPJl : PJ.length ≤ 5000 := by rw [hPJ, List.length_append]; omega
                  rw [← hPJ] at hOJ
                  have HPJ := Lib.hid hPJ
                  clear hPJ hlJ
                  obtain ⟨AJ, cJ, rfl, hcJ, hrJ⟩ := OwnG.rd (by omega) lnL_len hOJ
                  by_cases hJn : J + 1 < np
                  · have hJn' : (J : Int) + 1 < (np : Int) := by omega
                    have hp : PT[J]? = some (PT[J]'(by rw [← HNP.out]; omega)) := List.getElem?_eq_getElem _
                    have hq2 : PT[J + 1]? = some (PT[J + 1]'(by rw [← HNP.out]; omega)) := List.getElem?_eq_getElem _
                    have hlt := lns_take hp hq2
                    generalize PT[J]'(by rw [← HNP.out]; omega) = p at *
                    generalize PT[J + 1]'(by rw [← HNP.out]; omega) = p' at *
                    obtain ⟨A7, c7, e7, hc7, hr7⟩ := OwnG.rd (by omega) ptL_len hOPJ
                    injection e7 with e7 e8 e9
                    subst e7
                    obtain ⟨bp, op, rfl, hbp, hcp⟩ := hr7 (by omega)
                    have x0 := hcp J p hp 0 (by omega)
                    have x1 := hcp J p hp 1 (by omega)
                    have x2 := hcp (J + 1) p' hq2 0 (by omega)
                    have x3 := hcp (J + 1) p' hq2 1 (by omega)
                    simp only [ptL, List.getD_cons_succ, List.getD_cons_zero, Nat.add_zero] at x0 x1 x2 x3
                    have hpj2 : PK ++ lnsP (PT.take (J + 1 + 1)) = PJ ++ [⟨p.x, p.y, p'.x, p'.y⟩] := by rw [HPJ.out, List.append_assoc, ← hlt]
                    have HLT := Lib.hid hpj2
                    have HOJ := Lib.hid hOJ
                    have HOSJ := Lib.hid hOSJ
                    have HOPJ := Lib.hid hOPJ
                    clear hp hq2 hlt hcp hr7 hc7 e8 e9 hrJ hOJ hOSJ hOPJ hpj2
                    have z0 : IntKind.i64.wrap ((J : Int) + 1 - 1) = (J : Int) := by rw [Int.add_sub_cancel]; exact IntWalk.i64_in _ (by omega)
                    have z1 : ((J : Int) + 1).toNat = J + 1 := by omega
                    have z2 : (0 : Int) ≤ (J : Int) + 1 := by omega
                    have z3 : (J : Int) < (np : Int) := by omega
                    have z4 : IntKind.i64.wrap ((J : Int) + 1 + 1) = (J : Int) + 1 + 1 := IntWalk.i64_in _ (by omega)
                    go_upto_region 24 with fail
                    have z5 : IntKind.i64.wrap (J : Int) = (J : Int) := IntWalk.i64_in _ (by omega)
                    have z6 : (0 : Int) ≤ (J : Int) := by omega
                    go_region_held3 (fun w' => w'.cell? ⟨bp, op + J * 2, none⟩ = some (.int .i64 p.x) ∧ w'.cell? ⟨bp, op + J * 2 + 1, none⟩ = some (.int .i64 p.y) ∧ w'.cell? ⟨bp, op + (J + 1) * 2, none⟩ = some (.int .i64 p'.x) ∧ w'.cell? ⟨bp, op + (J + 1) * 2 + 1, none⟩ = some (.int .i64 p'.y)) ((refine ⟨?_, ?_, ?_, ?_⟩ <;> (first | with_reducible assumption | ((repeat (first | rw [cell_drew9] | (rw [cell_alloc9]; rotate_left; focus (first | with_reducible assumption | (simp; done) | (simp; omega))))); with_reducible assumption)))) ((rw [if_pos (by rfl)]; refine oper_append_g (.tmp 60) (.tmp 71) 57 67 (by rfl) (by omega) lnL_len lnL_one 32 Try.underlying57 infoLn w.heap.size _ PJ (by rfl) (show OwnG 67 4 lnL (wr.alloc _) _ _ _ from OwnG.alloc HOJ.out _) _ _ 1 _ [⟨p.x, p.y, p'.x, p'.y⟩] rfl (by rfl) (show RdG 4 lnL (wr.alloc _) _ _ _ from ln_one wr _ rfl _ ⟨p.x, p.y, p'.x, p'.y⟩) ?_ ?_ ?_ ?_; (focus (simp only [List.length_cons, List.length_nil]; omega)); (focus (simp only [List.length_cons, List.length_nil, maxLen]; omega)); (focus (have := hSJ.below.size; simp; omega)); intro v7 w7 hO7 hg7 hb7; have kb := own_apart HOPJ.out HOJ.out (by decide) (q := bp) rfl; have k0 := (grown_cell9 hbp hg7 kb (op + J * 2)).trans x0; have k1 := (grown_cell9 hbp hg7 kb (op + J * 2 + 1)).trans x1; have k2 := (grown_cell9 hbp hg7 kb (op + (J + 1) * 2)).trans x2; have k3 := (grown_cell9 hbp hg7 kb (op + (J + 1) * 2 + 1)).trans x3; have HS7 := Lib.hid (OwnG.grown (show OwnG 37 7 sgL (wr.alloc _).drew _ _ _ from HOSJ.out.alloc _) hg7 (fun q hq e => own_apart HOSJ.out HOJ.out (by decide) hq e)); have HP7 := Lib.hid (OwnG.grown (show OwnG 33 2 ptL (wr.alloc _).drew _ _ _ from HOPJ.out.alloc _) hg7 (fun q hq e => own_apart HOPJ.out HOJ.out (by decide) hq e)); have HT7 := Lib.hid (since_grown ((hSJ.alloc _).drew) hg7 (fun q hq => (hb7 q hq).1)); have HL7 := Lib.hid hO7; clear x0 x1 x2 x3 hO7 hg7 hb7 kb; have x0 := k0; have x1 := k1; have x2 := k2; have x3 := k3; clear k0 k1 k2 k3))
                    all_goals (go_wp2_with fail)
                    all_goals go_roundw
                    case rel => exact ⟨J + 1, by omega, by first | rfl | go_num, by rw [HLT.out]; exact HL7.out, HS7.out, HP7.out, HT7.out⟩
                    case measure => simp [intOf]; omega
                  · have hJe : J + 1 = np := by omega
                    have htk9 : PT.take (J + 1) = PT := by rw [hJe, HNP.out]; exact List.take_length
                    have hPJe : P ++ allL (SS.take (k + 1)) = PJ := by rw [HPK.out, HPJ.out, htk9]
                    have HPE := Lib.hid hPJe
                    have HOJ := Lib.hid hOJ
                    have hJI : (J : Int) + 1 = (np : Int) := by omega
                    have HSX := Lib.hid hSJ
                    have HOSX := Lib.hid hOSJ
                    have z4 : IntKind.i64.wrap ((k : Int) + 1) = (k : Int) + 1 := IntWalk.i64_in _ (by omega)
                    rw [hJI]
                    clear htk9 hPJe hOJ hrJ hSJ hOSJ hOPJ hJn hJe hJI HPK HPJ HNP
                    by_cases hbig : 4096 < PJ.length
                    · have hd2 : decide ((4096 : Int) < (PJ.length : Int)) = true := by simp; omega
                      have hmany : linesE LL = 7 := by
                        refine linesE_many (by rw [← HS0.out]; exact HSUM.out) HGA.out ?_
                        have h1 := HAL.out
                        have h2 := HLE.out
                        rw [← HPE.out] at hbig
                        rw [List.length_append] at h1 hbig
                        omega
                      have hL0 := linesL_no (LL := LL) (by rw [hmany]; decide)
                      have HE := Lib.hid hmany
                      have HL := Lib.hid hL0
                      clear hmany hL0
                      go_wp2_with fail
                      refine bodyPost_ret (results_tmp2 rfl _ _ _) rfl ?_
                      exact ⟨_, by rw [HE.out]; rfl, by rw [HL.out]; exact OwnG.nil _ _ _ _ _, HSX.out⟩
                    · have hd2 : decide ((4096 : Int) < (PJ.length : Int)) = false := by simp; omega
                      have HBIG := Lib.hid hbig
                      clear hbig
                      go_wp2_with fail
                      go_roundw
                      case rel => exact ⟨k + 1, by omega, by go_num, by rw [HPE.out]; exact HOJ.out, by rw [HPE.out]; have := HBIG.out; omega, HOSX.out, HSX.out⟩
                      case measure => simp [intOf]; omega
              · obtain rfl : k = q := by omega
                have htk9 : SS.take k = SS := by rw [HQ.out]; exact List.take_length
                rw [htk9] at hOk hlk
                rw [← HNEW.out] at hOk hlk
                have HOK := Lib.hid hOk
                have HLK := Lib.hid hlk
                have HSX := Lib.hid hSk
                obtain ⟨AK, cK, rfl, hcK, hrK⟩ := OwnG.rd (by omega) lnL_len hOk
                clear htk9 hOk hlk hSk hrK hOS
                go_wp2_with fail
                go_roundw
                case rel => exact ⟨i + 1, by omega, by go_num, HOK.out, HLK.out, HSX.out⟩
                case measure => simp [intOf]; omega
          · obtain rfl : i = j := by omega
            have e : LL.take i = LL := by rw [HN.out]; exact List.take_length
            rw [e] at hOl hlen
            have hok : linesE LL = 0 := linesE_ok (by rw [← HS0.out]; exact HSUM.out) HGA.out (by omega)
            have hL0 := linesL_ok hok
            rw [← hL0] at hOl
            have HE := Lib.hid hok
            clear hok hL0 hlen e
            obtain ⟨AP, cP, rfl, hcP, hrP⟩ := OwnG.rd (by omega) lnL_len hOl
            have HOL := Lib.hid hOl
            clear hrP hOl
            go_wp2_with fail
            refine bodyPost_ret (results_tmp2 rfl _ _ _) rfl ?_
            exact ⟨_, by rw [HE.out]; rfl, HOL.out, hSr⟩
end Go.Proofs.Ytdbenpncnkfliaa
