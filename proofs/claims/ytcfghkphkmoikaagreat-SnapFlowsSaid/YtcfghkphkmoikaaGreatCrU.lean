/-
  Layer 15: 'Meet', walked.
-/
import Derived.Test.YtcfghkphkmoikaaGreatMqT
namespace Go.Proofs.YtcfghkphkmoikaaGreat
set_option maxRecDepth 100000
open Go.RowKit Go.Maps
set_option linter.unusedVariables false

theorem cr_touching (s t : Ln) (hs : lnG s = true) (ht : lnG t = true) (w : World) :
    Calls Tryz.prog 99 #[s.v, t.v] w fun e w' => e = .returned (touchOf (ends s t)).v ∧ Since w w' := by
  have k1 := Bool.and_eq_true_iff.1 hs
  have k2 := Bool.and_eq_true_iff.1 ht
  have q1 := goodB_iff.1 k1.1; have q2 := goodB_iff.1 k1.2; have q3 := goodB_iff.1 k2.1; have q4 := goodB_iff.1 k2.2
  have i1 : InP s.ax s.ay := by unfold InP In64; omega
  have i2 : InP s.bx s.bz := by unfold InP In64; omega
  have i3 : InP t.ax t.ay := by unfold InP In64; omega
  have i4 : InP t.bx t.bz := by unfold InP In64; omega
  exact cr_touching_x s.ax s.ay s.bx s.bz t.ax t.ay t.bx t.bz _ _ _ _ k1.1 k1.2 k2.1 k2.2 (fun w => cr_on _ _ t i1 ⟨i3, i4⟩ w) (fun w => cr_on _ _ t i2 ⟨i3, i4⟩ w) (fun w => cr_on _ _ s i3 ⟨i1, i2⟩ w) (fun w => cr_on _ _ s i4 ⟨i1, i2⟩ w) _ (by rw [ends_pts]) w
def four (a b c d : Int) (j : Nat) : Int := if j = 0 then a else if j = 1 then b else if j = 2 then c else d
theorem rdp_four (w : World) (b : Nat) (hb : b = w.heap.size) (x y u v p q m n : Int) (t : TypeId) : RdP (w.alloc (.cells #[.int .i64 x, .int .i64 y, .int .i64 u, .int .i64 v, .int .i64 p, .int .i64 q, .int .i64 m, .int .i64 n] t)) (w.alloc (.cells #[.int .i64 x, .int .i64 y, .int .i64 u, .int .i64 v, .int .i64 p, .int .i64 q, .int .i64 m, .int .i64 n] t)).heap.size (some ⟨b, 0, none⟩) 4 (four x u p m) (four y v q n) := fun _ => by
  subst hb
  refine ⟨w.heap.size, 0, rfl, by simp, fun j hj => ?_⟩
  have h : j = 0 ∨ j = 1 ∨ j = 2 ∨ j = 3 := by omega
  rcases h with rfl | rfl | rfl | rfl <;> exact ⟨by rw [World.cell?_alloc_new]; rfl, by rw [World.cell?_alloc_new]; rfl⟩
theorem good4 (w : World) (b : Nat) (hb : b = w.heap.size) (x y u v p q m n : Int) (t : TypeId) (h : InP x y) (h' : InP u v) (h'' : InP p q) (h3 : InP m n) : Calls Tryz.prog 61 #[.slice (some ⟨b, 0, none⟩) 4 4] (w.alloc (.cells #[.int .i64 x, .int .i64 y, .int .i64 u, .int .i64 v, .int .i64 p, .int .i64 q, .int .i64 m, .int .i64 n] t)) fun e w' => e = .returned (.bool ((goodB x y && goodB u v) && (goodB p q && goodB m n))) ∧ Since (w.alloc (.cells #[.int .i64 x, .int .i64 y, .int .i64 u, .int .i64 v, .int .i64 p, .int .i64 q, .int .i64 m, .int .i64 n] t)) w' := by
  have h := ga_good _ 4 4 _ _ _ (rdp_four w b hb x y u v p q m n t) (fun j hj => by unfold four; split; exact h; split; exact h'; split; exact h''; exact h3) (by decide)
  simpa [allG, four, Bool.and_assoc] using h
set_option maxRecDepth 100000 in
set_option maxHeartbeats 16000000 in
theorem meet_of (s t : Ln) (g a1 a2 : Bool) (vx vy ux uy c : Int) (X T R : Cp) (w : World)
    (hG : ∀ (w : World) (b : Nat), b = w.heap.size → ∀ ty, Calls Tryz.prog 61 #[.slice (some ⟨b, 0, none⟩) 4 4] (w.alloc (.cells #[.int .i64 s.ax, .int .i64 s.ay, .int .i64 s.bx, .int .i64 s.bz, .int .i64 t.ax, .int .i64 t.ay, .int .i64 t.bx, .int .i64 t.bz] ty)) fun e w' => e = .returned (.bool g) ∧ Since (w.alloc (.cells #[.int .i64 s.ax, .int .i64 s.ay, .int .i64 s.bx, .int .i64 s.bz, .int .i64 t.ax, .int .i64 t.ay, .int .i64 t.bx, .int .i64 t.bz] ty)) w')
    (hA1 : ∀ w, Calls Tryz.prog 95 #[.int .i64 s.ax, .int .i64 s.bx, .int .i64 t.ax, .int .i64 t.bx] w fun e w' => e = .returned (.bool a1) ∧ Since w w')
    (hA2 : ∀ w, Calls Tryz.prog 95 #[.int .i64 s.ay, .int .i64 s.bz, .int .i64 t.ay, .int .i64 t.bz] w fun e w' => e = .returned (.bool a2) ∧ Since w w')
    (hV1 : ∀ w, g = true → Calls Tryz.prog 97 #[Pt s.ax s.ay, Pt s.bx s.bz] w fun e w' => e = .returned (Pt vx vy) ∧ Since w w')
    (hV2 : ∀ w, g = true → Calls Tryz.prog 97 #[Pt t.ax t.ay, Pt t.bx t.bz] w fun e w' => e = .returned (Pt ux uy) ∧ Since w w')
    (hP : ∀ w, g = true → Calls Tryz.prog 96 #[Pt vx vy, Pt ux uy] w fun e w' => e = .returned (.int .i64 c) ∧ Since w w')
    (hX : ∀ w, g = true → c ≠ 0 → Calls Tryz.prog 98 #[s.v, t.v, .int .i64 c] w fun e w' => e = .returned X.v ∧ Since w w')
    (hT : ∀ w, g = true → Calls Tryz.prog 99 #[s.v, t.v] w fun e w' => e = .returned T.v ∧ Since w w')
    (hR : R = if g then (if a1 || a2 then cpNone else if c = 0 then T else X) else cpNone) :
    Calls Tryz.prog 64 #[s.v, t.v] w fun e w' => e = .returned (.tuple #[R.v, .int .i64 (if g then 0 else 6)]) ∧ Since w w' := by
  have hN1 := fun w b hb ty => lrow w b hb ty s
  have hN2 := fun w b hb ty => lrow w b hb ty t
  obtain ⟨ax, ay, bx, bz⟩ := s
  obtain ⟨cx, cy, dx, dz⟩ := t
  obtain ⟨x1, x2, x3, x4⟩ := X
  obtain ⟨t1, t2, t3, t4⟩ := T
  simp only at hN1 hN2 hG hA1 hA2 hV1 hV2
  have HN1 := Lib.hid hN1
  have HN2 := Lib.hid hN2
  unfold Ln.v Pt at *
  unfold Cp.v at hX hT
  simp only at hX hT
  have HG := Lib.hid hG
  have H1 := Lib.hid hA1
  have H2 := Lib.hid hA2
  clear hN1 hN2 hG hA1 hA2
  have HR := Lib.hid hR
  clear hR
  go_enter Tryz.func64, Tryz.ntmps64
  go_upto_region 1 with fail
  refine wp_named fun w0 hw0 => ?_
  have rA : Row w0 w.heap.size 4 (Lf ⟨ax, ay, bx, bz⟩) := by subst hw0; exact ((HN1.out w _ rfl _).alloc _).alloc _
  have rB : Row w0 (w.heap.size + 1) 4 (Lf ⟨cx, cy, dx, dz⟩) := by subst hw0; exact (HN2.out _ _ (by simp) _).alloc _
  have rR : Row w0 (w.heap.size + 1 + 1) 6 (Cf cpNone) := by subst hw0; exact crow0 _ _ (by simp) _
  have hS : Since w w0 := by subst hw0; (repeat (first | with_reducible (exact Since.refl _) | with_reducible assumption | with_reducible (refine Since.drew ?_) | with_reducible (refine Since.drewN ?_ _) | with_reducible (refine Since.alloc ?_ _) | (with_reducible (refine Since.setCell ?_ ?_ _); rotate_left; focus (first | (simp; done) | (simp; omega) | omega)) | (with_reducible (refine Since.trans ?_ (by with_reducible assumption)))))
  have hz : w.heap.size + 3 ≤ w0.heap.size := by subst hw0; simp
  clear hw0 HN1 HN2
  obtain ⟨l1, l2, l3, l4, l5⟩ := lcells rA
  obtain ⟨m1, m2, m3, m4, m5⟩ := lcells rB
  cases g
  · have hR : R = cpNone := HR.out
    clear HR
    subst hR
    clear hV1 hV2 hP hX hT H1 H2
    go_wp2_with (go_at_call 61; (with_reducible refine (HG.out _ _ (by rfl) _).mono ?_); rintro e w1 ⟨rfl, hS1⟩; have hT : Since w0 w1 := (by (repeat (first | with_reducible (exact Since.refl _) | with_reducible assumption | with_reducible (refine Since.drew ?_) | with_reducible (refine Since.drewN ?_ _) | with_reducible (refine Since.alloc ?_ _) | (with_reducible (refine Since.setCell ?_ ?_ _); rotate_left; focus (first | (simp; done) | (simp; omega) | omega)) | (with_reducible (refine Since.trans ?_ (by with_reducible assumption)))))); have rR := rR.since hT; have rA := rA.since hT; have rB := rB.since hT; have hS := hS.trans hT; clear hT hS1 l1 l2 l3 l4 l5 m1 m2 m3 m4 m5; obtain ⟨l1, l2, l3, l4, l5⟩ := lcells rA; obtain ⟨m1, m2, m3, m4, m5⟩ := lcells rB; obtain ⟨r1, r2, r3, r4, r5, r6, r7⟩ := ccells rR; have rF := rR.2.1; have f0 := rF 0; have f1 := rF 1; have f2 := rF 2; have f3 := rF 3; have f4 := rF 4; have f5 := rF 5; clear rF)
    refine ret_agg_tmp (P := Tryz.prog) Tryz.results64 rfl (cp_range (cput rR cpNone)) Tryz.underlying117 rfl (by kernel_rfl) rfl rfl ⟨rfl, ?_⟩
    (repeat (first | with_reducible (exact Since.refl _) | with_reducible assumption | with_reducible (refine Since.drew ?_) | with_reducible (refine Since.drewN ?_ _) | with_reducible (refine Since.alloc ?_ _) | (with_reducible (refine Since.setCell ?_ ?_ _); rotate_left; focus (first | (simp; done) | (simp; omega) | omega)) | (with_reducible (refine Since.trans ?_ (by with_reducible assumption)))))
  have H3 := Lib.hid (fun w => hV1 w rfl)
  have H4 := Lib.hid (fun w => hV2 w rfl)
  have H5 := Lib.hid (fun w => hP w rfl)
  have H6 := Lib.hid (fun w hc => hX w rfl hc)
  have H7 := Lib.hid (fun w => hT w rfl)
  clear hV1 hV2 hP hX hT
  cases a1
  rotate_left
  · have hR : R = cpNone := HR.out
    clear HR
    subst hR
    clear H2 H3 H4 H5 H6 H7
    go_wp2_with (first | (go_at_call 61; (with_reducible refine (HG.out _ _ (by rfl) _).mono ?_); rintro e w1 ⟨rfl, hS1⟩; have hT : Since w0 w1 := (by (repeat (first | with_reducible (exact Since.refl _) | with_reducible assumption | with_reducible (refine Since.drew ?_) | with_reducible (refine Since.drewN ?_ _) | with_reducible (refine Since.alloc ?_ _) | (with_reducible (refine Since.setCell ?_ ?_ _); rotate_left; focus (first | (simp; done) | (simp; omega) | omega)) | (with_reducible (refine Since.trans ?_ (by with_reducible assumption)))))); have rR := rR.since hT; have rA := rA.since hT; have rB := rB.since hT; have hS := hS.trans hT; clear hT hS1 l1 l2 l3 l4 l5 m1 m2 m3 m4 m5; obtain ⟨l1, l2, l3, l4, l5⟩ := lcells rA; obtain ⟨m1, m2, m3, m4, m5⟩ := lcells rB; obtain ⟨r1, r2, r3, r4, r5, r6, r7⟩ := ccells rR; have rF := rR.2.1; have f0 := rF 0; have f1 := rF 1; have f2 := rF 2; have f3 := rF 3; have f4 := rF 4; have f5 := rF 5; clear rF) | (go_at_call 95; (with_reducible refine (H1.out _).mono ?_); rintro e w2 ⟨rfl, hS2⟩; have rR := rR.since hS2; have rA := rA.since hS2; have rB := rB.since hS2; have hS := hS.trans hS2; clear hS2 l1 l2 l3 l4 l5 m1 m2 m3 m4 m5 r1 r2 r3 r4 r5 r6 r7 f0 f1 f2 f3 f4 f5; obtain ⟨l1, l2, l3, l4, l5⟩ := lcells rA; obtain ⟨m1, m2, m3, m4, m5⟩ := lcells rB; obtain ⟨r1, r2, r3, r4, r5, r6, r7⟩ := ccells rR; have rF := rR.2.1; have f0 := rF 0; have f1 := rF 1; have f2 := rF 2; have f3 := rF 3; have f4 := rF 4; have f5 := rF 5; clear rF))
    refine ret_agg_tmp (P := Tryz.prog) Tryz.results64 rfl (cp_range (cput rR cpNone)) Tryz.underlying117 rfl (by kernel_rfl) rfl rfl ⟨rfl, ?_⟩
    (repeat (first | with_reducible (exact Since.refl _) | with_reducible assumption | with_reducible (refine Since.drew ?_) | with_reducible (refine Since.drewN ?_ _) | with_reducible (refine Since.alloc ?_ _) | (with_reducible (refine Since.setCell ?_ ?_ _); rotate_left; focus (first | (simp; done) | (simp; omega) | omega)) | (with_reducible (refine Since.trans ?_ (by with_reducible assumption)))))
  cases a2
  rotate_left
  · have hR : R = cpNone := HR.out
    clear HR
    subst hR
    clear H3 H4 H5 H6 H7
    go_wp2_with (first | (go_at_call 61; (with_reducible refine (HG.out _ _ (by rfl) _).mono ?_); rintro e w1 ⟨rfl, hS1⟩; have hT : Since w0 w1 := (by (repeat (first | with_reducible (exact Since.refl _) | with_reducible assumption | with_reducible (refine Since.drew ?_) | with_reducible (refine Since.drewN ?_ _) | with_reducible (refine Since.alloc ?_ _) | (with_reducible (refine Since.setCell ?_ ?_ _); rotate_left; focus (first | (simp; done) | (simp; omega) | omega)) | (with_reducible (refine Since.trans ?_ (by with_reducible assumption)))))); have rR := rR.since hT; have rA := rA.since hT; have rB := rB.since hT; have hS := hS.trans hT; clear hT hS1 l1 l2 l3 l4 l5 m1 m2 m3 m4 m5; obtain ⟨l1, l2, l3, l4, l5⟩ := lcells rA; obtain ⟨m1, m2, m3, m4, m5⟩ := lcells rB; obtain ⟨r1, r2, r3, r4, r5, r6, r7⟩ := ccells rR; have rF := rR.2.1; have f0 := rF 0; have f1 := rF 1; have f2 := rF 2; have f3 := rF 3; have f4 := rF 4; have f5 := rF 5; clear rF) | (go_at_call 95; (with_reducible refine (H1.out _).mono ?_); rintro e w2 ⟨rfl, hS2⟩; have rR := rR.since hS2; have rA := rA.since hS2; have rB := rB.since hS2; have hS := hS.trans hS2; clear hS2 l1 l2 l3 l4 l5 m1 m2 m3 m4 m5 r1 r2 r3 r4 r5 r6 r7 f0 f1 f2 f3 f4 f5; obtain ⟨l1, l2, l3, l4, l5⟩ := lcells rA; obtain ⟨m1, m2, m3, m4, m5⟩ := lcells rB; obtain ⟨r1, r2, r3, r4, r5, r6, r7⟩ := ccells rR; have rF := rR.2.1; have f0 := rF 0; have f1 := rF 1; have f2 := rF 2; have f3 := rF 3; have f4 := rF 4; have f5 := rF 5; clear rF) | (go_at_call 95; (with_reducible refine (H2.out _).mono ?_); rintro e w2 ⟨rfl, hS2⟩; have rR := rR.since hS2; have rA := rA.since hS2; have rB := rB.since hS2; have hS := hS.trans hS2; clear hS2 l1 l2 l3 l4 l5 m1 m2 m3 m4 m5 r1 r2 r3 r4 r5 r6 r7 f0 f1 f2 f3 f4 f5; obtain ⟨l1, l2, l3, l4, l5⟩ := lcells rA; obtain ⟨m1, m2, m3, m4, m5⟩ := lcells rB; obtain ⟨r1, r2, r3, r4, r5, r6, r7⟩ := ccells rR; have rF := rR.2.1; have f0 := rF 0; have f1 := rF 1; have f2 := rF 2; have f3 := rF 3; have f4 := rF 4; have f5 := rF 5; clear rF))
    refine ret_agg_tmp (P := Tryz.prog) Tryz.results64 rfl (cp_range (cput rR cpNone)) Tryz.underlying117 rfl (by kernel_rfl) rfl rfl ⟨rfl, ?_⟩
    (repeat (first | with_reducible (exact Since.refl _) | with_reducible assumption | with_reducible (refine Since.drew ?_) | with_reducible (refine Since.drewN ?_ _) | with_reducible (refine Since.alloc ?_ _) | (with_reducible (refine Since.setCell ?_ ?_ _); rotate_left; focus (first | (simp; done) | (simp; omega) | omega)) | (with_reducible (refine Since.trans ?_ (by with_reducible assumption)))))
  go_wp2_with (first | (go_at_call 61; (with_reducible refine (HG.out _ _ (by rfl) _).mono ?_); rintro e w1 ⟨rfl, hS1⟩; have hT : Since w0 w1 := (by (repeat (first | with_reducible (exact Since.refl _) | with_reducible assumption | with_reducible (refine Since.drew ?_) | with_reducible (refine Since.drewN ?_ _) | with_reducible (refine Since.alloc ?_ _) | (with_reducible (refine Since.setCell ?_ ?_ _); rotate_left; focus (first | (simp; done) | (simp; omega) | omega)) | (with_reducible (refine Since.trans ?_ (by with_reducible assumption)))))); have rR := rR.since hT; have rA := rA.since hT; have rB := rB.since hT; have hS := hS.trans hT; clear hT hS1 l1 l2 l3 l4 l5 m1 m2 m3 m4 m5; obtain ⟨l1, l2, l3, l4, l5⟩ := lcells rA; obtain ⟨m1, m2, m3, m4, m5⟩ := lcells rB; obtain ⟨r1, r2, r3, r4, r5, r6, r7⟩ := ccells rR; have rF := rR.2.1; have f0 := rF 0; have f1 := rF 1; have f2 := rF 2; have f3 := rF 3; have f4 := rF 4; have f5 := rF 5; clear rF) | (go_at_call 95; (with_reducible refine (H1.out _).mono ?_); rintro e w2 ⟨rfl, hS2⟩; have rR := rR.since hS2; have rA := rA.since hS2; have rB := rB.since hS2; have hS := hS.trans hS2; clear hS2 l1 l2 l3 l4 l5 m1 m2 m3 m4 m5 r1 r2 r3 r4 r5 r6 r7 f0 f1 f2 f3 f4 f5; obtain ⟨l1, l2, l3, l4, l5⟩ := lcells rA; obtain ⟨m1, m2, m3, m4, m5⟩ := lcells rB; obtain ⟨r1, r2, r3, r4, r5, r6, r7⟩ := ccells rR; have rF := rR.2.1; have f0 := rF 0; have f1 := rF 1; have f2 := rF 2; have f3 := rF 3; have f4 := rF 4; have f5 := rF 5; clear rF) | (go_at_call 95; (with_reducible refine (H2.out _).mono ?_); rintro e w2 ⟨rfl, hS2⟩; have rR := rR.since hS2; have rA := rA.since hS2; have rB := rB.since hS2; have hS := hS.trans hS2; clear hS2 l1 l2 l3 l4 l5 m1 m2 m3 m4 m5 r1 r2 r3 r4 r5 r6 r7 f0 f1 f2 f3 f4 f5; obtain ⟨l1, l2, l3, l4, l5⟩ := lcells rA; obtain ⟨m1, m2, m3, m4, m5⟩ := lcells rB; obtain ⟨r1, r2, r3, r4, r5, r6, r7⟩ := ccells rR; have rF := rR.2.1; have f0 := rF 0; have f1 := rF 1; have f2 := rF 2; have f3 := rF 3; have f4 := rF 4; have f5 := rF 5; clear rF))
  refine wp_named fun wq hwq => ?_
  obtain rfl := hwq
  go_cut [6] (fun x wx => x = .int .i64 c ∧ Since wq wx)
  case first =>
    clear rR rA rB hS H6 H7 HR HG
    (refine wp_named fun wr7 hwr7 => ?_; go_region_held3 (fun w' => (∀ b o, b < wr7.heap.size → w'.cell? ⟨b, o, none⟩ = wr7.cell? ⟨b, o, none⟩) ∧ (∀ b o, b < wr7.heap.size → w'.frozen? ⟨b, o, none⟩ = wr7.frozen? ⟨b, o, none⟩) ∧ (∀ k, k < wr7.heap.size → k < w'.heap.size) ∧ Below wr7.heap.size wr7 w') ((subst hwr7; (repeat (with_reducible (refine since_put ?_ ?_ _); rotate_left; focus (first | (simp; done) | (simp; omega) | omega))); first | assumption | (refine since_step (by assumption) ?_; first | assumption | ((repeat (first | with_reducible (exact Since.refl _) | with_reducible assumption | with_reducible (refine Since.drew ?_) | with_reducible (refine Since.drewN ?_ _) | with_reducible (refine Since.alloc ?_ _) | (with_reducible (refine Since.setCell ?_ ?_ _); rotate_left; focus (first | (simp; done) | (simp; omega) | omega)))); done)) | (refine since_step (Since.refl _) ?_; first | assumption | ((repeat (first | with_reducible (exact Since.refl _) | with_reducible assumption | with_reducible (refine Since.drew ?_) | with_reducible (refine Since.drewN ?_ _) | with_reducible (refine Since.alloc ?_ _) | (with_reducible (refine Since.setCell ?_ ?_ _); rotate_left; focus (first | (simp; done) | (simp; omega) | omega)) | (with_reducible (refine Since.trans ?_ (by with_reducible assumption))))); done)))) (first | (go_at_call 97; (with_reducible refine (H3.out _).mono ?_); rintro e w1 ⟨rfl, hS⟩; have hZ := hS.below.size; (try simp at hZ)) | (go_at_call 97; (with_reducible refine (H4.out _).mono ?_); rintro e w1 ⟨rfl, hS⟩; have hZ := hS.below.size; (try simp at hZ)) | (go_at_call 96; (with_reducible refine (H5.out _).mono ?_); rintro e w1 ⟨rfl, hS⟩; have hZ := hS.below.size; (try simp at hZ))); all_goals (rename_i hHeld; have hR7 : Since wr7 _ := hHeld; obtain ⟨hcR7, hfR7, hzR7, hbR7⟩ := hHeld; subst hwr7))
    all_goals (go_wp2_with fail)
    all_goals go_meet
    all_goals exact ⟨rfl, by (repeat (first | with_reducible (exact Since.refl _) | with_reducible assumption | with_reducible (refine Since.drew ?_) | with_reducible (refine Since.drewN ?_ _) | with_reducible (refine Since.alloc ?_ _) | (with_reducible (refine Since.setCell ?_ ?_ _); rotate_left; focus (first | (simp; done) | (simp; omega) | omega)) | (with_reducible (refine Since.trans ?_ (by with_reducible assumption)))))⟩
  obtain ⟨rfl, hR7⟩ := hcut
  have rR := rR.since hR7
  have rA := rA.since hR7
  have rB := rB.since hR7
  have hS := hS.trans hR7
  clear hR7 l1 l2 l3 l4 l5 m1 m2 m3 m4 m5 r1 r2 r3 r4 r5 r6 r7 f0 f1 f2 f3 f4 f5 H3 H4 H5 H1 H2
  obtain ⟨l1, l2, l3, l4, l5⟩ := lcells rA
  obtain ⟨m1, m2, m3, m4, m5⟩ := lcells rB
  (obtain ⟨r1, r2, r3, r4, r5, r6, r7⟩ := ccells rR; have rF := rR.2.1; have f0 := rF 0; have f1 := rF 1; have f2 := rF 2; have f3 := rF 3; have f4 := rF 4; have f5 := rF 5; clear rF)
  have hR : R = if c = 0 then ⟨t1, t2, t3, t4⟩ else ⟨x1, x2, x3, x4⟩ := HR.out
  clear HR
  by_cases hc : c = 0
  · rw [if_pos hc] at hR
    subst hR
    have hd : (c != 0) = false := by simp [hc]
    clear hc H6
    go_wp2_with (go_at_call 99; (with_reducible refine (H7.out _).mono ?_); rintro e w3 ⟨rfl, hS3⟩; have rR := rR.since hS3; have hS := hS.trans hS3; clear hS3 l1 l2 l3 l4 l5 m1 m2 m3 m4 m5 r1 r2 r3 r4 r5 r6 r7 f0 f1 f2 f3 f4 f5; obtain ⟨r1, r2, r3, r4, r5, r6, r7⟩ := ccells rR; have rF := rR.2.1; have f0 := rF 0; have f1 := rF 1; have f2 := rF 2; have f3 := rF 3; have f4 := rF 4; have f5 := rF 5; clear rF)
    refine ret_agg_tmp (P := Tryz.prog) Tryz.results64 rfl (cp_range (cput rR ⟨t1, t2, t3, t4⟩)) Tryz.underlying117 rfl (by kernel_rfl) rfl rfl ⟨rfl, ?_⟩
    (repeat (first | with_reducible (exact Since.refl _) | with_reducible assumption | with_reducible (refine Since.drew ?_) | with_reducible (refine Since.drewN ?_ _) | with_reducible (refine Since.alloc ?_ _) | (with_reducible (refine Since.setCell ?_ ?_ _); rotate_left; focus (first | (simp; done) | (simp; omega) | omega)) | (with_reducible (refine Since.trans ?_ (by with_reducible assumption)))))
  · rw [if_neg hc] at hR
    subst hR
    have hd : (c != 0) = true := by simp [hc]
    have H6 := Lib.hid (fun w => H6.out w hc)
    clear hc H7
    go_wp2_with (go_at_call 98; (with_reducible refine (H6.out _).mono ?_); rintro e w3 ⟨rfl, hS3⟩; have rR := rR.since hS3; have hS := hS.trans hS3; clear hS3 l1 l2 l3 l4 l5 m1 m2 m3 m4 m5 r1 r2 r3 r4 r5 r6 r7 f0 f1 f2 f3 f4 f5; obtain ⟨r1, r2, r3, r4, r5, r6, r7⟩ := ccells rR; have rF := rR.2.1; have f0 := rF 0; have f1 := rF 1; have f2 := rF 2; have f3 := rF 3; have f4 := rF 4; have f5 := rF 5; clear rF)
    refine ret_agg_tmp (P := Tryz.prog) Tryz.results64 rfl (cp_range (cput rR ⟨x1, x2, x3, x4⟩)) Tryz.underlying117 rfl (by kernel_rfl) rfl rfl ⟨rfl, ?_⟩
    (repeat (first | with_reducible (exact Since.refl _) | with_reducible assumption | with_reducible (refine Since.drew ?_) | with_reducible (refine Since.drewN ?_ _) | with_reducible (refine Since.alloc ?_ _) | (with_reducible (refine Since.setCell ?_ ?_ _); rotate_left; focus (first | (simp; done) | (simp; omega) | omega)) | (with_reducible (refine Since.trans ?_ (by with_reducible assumption)))))
theorem cr_meet (s t : Ln) (hs : s.wf) (ht : t.wf) (w : World) : Calls Tryz.prog 64 #[s.v, t.v] w fun e w' => e = .returned (.tuple #[(meetCp s t).v, .int .i64 (meetE s t)]) ∧ Since w w' := by
  have hr : ∀ g, g = (lnG s && lnG t) → g = true → lnG s = true ∧ lnG t = true := fun g h1 h2 => Bool.and_eq_true_iff.1 (h1 ▸ h2)
  have hk : ∀ g, g = (lnG s && lnG t) → g = true → (-4194304 ≤ s.ax ∧ s.ax ≤ 4194304 ∧ -4194304 ≤ s.ay ∧ s.ay ≤ 4194304) ∧ (-4194304 ≤ s.bx ∧ s.bx ≤ 4194304 ∧ -4194304 ≤ s.bz ∧ s.bz ≤ 4194304) ∧ (-4194304 ≤ t.ax ∧ t.ax ≤ 4194304 ∧ -4194304 ≤ t.ay ∧ t.ay ≤ 4194304) ∧ (-4194304 ≤ t.bx ∧ t.bx ≤ 4194304 ∧ -4194304 ≤ t.bz ∧ t.bz ≤ 4194304) := fun g h1 h2 => by
    obtain ⟨h3, h4⟩ := hr g h1 h2
    exact ⟨goodB_iff.1 (Bool.and_eq_true_iff.1 h3).1, goodB_iff.1 (Bool.and_eq_true_iff.1 h3).2, goodB_iff.1 (Bool.and_eq_true_iff.1 h4).1, goodB_iff.1 (Bool.and_eq_true_iff.1 h4).2⟩
  refine meet_of s t (lnG s && lnG t) _ _ _ _ _ _ (cC s t) (crossCp s t) (touchOf (ends s t)) (meetCp s t) w (fun w b hb ty => good4 w b hb _ _ _ _ _ _ _ _ ty hs.1 hs.2 ht.1 ht.2) (fun w => cr_apart _ _ _ _ w) (fun w => cr_apart _ _ _ _ w)
    (fun w hg => cr_vector s.ax s.ay s.bx s.bz (by obtain ⟨q1, q2, q3, q4⟩ := hk _ rfl hg; exact IntWalk.i64_in _ (by omega)) (by obtain ⟨q1, q2, q3, q4⟩ := hk _ rfl hg; exact IntWalk.i64_in _ (by omega)) w)
    (fun w hg => cr_vector t.ax t.ay t.bx t.bz (by obtain ⟨q1, q2, q3, q4⟩ := hk _ rfl hg; exact IntWalk.i64_in _ (by omega)) (by obtain ⟨q1, q2, q3, q4⟩ := hk _ rfl hg; exact IntWalk.i64_in _ (by omega)) w)
    (fun w hg => ?_) (fun w hg hc => cr_crossing_x s t (hr _ rfl hg).1 (hr _ rfl hg).2 hc w) (fun w hg => cr_touching s t (hr _ rfl hg).1 (hr _ rfl hg).2 w) ?_
  · obtain ⟨q1, q2, q3, q4⟩ := hk _ rfl hg
    have n1 : Near (s.bx - s.ax) := by unfold Near; omega
    have n2 : Near (s.bz - s.ay) := by unfold Near; omega
    have n5 : Near (t.bx - t.ax) := by unfold Near; omega
    have n6 : Near (t.bz - t.ay) := by unfold Near; omega
    have m5 := near_mul n1 n6; have m6 := near_mul n2 n5
    exact cr_product (s.bx - s.ax) (s.bz - s.ay) (t.bx - t.ax) (t.bz - t.ay) (IntWalk.i64_in _ (by omega)) (IntWalk.i64_in _ (by omega)) (IntWalk.i64_in _ (by omega)) w
  · unfold meetCp meetG aprtL
    rfl
end Go.Proofs.YtcfghkphkmoikaaGreat
