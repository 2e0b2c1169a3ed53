/-
  Layer 15: the law CrossIn, walked.
-/
import Derived.Test.YtmimdicflmgchaaCrZ
namespace Go.Proofs.Ytmimdicflmgchaa
open Go.RowKit
set_option linter.unusedVariables false

set_option maxRecDepth 100000 in
theorem ip0 (a b c d e f g h : Value) (w : World) : (Instr.index 45 (.agg #[a, b, c, d, e, f, g, h]) (.int .i64 0)).run Try.prog w = .ok (.agg #[a, b, c, d]) w := by rfl
set_option maxRecDepth 100000 in
theorem ip1 (a b c d e f g h : Value) (w : World) : (Instr.index 45 (.agg #[a, b, c, d, e, f, g, h]) (.int .i64 1)).run Try.prog w = .ok (.agg #[e, f, g, h]) w := by rfl
set_option maxRecDepth 100000 in
set_option maxHeartbeats 32000000 in
theorem crossin_of (q0 q1 q2 q3 q4 q5 q6 q7 ax ay bx bz cx cy dx dz pk px py pd uk ux uy ud : Int) (o1 o2 o3 o4 : Bool) (w : World)
    (hL : ∀ w, Calls Try.prog 16 #[.agg #[.int .i32 q0, .int .i32 q1, .int .i32 q2, .int .i32 q3, .int .i32 q4, .int .i32 q5, .int .i32 q6, .int .i32 q7]] w fun e w' => e = .returned (.tuple #[.agg #[.int .i64 ax, .int .i64 ay, .int .i64 bx, .int .i64 bz], .agg #[.int .i64 cx, .int .i64 cy, .int .i64 dx, .int .i64 dz]]) ∧ Since w w')
    (hM : ∀ w, Calls Try.prog 17 #[.agg #[.int .i64 ax, .int .i64 ay, .int .i64 bx, .int .i64 bz], .agg #[.int .i64 cx, .int .i64 cy, .int .i64 dx, .int .i64 dz]] w fun e w' => e = .returned (.tuple #[.agg #[.int .i64 pk, .int .i64 (hiW px), .int .u64 (loW px), .int .i64 (hiW py), .int .u64 (loW py), .int .i64 pd], .int .i64 0]) ∧ Since w w')
    (hQ : ∀ w, Calls Try.prog 17 #[.agg #[.int .i64 ax, .int .i64 ay, .int .i64 bx, .int .i64 bz], .agg #[.int .i64 bx, .int .i64 bz, .int .i64 dx, .int .i64 dz]] w fun e w' => e = .returned (.tuple #[.agg #[.int .i64 uk, .int .i64 (hiW ux), .int .u64 (loW ux), .int .i64 (hiW uy), .int .u64 (loW uy), .int .i64 ud], .int .i64 0]) ∧ Since w w')
    (ho1 : ∀ w, Calls Try.prog 12 #[.agg #[.int .i64 cx, .int .i64 cy], .agg #[.int .i64 ax, .int .i64 ay, .int .i64 bx, .int .i64 bz]] w fun e w' => e = .returned (.bool o1) ∧ Since w w')
    (ho2 : ∀ w, Calls Try.prog 12 #[.agg #[.int .i64 dx, .int .i64 dz], .agg #[.int .i64 ax, .int .i64 ay, .int .i64 bx, .int .i64 bz]] w fun e w' => e = .returned (.bool o2) ∧ Since w w')
    (ho3 : ∀ w, Calls Try.prog 12 #[.agg #[.int .i64 ax, .int .i64 ay], .agg #[.int .i64 cx, .int .i64 cy, .int .i64 dx, .int .i64 dz]] w fun e w' => e = .returned (.bool o3) ∧ Since w w')
    (ho4 : ∀ w, Calls Try.prog 12 #[.agg #[.int .i64 bx, .int .i64 bz], .agg #[.int .i64 cx, .int .i64 cy, .int .i64 dx, .int .i64 dz]] w fun e w' => e = .returned (.bool o4) ∧ Since w w')
    (ho5 : ∀ w, Calls Try.prog 12 #[.agg #[.int .i64 ax, .int .i64 ay], .agg #[.int .i64 ax, .int .i64 ay, .int .i64 bx, .int .i64 bz]] w fun e w' => e = .returned (.bool true) ∧ Since w w')
    (hpd : pk = 1 → decide (pd < 1) = false) (e1 : pk = 1 → decide (cmpI px (lo2 ax bx * pd) < 0) = false) (e2 : pk = 1 → decide (0 < cmpI px (hi2 ax bx * pd)) = false) (e3 : pk = 1 → decide (cmpI py (lo2 ay bz * pd) < 0) = false) (e4 : pk = 1 → decide (0 < cmpI py (hi2 ay bz * pd)) = false) (f1 : pk = 1 → decide (cmpI px (lo2 cx dx * pd) < 0) = false) (f2 : pk = 1 → decide (0 < cmpI px (hi2 cx dx * pd)) = false) (f3 : pk = 1 → decide (cmpI py (lo2 cy dz * pd) < 0) = false) (f4 : pk = 1 → decide (0 < cmpI py (hi2 cy dz * pd)) = false) (hi : pk = 1 → InW (lo2 ax bx) ∧ InW (hi2 ax bx) ∧ InW (lo2 ay bz) ∧ InW (hi2 ay bz) ∧ InW (lo2 cx dx) ∧ InW (hi2 cx dx) ∧ InW (lo2 cy dz) ∧ InW (hi2 cy dz) ∧ InW pd) (hqk : decide (0 < uk) = true) (hon : (o1 || o2 || o3 || o4) = true → 0 < pk) :
    Calls Try.prog 6 #[.agg #[.int .i32 q0, .int .i32 q1, .int .i32 q2, .int .i32 q3, .int .i32 q4, .int .i32 q5, .int .i32 q6, .int .i32 q7]] w fun e w' => e = .returned (.bool true) ∧ Since w w' := by
  have hj0 := ip0
  have hj1 := ip1
  have hmin := min2_run
  have hmax := max2_run
  have HL := Lib.hid hL
  have HM := Lib.hid hM
  have HQ := Lib.hid hQ
  have HO1 := Lib.hid ho1
  have HO2 := Lib.hid ho2
  have HO3 := Lib.hid ho3
  have HO4 := Lib.hid ho4
  have HO5 := Lib.hid ho5
  have HON := Lib.hid hon
  have HR := Lib.hid (fun w b hb ty => p8row w b hb ty q0 q1 q2 q3 q4 q5 q6 q7)
  have HC := Lib.hid (fun w b hb ty => crow w b hb ty ⟨pk, px, py, pd⟩)
  have HCQ := Lib.hid (fun w b hb ty => crow w b hb ty ⟨uk, ux, uy, ud⟩)
  have HPD := Lib.hid hpd
  have HI := Lib.hid hi
  have HB := Lib.hid (fun h => And.intro (e1 h) (And.intro (e2 h) (And.intro (e3 h) (e4 h))))
  have HD := Lib.hid (fun h => And.intro (f1 h) (And.intro (f2 h) (And.intro (f3 h) (f4 h))))
  clear hL hM hQ ho1 ho2 ho3 ho4 ho5 hpd hi hon e1 e2 e3 e4 f1 f2 f3 f4
  go_enter Try.func6, Try.ntmps6
  go_upto_region 3 with (go_at_call 11; (with_reducible refine (alive15 _).mono ?_); rintro e wm ⟨rfl, hSk⟩; have rQ := (HR.out w _ rfl _).since hSk; have hT : Since w wm := (by (repeat (first | with_reducible (exact Since.refl _) | with_reducible assumption | with_reducible (refine Since.drew ?_) | with_reducible (refine Since.drewN ?_ _) | with_reducible (refine Since.alloc ?_ _) | (with_reducible (refine Since.setCell ?_ ?_ _); rotate_left; focus (first | (simp; done) | (simp; omega) | omega)) | (with_reducible (refine Since.trans ?_ (by with_reducible assumption)))))); clear hSk; obtain ⟨x1, x2, x3, x4, x5, x6, x7, x8, x9⟩ := p8cells rQ)
  go_upto_region 4 with (go_at_call 16; (with_reducible refine (HL.out _).mono ?_); rintro e wn ⟨rfl, hSk⟩; have hT := hT.trans hSk; clear hSk rQ x1 x2 x3 x4 x5 x6 x7 x8 x9)
  refine wp_named fun wx hwx => ?_
  have rS : Row wx wn.heap.size 4 (Lf ⟨ax, ay, bx, bz⟩) := by subst hwx; exact (lrow wn _ rfl _ ⟨ax, ay, bx, bz⟩).alloc _
  have rT : Row wx (wn.heap.size + 1) 4 (Lf ⟨cx, cy, dx, dz⟩) := by subst hwx; exact lrow _ _ (by simp) _ ⟨cx, cy, dx, dz⟩
  have hT : Since w wx := by subst hwx; (repeat (first | with_reducible (exact Since.refl _) | with_reducible assumption | with_reducible (refine Since.drew ?_) | with_reducible (refine Since.drewN ?_ _) | with_reducible (refine Since.alloc ?_ _) | (with_reducible (refine Since.setCell ?_ ?_ _); rotate_left; focus (first | (simp; done) | (simp; omega) | omega)) | (with_reducible (refine Since.trans ?_ (by with_reducible assumption)))))
  clear hwx
  generalize wn.heap.size = bs at *
  obtain ⟨s1, s2, s3, s4, s5⟩ := lcells rS
  obtain ⟨t1, t2, t3, t4, t5⟩ := lcells rT
  go_upto_region 5 with (go_at_call 17; (with_reducible refine (HM.out _).mono ?_); rintro e wm ⟨rfl, hSk⟩; have rS := rS.since hSk; have rT := rT.since hSk; have hT := hT.trans hSk; clear hSk s1 s2 s3 s4 s5 t1 t2 t3 t4 t5)
  refine wp_named fun wy hwy => ?_
  have rP : Row wy wm.heap.size 6 (Cf ⟨pk, px, py, pd⟩) := by subst hwy; exact HC.out wm _ rfl _
  have hU : Since wm wy := by subst hwy; (repeat (first | with_reducible (exact Since.refl _) | with_reducible assumption | with_reducible (refine Since.drew ?_) | with_reducible (refine Since.drewN ?_ _) | with_reducible (refine Since.alloc ?_ _) | (with_reducible (refine Since.setCell ?_ ?_ _); rotate_left; focus (first | (simp; done) | (simp; omega) | omega)) | (with_reducible (refine Since.trans ?_ (by with_reducible assumption)))))
  have hT := hT.trans hU
  have rS := rS.since hU
  have rT := rT.since hU
  clear hwy hU
  generalize wm.heap.size = bp at *
  obtain ⟨c1, c2, c3, c4, c5, c6, c7⟩ := ccells rP
  obtain ⟨s1, s2, s3, s4, s5⟩ := lcells rS
  obtain ⟨t1, t2, t3, t4, t5⟩ := lcells rT
  simp only at c1 c2 c3 c4 c5 c6
  go_wp2_with fail
  clear HL HM HR HC
  by_cases hpk : pk = 1
  · subst hpk
    have hd := HPD.out rfl
    obtain ⟨e1, e2, e3, e4⟩ := HB.out rfl
    obtain ⟨f1, f2, f3, f4⟩ := HD.out rfl
    obtain ⟨i1, i2, i3, i4, i5, i6, i7, i8, i9⟩ := HI.out rfl
    clear HPD HB HD HI
    refine wp_loop_rounds 3 ?_
    rw [rounds_succ]
    go_upto_region 14 with fail
    refine wp_named fun wv hwv => ?_
    have rL : Row wv wy.heap.size 4 (Lf ⟨ax, ay, bx, bz⟩) := by subst hwv; exact lrow wy _ rfl _ ⟨ax, ay, bx, bz⟩
    have hU : Since wy wv := by subst hwv; (repeat (first | with_reducible (exact Since.refl _) | with_reducible assumption | with_reducible (refine Since.drew ?_) | with_reducible (refine Since.drewN ?_ _) | with_reducible (refine Since.alloc ?_ _) | (with_reducible (refine Since.setCell ?_ ?_ _); rotate_left; focus (first | (simp; done) | (simp; omega) | omega)) | (with_reducible (refine Since.trans ?_ (by with_reducible assumption)))))
    have hT := hT.trans hU
    have rS := rS.since hU
    have rT := rT.since hU
    have rP := rP.since hU
    clear hwv hU
    generalize wy.heap.size = bl at *
    clear s1 s2 s3 s4 s5 t1 t2 t3 t4 t5 c1 c2 c3 c4 c5 c6 c7
    obtain ⟨l1, l2, l3, l4, l5⟩ := lcells rL
    obtain ⟨c1, c2, c3, c4, c5, c6, c7⟩ := ccells rP
    simp only at l1 l2 l3 l4 c1 c2 c3 c4 c5 c6
    (refine wp_named fun wr7 hwr7 => ?_; go_region_held3 (fun w' => (∀ b o, b < wr7.heap.size → w'.cell? ⟨b, o, none⟩ = wr7.cell? ⟨b, o, none⟩) ∧ (∀ b o, b < wr7.heap.size → w'.frozen? ⟨b, o, none⟩ = wr7.frozen? ⟨b, o, none⟩) ∧ (∀ k, k < wr7.heap.size → k < w'.heap.size) ∧ Below wr7.heap.size wr7 w') ((subst hwr7; (repeat (with_reducible (refine since_put ?_ ?_ _); rotate_left; focus (first | (simp; done) | (simp; omega) | omega))); first | assumption | (refine since_step (by assumption) ?_; first | assumption | ((repeat (first | with_reducible (exact Since.refl _) | with_reducible assumption | with_reducible (refine Since.drew ?_) | with_reducible (refine Since.drewN ?_ _) | with_reducible (refine Since.alloc ?_ _) | (with_reducible (refine Since.setCell ?_ ?_ _); rotate_left; focus (first | (simp; done) | (simp; omega) | omega)))); done)) | (refine since_step (Since.refl _) ?_; first | assumption | ((repeat (first | with_reducible (exact Since.refl _) | with_reducible assumption | with_reducible (refine Since.drew ?_) | with_reducible (refine Since.drewN ?_ _) | with_reducible (refine Since.alloc ?_ _) | (with_reducible (refine Since.setCell ?_ ?_ _); rotate_left; focus (first | (simp; done) | (simp; omega) | omega)) | (with_reducible (refine Since.trans ?_ (by with_reducible assumption))))); done)))) (first | (go_at_call 21; (with_reducible refine (wide_mul _ _ (by with_reducible assumption) (by with_reducible assumption) _).mono ?_); rintro e w1 ⟨rfl, hS⟩; have hZ := hS.below.size; (try simp at hZ)) | (go_at_call 20; (with_reducible refine (wide_cmp _ _ _).mono ?_); rintro e w1 ⟨rfl, hS⟩; have hZ := hS.below.size; (try simp at hZ))); all_goals (rename_i hHeld; have hR7 : Since wr7 _ := hHeld; obtain ⟨hcR7, hfR7, hzR7, hbR7⟩ := hHeld; subst hwr7))
    have rS := rS.since hR7
    have rT := rT.since hR7
    have rP := rP.since hR7
    have hT := Since.trans hT hR7
    clear hR7 hcR7 hfR7 hzR7 hbR7 l1 l2 l3 l4 l5 c1 c2 c3 c4 c5 c6 c7 rL
    obtain ⟨s1, s2, s3, s4, s5⟩ := lcells rS
    obtain ⟨t1, t2, t3, t4, t5⟩ := lcells rT
    obtain ⟨c1, c2, c3, c4, c5, c6, c7⟩ := ccells rP
    simp only at c1 c2 c3 c4 c5 c6
    go_wp2_with fail
    rw [rounds_succ]
    refine wp_named fun wl hwl => ?_
    obtain rfl := hwl

    go_upto_region 14 with fail
    refine wp_named fun wv hwv => ?_
    have rL : Row wv wl.heap.size 4 (Lf ⟨cx, cy, dx, dz⟩) := by subst hwv; exact lrow wl _ rfl _ ⟨cx, cy, dx, dz⟩
    have hU : Since wl wv := by subst hwv; (repeat (first | with_reducible (exact Since.refl _) | with_reducible assumption | with_reducible (refine Since.drew ?_) | with_reducible (refine Since.drewN ?_ _) | with_reducible (refine Since.alloc ?_ _) | (with_reducible (refine Since.setCell ?_ ?_ _); rotate_left; focus (first | (simp; done) | (simp; omega) | omega)) | (with_reducible (refine Since.trans ?_ (by with_reducible assumption)))))
    have hT := hT.trans hU
    have rS := rS.since hU
    have rT := rT.since hU
    have rP := rP.since hU
    clear hwv hU
    generalize wl.heap.size = bl at *
    clear s1 s2 s3 s4 s5 t1 t2 t3 t4 t5 c1 c2 c3 c4 c5 c6 c7
    obtain ⟨l1, l2, l3, l4, l5⟩ := lcells rL
    obtain ⟨c1, c2, c3, c4, c5, c6, c7⟩ := ccells rP
    simp only at l1 l2 l3 l4 c1 c2 c3 c4 c5 c6
    (refine wp_named fun wr7 hwr7 => ?_; go_region_held3 (fun w' => (∀ b o, b < wr7.heap.size → w'.cell? ⟨b, o, none⟩ = wr7.cell? ⟨b, o, none⟩) ∧ (∀ b o, b < wr7.heap.size → w'.frozen? ⟨b, o, none⟩ = wr7.frozen? ⟨b, o, none⟩) ∧ (∀ k, k < wr7.heap.size → k < w'.heap.size) ∧ Below wr7.heap.size wr7 w') ((subst hwr7; (repeat (with_reducible (refine since_put ?_ ?_ _); rotate_left; focus (first | (simp; done) | (simp; omega) | omega))); first | assumption | (refine since_step (by assumption) ?_; first | assumption | ((repeat (first | with_reducible (exact Since.refl _) | with_reducible assumption | with_reducible (refine Since.drew ?_) | with_reducible (refine Since.drewN ?_ _) | with_reducible (refine Since.alloc ?_ _) | (with_reducible (refine Since.setCell ?_ ?_ _); rotate_left; focus (first | (simp; done) | (simp; omega) | omega)))); done)) | (refine since_step (Since.refl _) ?_; first | assumption | ((repeat (first | with_reducible (exact Since.refl _) | with_reducible assumption | with_reducible (refine Since.drew ?_) | with_reducible (refine Since.drewN ?_ _) | with_reducible (refine Since.alloc ?_ _) | (with_reducible (refine Since.setCell ?_ ?_ _); rotate_left; focus (first | (simp; done) | (simp; omega) | omega)) | (with_reducible (refine Since.trans ?_ (by with_reducible assumption))))); done)))) (first | (go_at_call 21; (with_reducible refine (wide_mul _ _ (by with_reducible assumption) (by with_reducible assumption) _).mono ?_); rintro e w1 ⟨rfl, hS⟩; have hZ := hS.below.size; (try simp at hZ)) | (go_at_call 20; (with_reducible refine (wide_cmp _ _ _).mono ?_); rintro e w1 ⟨rfl, hS⟩; have hZ := hS.below.size; (try simp at hZ))); all_goals (rename_i hHeld; have hR7 : Since wr7 _ := hHeld; obtain ⟨hcR7, hfR7, hzR7, hbR7⟩ := hHeld; subst hwr7))
    have rS := rS.since hR7
    have rT := rT.since hR7
    have rP := rP.since hR7
    have hT := Since.trans hT hR7
    clear hR7 hcR7 hfR7 hzR7 hbR7 l1 l2 l3 l4 l5 c1 c2 c3 c4 c5 c6 c7 rL
    obtain ⟨s1, s2, s3, s4, s5⟩ := lcells rS
    obtain ⟨t1, t2, t3, t4, t5⟩ := lcells rT
    obtain ⟨c1, c2, c3, c4, c5, c6, c7⟩ := ccells rP
    simp only at c1 c2 c3 c4 c5 c6
    go_wp2_with fail
    rw [rounds_succ]
    refine wp_named fun wg hwg => ?_
    obtain rfl := hwg

    go_wp2_with fail
    go_upto_region 18 with (go_at_call 17; (with_reducible refine (HQ.out _).mono ?_); rintro e wm ⟨rfl, hSk⟩; have hU : Since wg wm := (by (repeat (first | with_reducible (exact Since.refl _) | with_reducible assumption | with_reducible (refine Since.drew ?_) | with_reducible (refine Since.drewN ?_ _) | with_reducible (refine Since.alloc ?_ _) | (with_reducible (refine Since.setCell ?_ ?_ _); rotate_left; focus (first | (simp; done) | (simp; omega) | omega)) | (with_reducible (refine Since.trans ?_ (by with_reducible assumption)))))); have rS := rS.since hU; have rT := rT.since hU; have rP := rP.since hU; have hT := hT.trans hU; clear hSk hU s1 s2 s3 s4 s5 t1 t2 t3 t4 t5 c1 c2 c3 c4 c5 c6 c7)
    refine wp_named fun wy hwy => ?_
    have rQ : Row wy wm.heap.size 6 (Cf ⟨uk, ux, uy, ud⟩) := by subst hwy; exact HCQ.out wm _ rfl _
    have hU : Since wm wy := by subst hwy; (repeat (first | with_reducible (exact Since.refl _) | with_reducible assumption | with_reducible (refine Since.drew ?_) | with_reducible (refine Since.drewN ?_ _) | with_reducible (refine Since.alloc ?_ _) | (with_reducible (refine Since.setCell ?_ ?_ _); rotate_left; focus (first | (simp; done) | (simp; omega) | omega)) | (with_reducible (refine Since.trans ?_ (by with_reducible assumption)))))
    have hT := hT.trans hU
    have rS := rS.since hU
    have rT := rT.since hU
    have rP := rP.since hU
    clear hwy hU
    generalize wm.heap.size = bq at *
    obtain ⟨s1, s2, s3, s4, s5⟩ := lcells rS
    obtain ⟨t1, t2, t3, t4, t5⟩ := lcells rT
    go_cut [12] (fun x wx => x = .bool (o1 || o2 || o3 || o4) ∧ Since wy wx)
    case first =>
      clear rS rT rP rQ hT
      have hcases : o1 = true ∨ (o1 = false ∧ o2 = true) ∨ (o1 = false ∧ o2 = false ∧ o3 = true) ∨ (o1 = false ∧ o2 = false ∧ o3 = false) := by cases o1 <;> cases o2 <;> cases o3 <;> simp
      have hSy : Since wy wy := Since.refl _
      rcases hcases with e1 | ⟨e1, e2⟩ | ⟨e1, e2, e3⟩ | ⟨e1, e2, e3⟩
      all_goals (subst e1; (try subst e2); (try subst e3))
      all_goals (go_wp2_with (first | (go_at_call 12; (with_reducible refine (HO1.out _).mono ?_); rintro e wk ⟨rfl, hSk⟩; have s1 := (hSk.1 _ _ s5).trans s1; have s2 := (hSk.1 _ _ s5).trans s2; have s3 := (hSk.1 _ _ s5).trans s3; have s4 := (hSk.1 _ _ s5).trans s4; have t1 := (hSk.1 _ _ t5).trans t1; have t2 := (hSk.1 _ _ t5).trans t2; have t3 := (hSk.1 _ _ t5).trans t3; have t4 := (hSk.1 _ _ t5).trans t4; have s5 := hSk.2.2.1 _ s5; have t5 := hSk.2.2.1 _ t5; have hSy := hSy.trans hSk; clear hSk) | (go_at_call 12; (with_reducible refine (HO2.out _).mono ?_); rintro e wk ⟨rfl, hSk⟩; have s1 := (hSk.1 _ _ s5).trans s1; have s2 := (hSk.1 _ _ s5).trans s2; have s3 := (hSk.1 _ _ s5).trans s3; have s4 := (hSk.1 _ _ s5).trans s4; have t1 := (hSk.1 _ _ t5).trans t1; have t2 := (hSk.1 _ _ t5).trans t2; have t3 := (hSk.1 _ _ t5).trans t3; have t4 := (hSk.1 _ _ t5).trans t4; have s5 := hSk.2.2.1 _ s5; have t5 := hSk.2.2.1 _ t5; have hSy := hSy.trans hSk; clear hSk) | (go_at_call 12; (with_reducible refine (HO3.out _).mono ?_); rintro e wk ⟨rfl, hSk⟩; have s1 := (hSk.1 _ _ s5).trans s1; have s2 := (hSk.1 _ _ s5).trans s2; have s3 := (hSk.1 _ _ s5).trans s3; have s4 := (hSk.1 _ _ s5).trans s4; have t1 := (hSk.1 _ _ t5).trans t1; have t2 := (hSk.1 _ _ t5).trans t2; have t3 := (hSk.1 _ _ t5).trans t3; have t4 := (hSk.1 _ _ t5).trans t4; have s5 := hSk.2.2.1 _ s5; have t5 := hSk.2.2.1 _ t5; have hSy := hSy.trans hSk; clear hSk) | (go_at_call 12; (with_reducible refine (HO4.out _).mono ?_); rintro e wk ⟨rfl, hSk⟩; have s1 := (hSk.1 _ _ s5).trans s1; have s2 := (hSk.1 _ _ s5).trans s2; have s3 := (hSk.1 _ _ s5).trans s3; have s4 := (hSk.1 _ _ s5).trans s4; have t1 := (hSk.1 _ _ t5).trans t1; have t2 := (hSk.1 _ _ t5).trans t2; have t3 := (hSk.1 _ _ t5).trans t3; have t4 := (hSk.1 _ _ t5).trans t4; have s5 := hSk.2.2.1 _ s5; have t5 := hSk.2.2.1 _ t5; have hSy := hSy.trans hSk; clear hSk) ))
      all_goals go_meet
      all_goals exact ⟨by first | rfl | simp, hSy⟩
    obtain ⟨rfl, hU⟩ := hcut
    have hT := hT.trans hU
    have rS := rS.since hU
    have rP := rP.since hU
    have rQ := rQ.since hU
    clear hU s1 s2 s3 s4 s5 t1 t2 t3 t4 t5 rT
    obtain ⟨s1, s2, s3, s4, s5⟩ := lcells rS
    obtain ⟨c1, c2, c3, c4, c5, c6, c7⟩ := ccells rP
    obtain ⟨d1, d2, d3, d4, d5, d6, d7⟩ := ccells rQ
    simp only at c1 c2 c3 c4 c5 c6 d1 d2 d3 d4 d5 d6
    have hon := HON.out
    generalize (o1 || o2 || o3 || o4) = on at *
    cases on
    · clear hon HON
      go_wp2_with (go_at_call 12; (with_reducible refine (HO5.out _).mono ?_); rintro e wk ⟨rfl, hSk⟩; have rP := rP.since hSk; have rQ := rQ.since hSk; have hT := hT.trans hSk; clear hSk s1 s2 s3 s4 s5 c1 c2 c3 c4 c5 c6 c7 d1 d2 d3 d4 d5 d6 d7; obtain ⟨c1, c2, c3, c4, c5, c6, c7⟩ := ccells rP; obtain ⟨d1, d2, d3, d4, d5, d6, d7⟩ := ccells rQ; simp only at c1 c2 c3 c4 c5 c6 d1 d2 d3 d4 d5 d6)
      go_ret
      exact ⟨by first | rfl | simp, hT⟩
    · clear hon HON
      go_wp2_with (go_at_call 12; (with_reducible refine (HO5.out _).mono ?_); rintro e wk ⟨rfl, hSk⟩; have rP := rP.since hSk; have rQ := rQ.since hSk; have hT := hT.trans hSk; clear hSk s1 s2 s3 s4 s5 c1 c2 c3 c4 c5 c6 c7 d1 d2 d3 d4 d5 d6 d7; obtain ⟨c1, c2, c3, c4, c5, c6, c7⟩ := ccells rP; obtain ⟨d1, d2, d3, d4, d5, d6, d7⟩ := ccells rQ; simp only at c1 c2 c3 c4 c5 c6 d1 d2 d3 d4 d5 d6)
      go_ret
      exact ⟨by first | rfl | simp, hT⟩

  · have hne : (pk != 1) = true := by simp [hpk]
    clear hpk HPD HB HD HI
    refine wp_loop_rounds 2 ?_
    rw [rounds_succ]
    go_upto_region 17 with fail
    go_upto_region 18 with (go_at_call 17; (with_reducible refine (HQ.out _).mono ?_); rintro e wm ⟨rfl, hSk⟩; have hU : Since wy wm := (by (repeat (first | with_reducible (exact Since.refl _) | with_reducible assumption | with_reducible (refine Since.drew ?_) | with_reducible (refine Since.drewN ?_ _) | with_reducible (refine Since.alloc ?_ _) | (with_reducible (refine Since.setCell ?_ ?_ _); rotate_left; focus (first | (simp; done) | (simp; omega) | omega)) | (with_reducible (refine Since.trans ?_ (by with_reducible assumption)))))); have rS := rS.since hU; have rT := rT.since hU; have rP := rP.since hU; have hT := hT.trans hU; clear hSk hU s1 s2 s3 s4 s5 t1 t2 t3 t4 t5 c1 c2 c3 c4 c5 c6 c7)
    refine wp_named fun wyy hwyy => ?_
    have rQ : Row wyy wm.heap.size 6 (Cf ⟨uk, ux, uy, ud⟩) := by subst hwyy; exact HCQ.out wm _ rfl _
    have hU : Since wm wyy := by subst hwyy; (repeat (first | with_reducible (exact Since.refl _) | with_reducible assumption | with_reducible (refine Since.drew ?_) | with_reducible (refine Since.drewN ?_ _) | with_reducible (refine Since.alloc ?_ _) | (with_reducible (refine Since.setCell ?_ ?_ _); rotate_left; focus (first | (simp; done) | (simp; omega) | omega)) | (with_reducible (refine Since.trans ?_ (by with_reducible assumption)))))
    have hT := hT.trans hU
    have rS := rS.since hU
    have rT := rT.since hU
    have rP := rP.since hU
    clear hwyy hU
    generalize wm.heap.size = bq at *
    obtain ⟨s1, s2, s3, s4, s5⟩ := lcells rS
    obtain ⟨t1, t2, t3, t4, t5⟩ := lcells rT
    go_cut [12] (fun x wx => x = .bool (o1 || o2 || o3 || o4) ∧ Since wyy wx)
    case first =>
      clear rS rT rP rQ hT
      have hcases : o1 = true ∨ (o1 = false ∧ o2 = true) ∨ (o1 = false ∧ o2 = false ∧ o3 = true) ∨ (o1 = false ∧ o2 = false ∧ o3 = false) := by cases o1 <;> cases o2 <;> cases o3 <;> simp
      have hSy : Since wyy wyy := Since.refl _
      rcases hcases with e1 | ⟨e1, e2⟩ | ⟨e1, e2, e3⟩ | ⟨e1, e2, e3⟩
      all_goals (subst e1; (try subst e2); (try subst e3))
      all_goals (go_wp2_with (first | (go_at_call 12; (with_reducible refine (HO1.out _).mono ?_); rintro e wk ⟨rfl, hSk⟩; have s1 := (hSk.1 _ _ s5).trans s1; have s2 := (hSk.1 _ _ s5).trans s2; have s3 := (hSk.1 _ _ s5).trans s3; have s4 := (hSk.1 _ _ s5).trans s4; have t1 := (hSk.1 _ _ t5).trans t1; have t2 := (hSk.1 _ _ t5).trans t2; have t3 := (hSk.1 _ _ t5).trans t3; have t4 := (hSk.1 _ _ t5).trans t4; have s5 := hSk.2.2.1 _ s5; have t5 := hSk.2.2.1 _ t5; have hSy := hSy.trans hSk; clear hSk) | (go_at_call 12; (with_reducible refine (HO2.out _).mono ?_); rintro e wk ⟨rfl, hSk⟩; have s1 := (hSk.1 _ _ s5).trans s1; have s2 := (hSk.1 _ _ s5).trans s2; have s3 := (hSk.1 _ _ s5).trans s3; have s4 := (hSk.1 _ _ s5).trans s4; have t1 := (hSk.1 _ _ t5).trans t1; have t2 := (hSk.1 _ _ t5).trans t2; have t3 := (hSk.1 _ _ t5).trans t3; have t4 := (hSk.1 _ _ t5).trans t4; have s5 := hSk.2.2.1 _ s5; have t5 := hSk.2.2.1 _ t5; have hSy := hSy.trans hSk; clear hSk) | (go_at_call 12; (with_reducible refine (HO3.out _).mono ?_); rintro e wk ⟨rfl, hSk⟩; have s1 := (hSk.1 _ _ s5).trans s1; have s2 := (hSk.1 _ _ s5).trans s2; have s3 := (hSk.1 _ _ s5).trans s3; have s4 := (hSk.1 _ _ s5).trans s4; have t1 := (hSk.1 _ _ t5).trans t1; have t2 := (hSk.1 _ _ t5).trans t2; have t3 := (hSk.1 _ _ t5).trans t3; have t4 := (hSk.1 _ _ t5).trans t4; have s5 := hSk.2.2.1 _ s5; have t5 := hSk.2.2.1 _ t5; have hSy := hSy.trans hSk; clear hSk) | (go_at_call 12; (with_reducible refine (HO4.out _).mono ?_); rintro e wk ⟨rfl, hSk⟩; have s1 := (hSk.1 _ _ s5).trans s1; have s2 := (hSk.1 _ _ s5).trans s2; have s3 := (hSk.1 _ _ s5).trans s3; have s4 := (hSk.1 _ _ s5).trans s4; have t1 := (hSk.1 _ _ t5).trans t1; have t2 := (hSk.1 _ _ t5).trans t2; have t3 := (hSk.1 _ _ t5).trans t3; have t4 := (hSk.1 _ _ t5).trans t4; have s5 := hSk.2.2.1 _ s5; have t5 := hSk.2.2.1 _ t5; have hSy := hSy.trans hSk; clear hSk) ))
      all_goals go_meet
      all_goals exact ⟨by first | rfl | simp, hSy⟩
    obtain ⟨rfl, hU⟩ := hcut
    have hT := hT.trans hU
    have rS := rS.since hU
    have rP := rP.since hU
    have rQ := rQ.since hU
    clear hU s1 s2 s3 s4 s5 t1 t2 t3 t4 t5 rT
    obtain ⟨s1, s2, s3, s4, s5⟩ := lcells rS
    obtain ⟨c1, c2, c3, c4, c5, c6, c7⟩ := ccells rP
    obtain ⟨d1, d2, d3, d4, d5, d6, d7⟩ := ccells rQ
    simp only at c1 c2 c3 c4 c5 c6 d1 d2 d3 d4 d5 d6
    have hon := HON.out
    generalize (o1 || o2 || o3 || o4) = on at *
    cases on
    · clear hon HON
      go_wp2_with (go_at_call 12; (with_reducible refine (HO5.out _).mono ?_); rintro e wk ⟨rfl, hSk⟩; have rP := rP.since hSk; have rQ := rQ.since hSk; have hT := hT.trans hSk; clear hSk s1 s2 s3 s4 s5 c1 c2 c3 c4 c5 c6 c7 d1 d2 d3 d4 d5 d6 d7; obtain ⟨c1, c2, c3, c4, c5, c6, c7⟩ := ccells rP; obtain ⟨d1, d2, d3, d4, d5, d6, d7⟩ := ccells rQ; simp only at c1 c2 c3 c4 c5 c6 d1 d2 d3 d4 d5 d6)
      go_ret
      exact ⟨by first | rfl | simp, hT⟩
    · have hpk : decide (0 < pk) = true := by simpa using hon rfl
      clear hon HON
      go_wp2_with (go_at_call 12; (with_reducible refine (HO5.out _).mono ?_); rintro e wk ⟨rfl, hSk⟩; have rP := rP.since hSk; have rQ := rQ.since hSk; have hT := hT.trans hSk; clear hSk s1 s2 s3 s4 s5 c1 c2 c3 c4 c5 c6 c7 d1 d2 d3 d4 d5 d6 d7; obtain ⟨c1, c2, c3, c4, c5, c6, c7⟩ := ccells rP; obtain ⟨d1, d2, d3, d4, d5, d6, d7⟩ := ccells rQ; simp only at c1 c2 c3 c4 c5 c6 d1 d2 d3 d4 d5 d6)
      go_ret
      exact ⟨by first | rfl | simp, hT⟩

end Go.Proofs.Ytmimdicflmgchaa
