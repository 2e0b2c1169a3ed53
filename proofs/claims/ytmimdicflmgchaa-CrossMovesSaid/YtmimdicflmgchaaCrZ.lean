/-
  Layer 15: the law CrossSame, walked.
-/
import Derived.Test.YtmimdicflmgchaaCrY
namespace Go.Proofs.Ytmimdicflmgchaa
open Go.RowKit
set_option linter.unusedVariables false

set_option maxRecDepth 100000 in
theorem iq0 (v0 v1 v2 v3 v4 v5 v6 v7 v8 v9 v10 v11 v12 v13 v14 v15 v16 v17 v18 v19 v20 v21 v22 v23 v24 v25 v26 v27 v28 v29 v30 v31 : Value) (w : World) : (Instr.index 46 (.agg #[v0, v1, v2, v3, v4, v5, v6, v7, v8, v9, v10, v11, v12, v13, v14, v15, v16, v17, v18, v19, v20, v21, v22, v23, v24, v25, v26, v27, v28, v29, v30, v31]) (.int .i64 0)).run Try.prog w = .ok (.agg #[v0, v1, v2, v3, v4, v5, v6, v7]) w := by rfl
set_option maxRecDepth 100000 in
theorem iq1 (v0 v1 v2 v3 v4 v5 v6 v7 v8 v9 v10 v11 v12 v13 v14 v15 v16 v17 v18 v19 v20 v21 v22 v23 v24 v25 v26 v27 v28 v29 v30 v31 : Value) (w : World) : (Instr.index 46 (.agg #[v0, v1, v2, v3, v4, v5, v6, v7, v8, v9, v10, v11, v12, v13, v14, v15, v16, v17, v18, v19, v20, v21, v22, v23, v24, v25, v26, v27, v28, v29, v30, v31]) (.int .i64 1)).run Try.prog w = .ok (.agg #[v8, v9, v10, v11, v12, v13, v14, v15]) w := by rfl
set_option maxRecDepth 100000 in
theorem iq2 (v0 v1 v2 v3 v4 v5 v6 v7 v8 v9 v10 v11 v12 v13 v14 v15 v16 v17 v18 v19 v20 v21 v22 v23 v24 v25 v26 v27 v28 v29 v30 v31 : Value) (w : World) : (Instr.index 46 (.agg #[v0, v1, v2, v3, v4, v5, v6, v7, v8, v9, v10, v11, v12, v13, v14, v15, v16, v17, v18, v19, v20, v21, v22, v23, v24, v25, v26, v27, v28, v29, v30, v31]) (.int .i64 2)).run Try.prog w = .ok (.agg #[v16, v17, v18, v19, v20, v21, v22, v23]) w := by rfl
set_option maxRecDepth 100000 in
theorem iq3 (v0 v1 v2 v3 v4 v5 v6 v7 v8 v9 v10 v11 v12 v13 v14 v15 v16 v17 v18 v19 v20 v21 v22 v23 v24 v25 v26 v27 v28 v29 v30 v31 : Value) (w : World) : (Instr.index 46 (.agg #[v0, v1, v2, v3, v4, v5, v6, v7, v8, v9, v10, v11, v12, v13, v14, v15, v16, v17, v18, v19, v20, v21, v22, v23, v24, v25, v26, v27, v28, v29, v30, v31]) (.int .i64 3)).run Try.prog w = .ok (.agg #[v24, v25, v26, v27, v28, v29, v30, v31]) w := by rfl
theorem eq_ptx (w : World) (x y : Int) : (Op.equalIn 10000 23 (.agg #[.int .i64 x, .int .i64 y]) (.agg #[.int .i64 x, .int .i64 y])).run Try.prog w = .ok true w := by rw [eq_pt]; simp
set_option maxRecDepth 100000 in
set_option maxHeartbeats 16000000 in
theorem crosssame_of (q0 q1 q2 q3 q4 q5 q6 q7 ax ay bx bz cx cy dx dz pk px py pd X Y : Int) (ok : Bool) (w : World)
    (hL : ∀ w, Calls Try.prog 16 #[.agg #[.int .i32 q0, .int .i32 q1, .int .i32 q2, .int .i32 q3, .int .i32 q4, .int .i32 q5, .int .i32 q6, .int .i32 q7]] w fun e w' => e = .returned (.tuple #[.agg #[.int .i64 ax, .int .i64 ay, .int .i64 bx, .int .i64 bz], .agg #[.int .i64 cx, .int .i64 cy, .int .i64 dx, .int .i64 dz]]) ∧ Since w w')
    (hM : ∀ w, Calls Try.prog 17 #[.agg #[.int .i64 ax, .int .i64 ay, .int .i64 bx, .int .i64 bz], .agg #[.int .i64 cx, .int .i64 cy, .int .i64 dx, .int .i64 dz]] w fun e w' => e = .returned (.tuple #[.agg #[.int .i64 pk, .int .i64 (hiW px), .int .u64 (loW px), .int .i64 (hiW py), .int .u64 (loW py), .int .i64 pd], .int .i64 0]) ∧ Since w w')
    (hM0 : ∀ w, Calls Try.prog 17 #[.agg #[.int .i64 cx, .int .i64 cy, .int .i64 dx, .int .i64 dz], .agg #[.int .i64 ax, .int .i64 ay, .int .i64 bx, .int .i64 bz]] w fun e w' => e = .returned (.tuple #[.agg #[.int .i64 pk, .int .i64 (hiW px), .int .u64 (loW px), .int .i64 (hiW py), .int .u64 (loW py), .int .i64 pd], .int .i64 0]) ∧ Since w w')
    (hM1 : ∀ w, Calls Try.prog 17 #[.agg #[.int .i64 bx, .int .i64 bz, .int .i64 ax, .int .i64 ay], .agg #[.int .i64 cx, .int .i64 cy, .int .i64 dx, .int .i64 dz]] w fun e w' => e = .returned (.tuple #[.agg #[.int .i64 pk, .int .i64 (hiW px), .int .u64 (loW px), .int .i64 (hiW py), .int .u64 (loW py), .int .i64 pd], .int .i64 0]) ∧ Since w w')
    (hM2 : ∀ w, Calls Try.prog 17 #[.agg #[.int .i64 ax, .int .i64 ay, .int .i64 bx, .int .i64 bz], .agg #[.int .i64 dx, .int .i64 dz, .int .i64 cx, .int .i64 cy]] w fun e w' => e = .returned (.tuple #[.agg #[.int .i64 pk, .int .i64 (hiW px), .int .u64 (loW px), .int .i64 (hiW py), .int .u64 (loW py), .int .i64 pd], .int .i64 0]) ∧ Since w w')
    (hM3 : ∀ w, Calls Try.prog 17 #[.agg #[.int .i64 dx, .int .i64 dz, .int .i64 cx, .int .i64 cy], .agg #[.int .i64 bx, .int .i64 bz, .int .i64 ax, .int .i64 ay]] w fun e w' => e = .returned (.tuple #[.agg #[.int .i64 pk, .int .i64 (hiW px), .int .u64 (loW px), .int .i64 (hiW py), .int .u64 (loW py), .int .i64 pd], .int .i64 0]) ∧ Since w w')
    (hP : ∀ w, Calls Try.prog 18 #[.agg #[.int .i64 pk, .int .i64 (hiW px), .int .u64 (loW px), .int .i64 (hiW py), .int .u64 (loW py), .int .i64 pd]] w fun e w' => e = .returned (.tuple #[.agg #[.int .i64 X, .int .i64 Y], .bool ok]) ∧ Since w w') :
    Calls Try.prog 4 #[.agg #[.int .i32 q0, .int .i32 q1, .int .i32 q2, .int .i32 q3, .int .i32 q4, .int .i32 q5, .int .i32 q6, .int .i32 q7]] w fun e w' => e = .returned (.bool true) ∧ Since w w' := by
  have hi0 := iq0
  have hi1 := iq1
  have hi2 := iq2
  have hi3 := iq3
  have HL := Lib.hid hL
  have HM := Lib.hid hM
  have HM0 := Lib.hid hM0
  have HM1 := Lib.hid hM1
  have HM2 := Lib.hid hM2
  have HM3 := Lib.hid hM3
  have HP := Lib.hid hP
  have HQ := Lib.hid (fun w b hb ty => p8row w b hb ty q0 q1 q2 q3 q4 q5 q6 q7)
  have HC := Lib.hid (fun w b hb ty => crow w b hb ty ⟨pk, px, py, pd⟩)
  clear hL hM hM0 hM1 hM2 hM3 hP
  go_enter Try.func4, Try.ntmps4
  go_upto_region 3 with (go_at_call 11; (with_reducible refine (alive15 _).mono ?_); rintro e wm ⟨rfl, hSk⟩; have rQ := (HQ.out w _ rfl _).since hSk; have hT : Since w wm := (by (repeat (first | with_reducible (exact Since.refl _) | with_reducible assumption | with_reducible (refine Since.drew ?_) | with_reducible (refine Since.drewN ?_ _) | with_reducible (refine Since.alloc ?_ _) | (with_reducible (refine Since.setCell ?_ ?_ _); rotate_left; focus (first | (simp; done) | (simp; omega) | omega)) | (with_reducible (refine Since.trans ?_ (by with_reducible assumption)))))); clear hSk; obtain ⟨x1, x2, x3, x4, x5, x6, x7, x8, x9⟩ := p8cells rQ)
  go_upto_region 4 with (go_at_call 16; (with_reducible refine (HL.out _).mono ?_); rintro e wn ⟨rfl, hSk⟩; have hT := hT.trans hSk; clear hSk rQ x1 x2 x3 x4 x5 x6 x7 x8 x9)
  refine wp_named fun wx hwx => ?_
  have rS : Row wx wn.heap.size 4 (Lf ⟨ax, ay, bx, bz⟩) := by subst hwx; exact (lrow wn _ rfl _ ⟨ax, ay, bx, bz⟩).alloc _
  have rT : Row wx (wn.heap.size + 1) 4 (Lf ⟨cx, cy, dx, dz⟩) := by subst hwx; exact lrow _ _ (by simp) _ ⟨cx, cy, dx, dz⟩
  have hT : Since w wx := by subst hwx; (repeat (first | with_reducible (exact Since.refl _) | with_reducible assumption | with_reducible (refine Since.drew ?_) | with_reducible (refine Since.drewN ?_ _) | with_reducible (refine Since.alloc ?_ _) | (with_reducible (refine Since.setCell ?_ ?_ _); rotate_left; focus (first | (simp; done) | (simp; omega) | omega)) | (with_reducible (refine Since.trans ?_ (by with_reducible assumption)))))
  clear hwx
  generalize wn.heap.size = bs at *
  obtain ⟨s1, s2, s3, s4, s5⟩ := lcells rS
  obtain ⟨t1, t2, t3, t4, t5⟩ := lcells rT
  go_upto_region 5 with (go_at_call 17; (with_reducible refine (HM.out _).mono ?_); rintro e wm ⟨rfl, hSk⟩; have rS := rS.since hSk; have rT := rT.since hSk; have hT := hT.trans hSk; clear hSk s1 s2 s3 s4 s5 t1 t2 t3 t4 t5)
  refine wp_named fun wy hwy => ?_
  have rP : Row wy wm.heap.size 6 (Cf ⟨pk, px, py, pd⟩) := by subst hwy; exact HC.out wm _ rfl _
  have hU : Since wm wy := by subst hwy; (repeat (first | with_reducible (exact Since.refl _) | with_reducible assumption | with_reducible (refine Since.drew ?_) | with_reducible (refine Since.drewN ?_ _) | with_reducible (refine Since.alloc ?_ _) | (with_reducible (refine Since.setCell ?_ ?_ _); rotate_left; focus (first | (simp; done) | (simp; omega) | omega)) | (with_reducible (refine Since.trans ?_ (by with_reducible assumption)))))
  have hT := hT.trans hU
  have rS := rS.since hU
  have rT := rT.since hU
  clear hwy hU
  generalize wm.heap.size = bp at *
  obtain ⟨c1, c2, c3, c4, c5, c6, c7⟩ := ccells rP
  simp only at c1 c2 c3 c4 c5 c6
  go_upto_region 6 with (go_at_call 18; (with_reducible refine (HP.out _).mono ?_); rintro e wm ⟨rfl, hSk⟩; have rS := rS.since hSk; have rT := rT.since hSk; have rP := rP.since hSk; have hT := hT.trans hSk; clear hSk c1 c2 c3 c4 c5 c6 c7)
  refine wp_named fun wz hwz => ?_
  have rA : Row wz wm.heap.size 2 (Pf X Y) := by subst hwz; exact prow wm _ rfl _ _ _
  have hU : Since wm wz := by subst hwz; (repeat (first | with_reducible (exact Since.refl _) | with_reducible assumption | with_reducible (refine Since.drew ?_) | with_reducible (refine Since.drewN ?_ _) | with_reducible (refine Since.alloc ?_ _) | (with_reducible (refine Since.setCell ?_ ?_ _); rotate_left; focus (first | (simp; done) | (simp; omega) | omega)) | (with_reducible (refine Since.trans ?_ (by with_reducible assumption)))))
  have hT := hT.trans hU
  have rS := rS.since hU
  have rT := rT.since hU
  have rP := rP.since hU
  clear hwz hU
  generalize wm.heap.size = ba at *
  obtain ⟨s1, s2, s3, s4, s5⟩ := lcells rS
  obtain ⟨t1, t2, t3, t4, t5⟩ := lcells rT
  go_wp2_with fail
  clear rS rT s1 s2 s3 s4 s5 t1 t2 t3 t4 t5 HQ HL HM
  go_loopw [62] (fun y wr => ∃ i : Nat, i ≤ 4 ∧ y = .int .i64 i ∧ Since w wr ∧ Row wr bp 6 (Cf ⟨pk, px, py, pd⟩) ∧ Row wr ba 2 (Pf X Y)) (fun y _ => 4 - (intOf y).toNat)
  case atStart => exact ⟨0, by omega, rfl, hT, rP, rA⟩
  case round =>
    obtain ⟨i, hi, rfl, hT, rP, rA⟩ := hrel
    by_cases hi4 : i < 4
    · have hh : i = 0 ∨ i = 1 ∨ i = 2 ∨ i = 3 := by omega
      rcases hh with rfl | rfl | rfl | rfl
      all_goals
        go_wp2_with (first | (go_at_call 17; (with_reducible refine (HM0.out _).mono ?_); rintro e wk ⟨rfl, hSk⟩; have hU : Since wr wk := (by (repeat (first | with_reducible (exact Since.refl _) | with_reducible assumption | with_reducible (refine Since.drew ?_) | with_reducible (refine Since.drewN ?_ _) | with_reducible (refine Since.alloc ?_ _) | (with_reducible (refine Since.setCell ?_ ?_ _); rotate_left; focus (first | (simp; done) | (simp; omega) | omega)) | (with_reducible (refine Since.trans ?_ (by with_reducible assumption)))))); have rP := rP.since hU; have rA := rA.since hU; have hT := hT.trans hU; clear hSk hU) | (go_at_call 17; (with_reducible refine (HM1.out _).mono ?_); rintro e wk ⟨rfl, hSk⟩; have hU : Since wr wk := (by (repeat (first | with_reducible (exact Since.refl _) | with_reducible assumption | with_reducible (refine Since.drew ?_) | with_reducible (refine Since.drewN ?_ _) | with_reducible (refine Since.alloc ?_ _) | (with_reducible (refine Since.setCell ?_ ?_ _); rotate_left; focus (first | (simp; done) | (simp; omega) | omega)) | (with_reducible (refine Since.trans ?_ (by with_reducible assumption)))))); have rP := rP.since hU; have rA := rA.since hU; have hT := hT.trans hU; clear hSk hU) | (go_at_call 17; (with_reducible refine (HM2.out _).mono ?_); rintro e wk ⟨rfl, hSk⟩; have hU : Since wr wk := (by (repeat (first | with_reducible (exact Since.refl _) | with_reducible assumption | with_reducible (refine Since.drew ?_) | with_reducible (refine Since.drewN ?_ _) | with_reducible (refine Since.alloc ?_ _) | (with_reducible (refine Since.setCell ?_ ?_ _); rotate_left; focus (first | (simp; done) | (simp; omega) | omega)) | (with_reducible (refine Since.trans ?_ (by with_reducible assumption)))))); have rP := rP.since hU; have rA := rA.since hU; have hT := hT.trans hU; clear hSk hU) | (go_at_call 17; (with_reducible refine (HM3.out _).mono ?_); rintro e wk ⟨rfl, hSk⟩; have hU : Since wr wk := (by (repeat (first | with_reducible (exact Since.refl _) | with_reducible assumption | with_reducible (refine Since.drew ?_) | with_reducible (refine Since.drewN ?_ _) | with_reducible (refine Since.alloc ?_ _) | (with_reducible (refine Since.setCell ?_ ?_ _); rotate_left; focus (first | (simp; done) | (simp; omega) | omega)) | (with_reducible (refine Since.trans ?_ (by with_reducible assumption)))))); have rP := rP.since hU; have rA := rA.since hU; have hT := hT.trans hU; clear hSk hU)  | (go_at_call 18; (with_reducible refine (HP.out _).mono ?_); rintro e wm ⟨rfl, hSk⟩; have rQ := (HC.out wk _ rfl 39).since hSk; have hU : Since wk wm := (by (repeat (first | with_reducible (exact Since.refl _) | with_reducible assumption | with_reducible (refine Since.drew ?_) | with_reducible (refine Since.drewN ?_ _) | with_reducible (refine Since.alloc ?_ _) | (with_reducible (refine Since.setCell ?_ ?_ _); rotate_left; focus (first | (simp; done) | (simp; omega) | omega)) | (with_reducible (refine Since.trans ?_ (by with_reducible assumption)))))); have rP := rP.since hU; have rA := rA.since hU; have hT := hT.trans hU; clear hSk hU; obtain ⟨c1, c2, c3, c4, c5, c6, c7⟩ := ccells rP; obtain ⟨d1, d2, d3, d4, d5, d6, d7⟩ := ccells rQ; obtain ⟨p1, p2, p3⟩ := pcells rA; simp only at c1 c2 c3 c4 c5 c6 d1 d2 d3 d4 d5 d6))
        go_roundw
        case rel => first | exact ⟨1, by omega, rfl, by (repeat (first | with_reducible (exact Since.refl _) | with_reducible assumption | with_reducible (refine Since.drew ?_) | with_reducible (refine Since.drewN ?_ _) | with_reducible (refine Since.alloc ?_ _) | (with_reducible (refine Since.setCell ?_ ?_ _); rotate_left; focus (first | (simp; done) | (simp; omega) | omega)) | (with_reducible (refine Since.trans ?_ (by with_reducible assumption))))), rP.alloc _, rA.alloc _⟩ | exact ⟨2, by omega, rfl, by (repeat (first | with_reducible (exact Since.refl _) | with_reducible assumption | with_reducible (refine Since.drew ?_) | with_reducible (refine Since.drewN ?_ _) | with_reducible (refine Since.alloc ?_ _) | (with_reducible (refine Since.setCell ?_ ?_ _); rotate_left; focus (first | (simp; done) | (simp; omega) | omega)) | (with_reducible (refine Since.trans ?_ (by with_reducible assumption))))), rP.alloc _, rA.alloc _⟩ | exact ⟨3, by omega, rfl, by (repeat (first | with_reducible (exact Since.refl _) | with_reducible assumption | with_reducible (refine Since.drew ?_) | with_reducible (refine Since.drewN ?_ _) | with_reducible (refine Since.alloc ?_ _) | (with_reducible (refine Since.setCell ?_ ?_ _); rotate_left; focus (first | (simp; done) | (simp; omega) | omega)) | (with_reducible (refine Since.trans ?_ (by with_reducible assumption))))), rP.alloc _, rA.alloc _⟩ | exact ⟨4, by omega, rfl, by (repeat (first | with_reducible (exact Since.refl _) | with_reducible assumption | with_reducible (refine Since.drew ?_) | with_reducible (refine Since.drewN ?_ _) | with_reducible (refine Since.alloc ?_ _) | (with_reducible (refine Since.setCell ?_ ?_ _); rotate_left; focus (first | (simp; done) | (simp; omega) | omega)) | (with_reducible (refine Since.trans ?_ (by with_reducible assumption))))), rP.alloc _, rA.alloc _⟩
        case measure => simp [intOf]
    · obtain rfl : i = 4 := by omega
      go_wp2
      go_ret
      exact ⟨by first | rfl | simp, hT⟩
theorem lnG_sm {a b c d : Int} (h1 : In32 a) (h2 : In32 b) (h3 : In32 c) (h4 : In32 d) : lnG ⟨sm a, sm b, sm c, sm d⟩ = true := by
  have := sm_range h1; have := sm_range h2; have := sm_range h3; have := sm_range h4
  unfold lnG
  rw [goodB_iff.2 (by simp only; omega), goodB_iff.2 (by simp only; omega)]
  rfl
theorem wf_lnG {s : Ln} (h : lnG s = true) : s.wf := by
  have k1 := goodB_iff.1 (Bool.and_eq_true_iff.1 h).1
  have k2 := goodB_iff.1 (Bool.and_eq_true_iff.1 h).2
  unfold Ln.wf InP In64
  omega
theorem meet_ok (s t : Ln) (hs : lnG s = true) (ht : lnG t = true) (w : World) : Calls Try.prog 17 #[s.v, t.v] w fun e w' => e = .returned (.tuple #[(meetG s t).v, .int .i64 0]) ∧ Since w w' := by
  have h := cr_meet s t (wf_lnG hs) (wf_lnG ht) w
  unfold meetCp meetE at h
  rw [hs, ht] at h
  exact h
theorem meet_d (s t : Ln) (hs : lnG s = true) (ht : lnG t = true) : (meetG s t).d ≤ 1125899906842624 := by
  have k1 := goodB_iff.1 (Bool.and_eq_true_iff.1 hs).1
  have k2 := goodB_iff.1 (Bool.and_eq_true_iff.1 hs).2
  have k3 := goodB_iff.1 (Bool.and_eq_true_iff.1 ht).1
  have k4 := goodB_iff.1 (Bool.and_eq_true_iff.1 ht).2
  have n1 : Near (s.bx - s.ax) := by unfold Near; omega
  have n2 : Near (s.bz - s.ay) := by unfold Near; omega
  have n5 : Near (t.bx - t.ax) := by unfold Near; omega
  have n6 : Near (t.bz - t.ay) := by unfold Near; omega
  have m5 := near_mul n1 n6; have m6 := near_mul n2 n5
  have hc : -562949953421312 ≤ cC s t ∧ cC s t ≤ 562949953421312 := by unfold cC crossI; omega
  unfold meetG
  split
  · decide
  · split
    · rcases touch_cases (ends s t) with ⟨_, e⟩ | ⟨x, _, e⟩ | e <;> rw [e]
      · decide
      · show (1 : Int) ≤ _; omega
      · decide
    · unfold crossCp
      split
      · rcases crossPos_k s (-nC s t) (-mC s t) (-cC s t) with ⟨_, e⟩ | ⟨_, e⟩ <;> rw [e]
        · show -cC s t ≤ _; omega
        · decide
      · rcases crossPos_k s (nC s t) (mC s t) (cC s t) with ⟨_, e⟩ | ⟨_, e⟩ <;> rw [e]
        · show cC s t ≤ _; omega
        · decide
theorem meet_sh (s t : Ln) (hs : lnG s = true) (ht : lnG t = true) (hk : (meetG s t).k = 1) : ShOK (meetG s t).x (meetG s t).d ∧ ShOK (meetG s t).y (meetG s t).d := by
  have k1 := goodB_iff.1 (Bool.and_eq_true_iff.1 hs).1
  have k2 := goodB_iff.1 (Bool.and_eq_true_iff.1 hs).2
  have hd := meet_d s t hs ht
  obtain ⟨h0, h1, h2, h3, h4⟩ := meetG_in s t hk
  have l1 : -4194304 ≤ lo2 s.ax s.bx := by unfold lo2; split <;> omega
  have l2 : hi2 s.ax s.bx ≤ 4194304 := by unfold hi2; split <;> omega
  have l3 : -4194304 ≤ lo2 s.ay s.bz := by unfold lo2; split <;> omega
  have l4 : hi2 s.ay s.bz ≤ 4194304 := by unfold hi2; split <;> omega
  have b1 : -4194304 * (meetG s t).d ≤ lo2 s.ax s.bx * (meetG s t).d := Int.mul_le_mul_of_nonneg_right l1 (by omega)
  have b2 : hi2 s.ax s.bx * (meetG s t).d ≤ 4194304 * (meetG s t).d := Int.mul_le_mul_of_nonneg_right l2 (by omega)
  have b3 : -4194304 * (meetG s t).d ≤ lo2 s.ay s.bz * (meetG s t).d := Int.mul_le_mul_of_nonneg_right l3 (by omega)
  have b4 : hi2 s.ay s.bz * (meetG s t).d ≤ 4194304 * (meetG s t).d := Int.mul_le_mul_of_nonneg_right l4 (by omega)
  unfold ShOK
  omega
theorem pixel_ok (s t : Ln) (hs : lnG s = true) (ht : lnG t = true) (w : World) : Calls Try.prog 18 #[(meetG s t).v] w fun e w' => e = .returned (.tuple #[Pt (pixX (meetG s t)) (pixY (meetG s t)), .bool ((meetG s t).k == 1)]) ∧ Since w w' :=
  cr_pixel _ (meet_sh s t hs ht) w
theorem walk_crosssame (q0 q1 q2 q3 q4 q5 q6 q7 : Int) (h0 : In32 q0) (h1 : In32 q1) (h2 : In32 q2) (h3 : In32 q3) (h4 : In32 q4) (h5 : In32 q5) (h6 : In32 q6) (h7 : In32 q7) (w : World) :
    Calls Try.prog 4 #[.agg #[.int .i32 q0, .int .i32 q1, .int .i32 q2, .int .i32 q3, .int .i32 q4, .int .i32 q5, .int .i32 q6, .int .i32 q7]] w fun e w' => e = .returned (.bool true) ∧ Since w w' := by
  have hs := lnG_sm h0 h1 h2 h3
  have ht := lnG_sm h4 h5 h6 h7
  have hrs : lnG (rev ⟨sm q0, sm q1, sm q2, sm q3⟩) = true := by rw [lnG_rev]; exact hs
  have hrt : lnG (rev ⟨sm q4, sm q5, sm q6, sm q7⟩) = true := by rw [lnG_rev]; exact ht
  have m0 := fun w => meet_ok _ _ hs ht w
  have m1 := fun w => meet_ok _ _ ht hs w
  have m2 := fun w => meet_ok _ _ hrs ht w
  have m3 := fun w => meet_ok _ _ hs hrt w
  have m4 := fun w => meet_ok _ _ hrt hrs w
  have mp := fun w => pixel_ok _ _ hs ht w
  rw [meetG_swap] at m1
  rw [meetG_rev] at m2
  rw [← meetG_swap, meetG_rev, meetG_swap] at m3
  rw [meetG_rev, ← meetG_swap, meetG_rev] at m4
  exact crosssame_of q0 q1 q2 q3 q4 q5 q6 q7 _ _ _ _ _ _ _ _ _ _ _ _ _ _ _ w (fun w => law_lines q0 q1 q2 q3 q4 q5 q6 q7 h0 h1 h2 h3 h4 h5 h6 h7 w) m0 m1 m2 m3 m4 mp
end Go.Proofs.Ytmimdicflmgchaa
