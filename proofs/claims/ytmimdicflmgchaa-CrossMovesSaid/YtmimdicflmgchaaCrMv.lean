/-
  Layer 15: the law CrossMoves, walked.
-/
import Derived.Test.YtmimdicflmgchaaCrZ
import Derived.Deep.QuietTactic
import Derived.BigQuiet
namespace Go.Proofs.Ytmimdicflmgchaa
open Go.RowKit
set_option linter.unusedVariables false

theorem mrow (w : World) (b : Nat) (hb : b = w.heap.size) (ty : TypeId) (x y : Int) : Row (w.alloc (.cells #[.int .i16 x, .int .i16 y] ty)) b 2 (fun j => if j = 0 then .int .i16 x else .int .i16 y) := by
  subst hb
  refine Row.of_cells fun j hj => ?_
  have h : j = 0 ∨ j = 1 := by omega
  rcases h with rfl | rfl <;> rfl
theorem crow_since {w w' : World} {b : Nat} {p : Cp} {ty : TypeId} (hb : b = w.heap.size) (h : Since (w.alloc (.cells #[.int .i64 p.k, .int .i64 (hiW p.x), .int .u64 (loW p.x), .int .i64 (hiW p.y), .int .u64 (loW p.y), .int .i64 p.d] ty)) w') : Row w' b 6 (Cf p) := (crow w b hb ty p).since h
set_option maxRecDepth 100000 in
set_option maxHeartbeats 64000000 in
theorem crossmoves_of (q0 q1 q2 q3 q4 q5 q6 q7 g h ax ay bx bz cx cy dx dz a1 a2 b1 b2 c1 c2 d1 d2 pk px py pd ux uy ud X Y U V m n : Int) (ok : Bool) (w : World) (hg : -32768 ≤ g ∧ g ≤ 32767) (hh : -32768 ≤ h ∧ h ≤ 32767) (em : g / 4 = m) (en : h / 4 = n)
    (hL : ∀ w, Calls Try.prog 16 #[.agg #[.int .i32 q0, .int .i32 q1, .int .i32 q2, .int .i32 q3, .int .i32 q4, .int .i32 q5, .int .i32 q6, .int .i32 q7]] w fun e w' => e = .returned (.tuple #[.agg #[.int .i64 ax, .int .i64 ay, .int .i64 bx, .int .i64 bz], .agg #[.int .i64 cx, .int .i64 cy, .int .i64 dx, .int .i64 dz]]) ∧ Since w w')
    (hM : ∀ w, Calls Try.prog 17 #[.agg #[.int .i64 ax, .int .i64 ay, .int .i64 bx, .int .i64 bz], .agg #[.int .i64 cx, .int .i64 cy, .int .i64 dx, .int .i64 dz]] w fun e w' => e = .returned (.tuple #[.agg #[.int .i64 pk, .int .i64 (hiW px), .int .u64 (loW px), .int .i64 (hiW py), .int .u64 (loW py), .int .i64 pd], .int .i64 0]) ∧ Since w w')
    (hA1 : ∀ w, Calls Try.prog 19 #[.agg #[.int .i64 ax, .int .i64 ay], .agg #[.int .i64 (64 * m), .int .i64 (64 * n)]] w fun e w' => e = .returned (.agg #[.int .i64 a1, .int .i64 a2]) ∧ Since w w')
    (hA2 : ∀ w, Calls Try.prog 19 #[.agg #[.int .i64 bx, .int .i64 bz], .agg #[.int .i64 (64 * m), .int .i64 (64 * n)]] w fun e w' => e = .returned (.agg #[.int .i64 b1, .int .i64 b2]) ∧ Since w w')
    (hA3 : ∀ w, Calls Try.prog 19 #[.agg #[.int .i64 cx, .int .i64 cy], .agg #[.int .i64 (64 * m), .int .i64 (64 * n)]] w fun e w' => e = .returned (.agg #[.int .i64 c1, .int .i64 c2]) ∧ Since w w')
    (hA4 : ∀ w, Calls Try.prog 19 #[.agg #[.int .i64 dx, .int .i64 dz], .agg #[.int .i64 (64 * m), .int .i64 (64 * n)]] w fun e w' => e = .returned (.agg #[.int .i64 d1, .int .i64 d2]) ∧ Since w w')
    (hM2 : ∀ w, Calls Try.prog 17 #[.agg #[.int .i64 a1, .int .i64 a2, .int .i64 b1, .int .i64 b2], .agg #[.int .i64 c1, .int .i64 c2, .int .i64 d1, .int .i64 d2]] w fun e w' => e = .returned (.tuple #[.agg #[.int .i64 pk, .int .i64 (hiW ux), .int .u64 (loW ux), .int .i64 (hiW uy), .int .u64 (loW uy), .int .i64 ud], .int .i64 0]) ∧ Since w w')
    (hP : ∀ w, Calls Try.prog 18 #[.agg #[.int .i64 pk, .int .i64 (hiW px), .int .u64 (loW px), .int .i64 (hiW py), .int .u64 (loW py), .int .i64 pd]] w fun e w' => e = .returned (.tuple #[.agg #[.int .i64 X, .int .i64 Y], .bool ok]) ∧ Since w w')
    (hP2 : ∀ w, Calls Try.prog 18 #[.agg #[.int .i64 pk, .int .i64 (hiW ux), .int .u64 (loW ux), .int .i64 (hiW uy), .int .u64 (loW uy), .int .i64 ud]] w fun e w' => e = .returned (.tuple #[.agg #[.int .i64 U, .int .i64 V], .bool ok]) ∧ Since w w')
    (hA5 : ok = true → ∀ w, Calls Try.prog 19 #[.agg #[.int .i64 X, .int .i64 Y], .agg #[.int .i64 m, .int .i64 n]] w fun e w' => e = .returned (.agg #[.int .i64 U, .int .i64 V]) ∧ Since w w') :
    Calls Try.prog 5 #[.agg #[.int .i32 q0, .int .i32 q1, .int .i32 q2, .int .i32 q3, .int .i32 q4, .int .i32 q5, .int .i32 q6, .int .i32 q7], .agg #[.int .i16 g, .int .i16 h]] w fun e w' => e = .returned (.bool true) ∧ Since w w' := by
  have v1 : IntKind.i64.wrap g = g := IntWalk.i64_in _ (by omega)
  have v2 : IntKind.i64.wrap h = h := IntWalk.i64_in _ (by omega)
  have v3 : IntKind.i64.wrap (g / 4) = m := by rw [em]; exact IntWalk.i64_in _ (by omega)
  have v4 : IntKind.i64.wrap (h / 4) = n := by rw [en]; exact IntWalk.i64_in _ (by omega)
  have v5 : IntKind.i64.wrap (64 * m) = 64 * m := IntWalk.i64_in _ (by omega)
  have v6 : IntKind.i64.wrap (64 * n) = 64 * n := IntWalk.i64_in _ (by omega)
  have bm : -8192 ≤ m ∧ m ≤ 8191 := by omega
  have bn : -8192 ≤ n ∧ n ≤ 8191 := by omega
  have v7 : Int.tdiv (64 * m) 64 = m := Int.mul_tdiv_cancel_left m (by omega)
  have v8 : Int.tdiv (64 * n) 64 = n := Int.mul_tdiv_cancel_left n (by omega)
  have HL := Lib.hid hL
  have HM := Lib.hid hM
  have HA1 := Lib.hid hA1
  have HA2 := Lib.hid hA2
  have HA3 := Lib.hid hA3
  have HA4 := Lib.hid hA4
  have HM2 := Lib.hid hM2
  have HP := Lib.hid hP
  have HP2 := Lib.hid hP2
  have HA5 := Lib.hid hA5
  have HR := Lib.hid (fun w b hb ty => p8row w b hb ty q0 q1 q2 q3 q4 q5 q6 q7)
  have HC := Lib.hid (fun w b hb ty => crow w b hb ty ⟨pk, px, py, pd⟩)
  have HEM := Lib.hid em
  have HEN := Lib.hid en
  clear hL hM hA1 hA2 hA3 hA4 hM2 hP hP2 hA5 em en
  have hg1 := hg.1; have hg2 := hg.2; have hh1 := hh.1; have hh2 := hh.2
  clear hg hh
  go_enter Try.func5, Try.ntmps5
  go_upto_region 3 with (go_at_call 11; (with_reducible refine (alive15 _).mono ?_); rintro e wm ⟨rfl, hSk⟩; have rQ := ((HR.out w _ rfl _).alloc _).since hSk; have rG := (mrow _ (w.heap.size + 1) (by simp) _ g h).since hSk; have hT : Since w wm := (by (repeat (first | with_reducible (exact Since.refl _) | with_reducible assumption | with_reducible (refine Since.drew ?_) | with_reducible (refine Since.drewN ?_ _) | with_reducible (refine Since.alloc ?_ _) | (with_reducible (refine Since.setCell ?_ ?_ _); rotate_left; focus (first | (simp; done) | (simp; omega) | omega)) | (with_reducible (refine Since.trans ?_ (by with_reducible assumption)))))); clear hSk; obtain ⟨x1, x2, x3, x4, x5, x6, x7, x8, x9⟩ := p8cells rQ)
  go_upto_region 4 with (go_at_call 16; (with_reducible refine (HL.out _).mono ?_); rintro e wn ⟨rfl, hSk⟩; have hT := hT.trans hSk; have rG := rG.since hSk; clear hSk rQ x1 x2 x3 x4 x5 x6 x7 x8 x9)
  refine wp_named fun wx hwx => ?_
  have rS : Row wx wn.heap.size 4 (Lf ⟨ax, ay, bx, bz⟩) := by subst hwx; exact (lrow wn _ rfl _ ⟨ax, ay, bx, bz⟩).alloc _
  have rT : Row wx (wn.heap.size + 1) 4 (Lf ⟨cx, cy, dx, dz⟩) := by subst hwx; exact lrow _ _ (by simp) _ ⟨cx, cy, dx, dz⟩
  have hU : Since wn wx := by subst hwx; (repeat (first | with_reducible (exact Since.refl _) | with_reducible assumption | with_reducible (refine Since.drew ?_) | with_reducible (refine Since.drewN ?_ _) | with_reducible (refine Since.alloc ?_ _) | (with_reducible (refine Since.setCell ?_ ?_ _); rotate_left; focus (first | (simp; done) | (simp; omega) | omega)) | (with_reducible (refine Since.trans ?_ (by with_reducible assumption)))))
  have hT := hT.trans hU
  have rG := rG.since hU
  clear hwx hU
  generalize wn.heap.size = bs at *
  have y1 : wx.cell? ⟨w.heap.size + 1, 0, none⟩ = some (.int .i16 g) := rG.1 0 (by omega)
  have y2 : wx.cell? ⟨w.heap.size + 1, 1, none⟩ = some (.int .i16 h) := rG.1 1 (by omega)
  have y3 := rG.2.2
  go_upto_region 5 with fail
  refine wp_named fun wy hwy => ?_
  have rD : Row wy wx.heap.size 2 (Pf (64 * m) (64 * n)) := by subst hwy; rw [HEM.out, HEN.out]; exact prow wx _ rfl _ _ _
  have hU : Since wx wy := by subst hwy; (repeat (first | with_reducible (exact Since.refl _) | with_reducible assumption | with_reducible (refine Since.drew ?_) | with_reducible (refine Since.drewN ?_ _) | with_reducible (refine Since.alloc ?_ _) | (with_reducible (refine Since.setCell ?_ ?_ _); rotate_left; focus (first | (simp; done) | (simp; omega) | omega)) | (with_reducible (refine Since.trans ?_ (by with_reducible assumption)))))
  have hT := hT.trans hU
  have rS := rS.since hU
  have rT := rT.since hU
  clear hwy hU rG y1 y2 y3 v1 v2 v3 v4 v5 v6
  generalize wx.heap.size = bd at *
  obtain ⟨s1, s2, s3, s4, s5⟩ := lcells rS
  obtain ⟨t1, t2, t3, t4, t5⟩ := lcells rT
  go_upto_region 6 with (go_at_call 17; (with_reducible refine (HM.out _).mono ?_); rintro e wm ⟨rfl, hSk⟩; have rS := rS.since hSk; have rT := rT.since hSk; have rD := rD.since hSk; have hT := hT.trans hSk; clear hSk s1 s2 s3 s4 s5 t1 t2 t3 t4 t5)
  refine wp_named fun wq hwq => ?_
  have rP : Row wq wm.heap.size 6 (Cf ⟨pk, px, py, pd⟩) := by subst hwq; exact HC.out wm _ rfl _
  have hU : Since wm wq := by subst hwq; (repeat (first | with_reducible (exact Since.refl _) | with_reducible assumption | with_reducible (refine Since.drew ?_) | with_reducible (refine Since.drewN ?_ _) | with_reducible (refine Since.alloc ?_ _) | (with_reducible (refine Since.setCell ?_ ?_ _); rotate_left; focus (first | (simp; done) | (simp; omega) | omega)) | (with_reducible (refine Since.trans ?_ (by with_reducible assumption)))))
  have hT := hT.trans hU
  have rS := rS.since hU
  have rT := rT.since hU
  have rD := rD.since hU
  clear hwq hU
  generalize wm.heap.size = bp at *
  obtain ⟨s1, s2, s3, s4, s5⟩ := lcells rS
  obtain ⟨t1, t2, t3, t4, t5⟩ := lcells rT
  obtain ⟨r1, r2, r3⟩ := pcells rD
  go_cut [10, 11] (fun x y wx => ∃ p : Nat, x = .pointer (some ⟨p, 0, none⟩) ∧ y = .int .i64 0 ∧ Since wq wx ∧ Row wx p 6 (Cf ⟨pk, ux, uy, ud⟩))
  case first =>
    clear rS rT rD rP hT HL HM HP HP2 HA5 HR HC HEM HEN v7 v8 bm bn hg1 hg2 hh1 hh2
    have tok11 : True := trivial
    have tok12 : True := trivial
    have tok13 : True := trivial
    have tok14 : True := trivial
    have tok15 : True := trivial
    (refine wp_named fun wr7 hwr7 => ?_; go_region_held3 (fun w' => (∀ b o, b < wr7.heap.size → w'.cell? ⟨b, o, none⟩ = wr7.cell? ⟨b, o, none⟩) ∧ (∀ b o, b < wr7.heap.size → w'.frozen? ⟨b, o, none⟩ = wr7.frozen? ⟨b, o, none⟩) ∧ (∀ k, k < wr7.heap.size → k < w'.heap.size) ∧ Below wr7.heap.size wr7 w') ((subst hwr7; (repeat (with_reducible (refine since_put ?_ ?_ _); rotate_left; focus (first | (simp; done) | (simp; omega) | omega))); first | with_reducible assumption | (refine since_step (by with_reducible assumption) ?_; first | with_reducible assumption | ((repeat (first | with_reducible (exact Since.refl _) | with_reducible assumption | with_reducible (refine Since.drew ?_) | with_reducible (refine Since.drewN ?_ _) | with_reducible (refine Since.alloc ?_ _) | (with_reducible (refine Since.setCell ?_ ?_ _); rotate_left; focus (first | (simp; done) | (simp; omega) | omega)))); done)) | (refine since_step (Since.refl _) ?_; first | with_reducible assumption | ((repeat (first | with_reducible (exact Since.refl _) | with_reducible assumption | with_reducible (refine Since.drew ?_) | with_reducible (refine Since.drewN ?_ _) | with_reducible (refine Since.alloc ?_ _) | (with_reducible (refine Since.setCell ?_ ?_ _); rotate_left; focus (first | (simp; done) | (simp; omega) | omega)) | (with_reducible (refine Since.trans ?_ (by with_reducible assumption))))); done)))) (first | (go_at_call 19; have _t := tok11; (with_reducible refine (HA1.out _).mono ?_); rintro e w11 ⟨rfl, hS11⟩; have hT11 := hS11; obtain ⟨hc11, hf11, hz11, hb11⟩ := hT11; have hZ11 := hS11.below.size; (try simp at hZ11); (try (have hq11_wq := hz11 wq.heap.size (by first | with_reducible assumption | (simp; done) | (simp; omega)))); (try (have hq11_w12 := hz11 w12.heap.size (by first | with_reducible assumption | (simp; done) | (simp; omega)))); (try (have hq11_w13 := hz11 w13.heap.size (by first | with_reducible assumption | (simp; done) | (simp; omega)))); (try (have hq11_w14 := hz11 w14.heap.size (by first | with_reducible assumption | (simp; done) | (simp; omega)))); (try (have hq11_w15 := hz11 w15.heap.size (by first | with_reducible assumption | (simp; done) | (simp; omega)))); clear tok11) | (go_at_call 19; have _t := tok12; (with_reducible refine (HA2.out _).mono ?_); rintro e w12 ⟨rfl, hS12⟩; have hT12 := hS12; obtain ⟨hc12, hf12, hz12, hb12⟩ := hT12; have hZ12 := hS12.below.size; (try simp at hZ12); (try (have hq12_wq := hz12 wq.heap.size (by first | with_reducible assumption | (simp; done) | (simp; omega)))); (try (have hq12_w11 := hz12 w11.heap.size (by first | with_reducible assumption | (simp; done) | (simp; omega)))); (try (have hq12_w13 := hz12 w13.heap.size (by first | with_reducible assumption | (simp; done) | (simp; omega)))); (try (have hq12_w14 := hz12 w14.heap.size (by first | with_reducible assumption | (simp; done) | (simp; omega)))); (try (have hq12_w15 := hz12 w15.heap.size (by first | with_reducible assumption | (simp; done) | (simp; omega)))); clear tok12) | (go_at_call 19; have _t := tok13; (with_reducible refine (HA3.out _).mono ?_); rintro e w13 ⟨rfl, hS13⟩; have hT13 := hS13; obtain ⟨hc13, hf13, hz13, hb13⟩ := hT13; have hZ13 := hS13.below.size; (try simp at hZ13); (try (have hq13_wq := hz13 wq.heap.size (by first | with_reducible assumption | (simp; done) | (simp; omega)))); (try (have hq13_w11 := hz13 w11.heap.size (by first | with_reducible assumption | (simp; done) | (simp; omega)))); (try (have hq13_w12 := hz13 w12.heap.size (by first | with_reducible assumption | (simp; done) | (simp; omega)))); (try (have hq13_w14 := hz13 w14.heap.size (by first | with_reducible assumption | (simp; done) | (simp; omega)))); (try (have hq13_w15 := hz13 w15.heap.size (by first | with_reducible assumption | (simp; done) | (simp; omega)))); clear tok13) | (go_at_call 19; have _t := tok14; (with_reducible refine (HA4.out _).mono ?_); rintro e w14 ⟨rfl, hS14⟩; have hT14 := hS14; obtain ⟨hc14, hf14, hz14, hb14⟩ := hT14; have hZ14 := hS14.below.size; (try simp at hZ14); (try (have hq14_wq := hz14 wq.heap.size (by first | with_reducible assumption | (simp; done) | (simp; omega)))); (try (have hq14_w11 := hz14 w11.heap.size (by first | with_reducible assumption | (simp; done) | (simp; omega)))); (try (have hq14_w12 := hz14 w12.heap.size (by first | with_reducible assumption | (simp; done) | (simp; omega)))); (try (have hq14_w13 := hz14 w13.heap.size (by first | with_reducible assumption | (simp; done) | (simp; omega)))); (try (have hq14_w15 := hz14 w15.heap.size (by first | with_reducible assumption | (simp; done) | (simp; omega)))); clear tok14) | (go_at_call 17; have _t := tok15; (with_reducible refine (HM2.out _).mono ?_); rintro e w15 ⟨rfl, hS15⟩; have hT15 := hS15; obtain ⟨hc15, hf15, hz15, hb15⟩ := hT15; have hZ15 := hS15.below.size; (try simp at hZ15); (try (have hq15_wq := hz15 wq.heap.size (by first | with_reducible assumption | (simp; done) | (simp; omega)))); (try (have hq15_w11 := hz15 w11.heap.size (by first | with_reducible assumption | (simp; done) | (simp; omega)))); (try (have hq15_w12 := hz15 w12.heap.size (by first | with_reducible assumption | (simp; done) | (simp; omega)))); (try (have hq15_w13 := hz15 w13.heap.size (by first | with_reducible assumption | (simp; done) | (simp; omega)))); (try (have hq15_w14 := hz15 w14.heap.size (by first | with_reducible assumption | (simp; done) | (simp; omega)))); clear tok15)); all_goals (rename_i hHeld; have hR7 : Since wr7 _ := hHeld; obtain ⟨hcR7, hfR7, hzR7, hbR7⟩ := hHeld; subst hwr7))
    all_goals (go_wp2_with fail)
    all_goals go_meet
    all_goals refine ⟨_, rfl, rfl, ?_, ?_⟩
    any_goals ((show Since _ _); (repeat (first | with_reducible (exact Since.refl _) | with_reducible assumption | with_reducible (refine Since.drew ?_) | with_reducible (refine Since.drewN ?_ _) | with_reducible (refine Since.alloc ?_ _) | (with_reducible (refine Since.setCell ?_ ?_ _); rotate_left; focus (first | (simp; done) | (simp; omega) | omega)) | (with_reducible (refine Since.trans ?_ (by with_reducible assumption))))); done)
    all_goals (repeat (first | with_reducible assumption | (with_reducible (refine crow _ _ ?_ _ ⟨pk, ux, uy, ud⟩); focus (first | with_reducible rfl | (simp; done))) | (with_reducible (refine crow0 _ _ ?_ _); focus (first | with_reducible rfl | (simp; done))) | with_reducible (refine cput (p0 := cpNone) ?_ ⟨pk, ux, uy, ud⟩) | with_reducible (refine Row.drew ?_) | with_reducible (refine Row.alloc ?_ _) | with_reducible (refine Row.since ?_ hS15) | with_reducible (refine Row.since ?_ hS14) | with_reducible (refine Row.since ?_ hS13) | with_reducible (refine Row.since ?_ hS12) | with_reducible (refine Row.since ?_ hS11)))
  obtain ⟨bu, rfl, rfl, hU, rU⟩ := hcut
  have hT := hT.trans hU
  have rP := rP.since hU
  have rD := rD.since hU
  clear hU rS rT s1 s2 s3 s4 s5 t1 t2 t3 t4 t5 r1 r2 r3
  obtain ⟨f1, f2, f3, f4, f5, f6, f7⟩ := ccells rP
  simp only at f1 f2 f3 f4 f5 f6
  go_upto_region 8 with (go_at_call 18; (with_reducible refine (HP.out _).mono ?_); rintro e wm ⟨rfl, hSk⟩; have rU := rU.since hSk; have rP := rP.since hSk; have rD := rD.since hSk; have hT := hT.trans hSk; clear hSk f1 f2 f3 f4 f5 f6 f7)
  refine wp_named fun wu hwu => ?_
  have rA : Row wu wm.heap.size 2 (Pf X Y) := by subst hwu; exact prow wm _ rfl _ _ _
  have hU : Since wm wu := by subst hwu; (repeat (first | with_reducible (exact Since.refl _) | with_reducible assumption | with_reducible (refine Since.drew ?_) | with_reducible (refine Since.drewN ?_ _) | with_reducible (refine Since.alloc ?_ _) | (with_reducible (refine Since.setCell ?_ ?_ _); rotate_left; focus (first | (simp; done) | (simp; omega) | omega)) | (with_reducible (refine Since.trans ?_ (by with_reducible assumption)))))
  have hT := hT.trans hU
  have rU := rU.since hU
  have rP := rP.since hU
  have rD := rD.since hU
  clear hwu hU
  generalize wm.heap.size = ba at *
  obtain ⟨f1, f2, f3, f4, f5, f6, f7⟩ := ccells rU
  simp only at f1 f2 f3 f4 f5 f6
  go_upto_region 9 with (go_at_call 18; (with_reducible refine (HP2.out _).mono ?_); rintro e wm ⟨rfl, hSk⟩; have rU := rU.since hSk; have rP := rP.since hSk; have rD := rD.since hSk; have rA := rA.since hSk; have hT := hT.trans hSk; clear hSk f1 f2 f3 f4 f5 f6 f7)
  refine wp_named fun wv hwv => ?_
  have rB : Row wv wm.heap.size 2 (Pf U V) := by subst hwv; exact prow wm _ rfl _ _ _
  have hU : Since wm wv := by subst hwv; (repeat (first | with_reducible (exact Since.refl _) | with_reducible assumption | with_reducible (refine Since.drew ?_) | with_reducible (refine Since.drewN ?_ _) | with_reducible (refine Since.alloc ?_ _) | (with_reducible (refine Since.setCell ?_ ?_ _); rotate_left; focus (first | (simp; done) | (simp; omega) | omega)) | (with_reducible (refine Since.trans ?_ (by with_reducible assumption)))))
  have hT := hT.trans hU
  have rU := rU.since hU
  have rP := rP.since hU
  have rD := rD.since hU
  have rA := rA.since hU
  clear hwv hU
  generalize wm.heap.size = bb at *
  obtain ⟨f1, f2, f3, f4, f5, f6, f7⟩ := ccells rU
  obtain ⟨k1, k2, k3, k4, k5, k6, k7⟩ := ccells rP
  simp only at f1 f2 f3 f4 f5 f6 k1 k2 k3 k4 k5 k6
  obtain ⟨i1, i2, i3⟩ := pcells rA
  obtain ⟨j1, j2, j3⟩ := pcells rB
  obtain ⟨r1, r2, r3⟩ := pcells rD
  cases ok
  · clear HA5 HP HP2 HM2 HM HL
    go_wp2_with fail
    go_quiet (fail)
    all_goals go_wp2
    all_goals go_ret
    all_goals exact ⟨by first | rfl | simp, by (repeat (first | with_reducible (exact Since.refl _) | with_reducible assumption | with_reducible (refine Since.drew ?_) | with_reducible (refine Since.drewN ?_ _) | with_reducible (refine Since.alloc ?_ _) | (with_reducible (refine Since.setCell ?_ ?_ _); rotate_left; focus (first | (simp; done) | (simp; omega) | omega)) | (with_reducible (refine Since.trans ?_ (by with_reducible assumption)))))⟩
  · have HA6 := Lib.hid (HA5.out rfl)
    have v9 : IntKind.i64.wrap m = m := IntWalk.i64_in _ (by omega)
    have v10 : IntKind.i64.wrap n = n := IntWalk.i64_in _ (by omega)
    clear HA5 HP HP2 HM2 HM HL
    go_wp2_with fail
    (refine wp_named fun wr6 hwr6 => ?_; go_region_held3 (fun w' => (∀ b o, b < wr6.heap.size → w'.cell? ⟨b, o, none⟩ = wr6.cell? ⟨b, o, none⟩) ∧ (∀ b o, b < wr6.heap.size → w'.frozen? ⟨b, o, none⟩ = wr6.frozen? ⟨b, o, none⟩) ∧ (∀ k, k < wr6.heap.size → k < w'.heap.size) ∧ Below wr6.heap.size wr6 w') ((subst hwr6; (repeat (with_reducible (refine since_put ?_ ?_ _); rotate_left; focus (first | (simp; done) | (simp; omega) | omega))); first | assumption | (refine since_step (by assumption) ?_; first | assumption | ((repeat (first | with_reducible (exact Since.refl _) | with_reducible assumption | with_reducible (refine Since.drew ?_) | with_reducible (refine Since.drewN ?_ _) | with_reducible (refine Since.alloc ?_ _) | (with_reducible (refine Since.setCell ?_ ?_ _); rotate_left; focus (first | (simp; done) | (simp; omega) | omega)))); done)) | (refine since_step (Since.refl _) ?_; first | assumption | ((repeat (first | with_reducible (exact Since.refl _) | with_reducible assumption | with_reducible (refine Since.drew ?_) | with_reducible (refine Since.drewN ?_ _) | with_reducible (refine Since.alloc ?_ _) | (with_reducible (refine Since.setCell ?_ ?_ _); rotate_left; focus (first | (simp; done) | (simp; omega) | omega)) | (with_reducible (refine Since.trans ?_ (by with_reducible assumption))))); done)))) (first | (go_at_call 19; (with_reducible refine (HA6.out _).mono ?_); rintro e w1 ⟨rfl, hS⟩; have hZ := hS.below.size; (try simp at hZ))); all_goals (rename_i hHeld; have hR6 : Since wr6 _ := hHeld; obtain ⟨hcR6, hfR6, hzR6, hbR6⟩ := hHeld; subst hwr6))
    all_goals go_wp2
    all_goals go_ret
    all_goals exact ⟨by first | rfl | simp, by (repeat (first | with_reducible (exact Since.refl _) | with_reducible assumption | with_reducible (refine Since.drew ?_) | with_reducible (refine Since.drewN ?_ _) | with_reducible (refine Since.alloc ?_ _) | (with_reducible (refine Since.setCell ?_ ?_ _); rotate_left; focus (first | (simp; done) | (simp; omega) | omega)) | (with_reducible (refine Since.trans ?_ (by with_reducible assumption)))))⟩
end Go.Proofs.Ytmimdicflmgchaa
