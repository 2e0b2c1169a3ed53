/-
  Layer 22: the law ArcLengths, walked.
-/
import Derived.Test.YtckochcocflleaaArO
namespace Go.Proofs.Ytckochcocflleaa
open Go.RowKit Go.ChangeShapes Go.WideShapes Go.Deep
set_option linter.unusedVariables false

@[go_sem] theorem iy0A (a b c d : Value) (w : World) : (Instr.index 54 (.agg #[a, b, c, d]) (.int .i64 0)).run Try.prog w = .ok (.agg #[a, b]) w := by kernel_rfl
@[go_sem] theorem iy1A (a b c d : Value) (w : World) : (Instr.index 54 (.agg #[a, b, c, d]) (.int .i64 1)).run Try.prog w = .ok (.agg #[c, d]) w := by kernel_rfl
set_option maxRecDepth 1000000 in
set_option maxHeartbeats 16000000 in
theorem walk_lengths (x0 y0 r0 : Int) (hx : -2147483648 ≤ x0 ∧ x0 ≤ 2147483647) (hy : -2147483648 ≤ y0 ∧ y0 ≤ 2147483647) (hr : 0 ≤ r0 ∧ r0 ≤ 4294967295) (w : World) :
    Calls Try.prog 10 #[.int .i32 x0, .int .i32 y0, .int .u32 r0] w fun e w' => e = .returned (.bool true) ∧ Since w w' := by
  have hW := fun w => law22_way x0 y0 hx hy w
  have hR := fun w => law22_length r0 hr w
  have hxi := wX_in (y := y0) hx
  have hnz := wX_nz x0 y0
  have hyi : -8388608 ≤ y0 / 256 ∧ y0 / 256 ≤ 8388607 := by omega
  have hri : 1 ≤ lenR r0 ∧ lenR r0 ≤ 262144 := by unfold lenR; omega
  generalize wX x0 y0 = x at *
  generalize y0 / 256 = y at *
  generalize lenR r0 = n at *
  have hlen : lenB n = true := lenB_iff.2 hri
  have hok : alE x y n = 0 := alE_ok hlen hnz (wayB_iff.2 (by omega))
  have hok2 : alE (-x) (-y) n = 0 := alE_ok hlen (by omega) (wayB_iff.2 (by omega))
  have hA1 := fun w => ar_along_ok x y n hok w
  have hA2 := fun w => ar_along_ok (-x) (-y) n hok2 w
  have hN := fun w => ar_normal x y n (by unfold In64; omega) w
  unfold noXe noYe at hN
  rw [if_pos hok, if_pos hok, hok] at hN
  obtain ⟨_, _, f3, f4, g1, g2, g3⟩ := al_facts hnz hri.1
  obtain ⟨i1, i2⟩ := al_in hnz hri.1
  rw [f3, f4] at hA2
  generalize alX x y n = p at *
  generalize alY x y n = q at *
  have hs1 := fun w => law22_square p q (by omega) (by omega) w
  have hs2 := fun w => law22_square (-q) p (by omega) (by omega) w
  rw [show -q * -q + p * p = p * p + q * q by grind] at hs2
  have hC := fun w => rf_cross x y (-q) p (by unfold Near; omega) (by unfold Near; omega) (by unfold Near; omega) (by unfold Near; omega) w
  have hDo := fun w => rf_dot x y p q (by unfold Near; omega) (by unfold Near; omega) (by unfold Near; omega) (by unfold Near; omega) w
  have hc0 : 0 < crossI x y (-q) p := by unfold crossI; rw [show x * p - y * -q = x * p + y * q by grind]; exact g3
  have hd0 : 0 < dotI x y p q := by unfold dotI; exact g3
  generalize crossI x y (-q) p = C at *
  generalize dotI x y p q = D1 at *
  generalize p * p + q * q = S at *
  have hm : (0 ≤ (n - 1) * (n - 1) ∧ (n - 1) * (n - 1) ≤ 262144 * 262144) ∧ (0 ≤ (n + 1) * (n + 1) ∧ (n + 1) * (n + 1) ≤ 262145 * 262145) := ⟨⟨sq_nn _, sq_mono (by omega) (by omega)⟩, ⟨sq_nn _, sq_mono (by omega) (by omega)⟩⟩
  have u1 : IntKind.i64.wrap (n - 1) = n - 1 := IntWalk.i64_in _ (by omega)
  have u2 : IntKind.i64.wrap (n + 1) = n + 1 := IntWalk.i64_in _ (by omega)
  have u3 : IntKind.i64.wrap ((n - 1) * (n - 1)) = (n - 1) * (n - 1) := IntWalk.i64_in _ (by omega)
  have u4 : IntKind.i64.wrap ((n + 1) * (n + 1)) = (n + 1) * (n + 1) := IntWalk.i64_in _ (by omega)
  have u5 : IntKind.i64.wrap (-x) = -x := IntWalk.i64_in _ (by omega)
  have u6 : IntKind.i64.wrap (-y) = -y := IntWalk.i64_in _ (by omega)
  have u7 : IntKind.i64.wrap (-p) = -p := IntWalk.i64_in _ (by omega)
  have u8 : IntKind.i64.wrap (-q) = -q := IntWalk.i64_in _ (by omega)
  have d1 : decide (S ≤ (n - 1) * (n - 1)) = false := by simp; omega
  have d2 : decide ((n + 1) * (n + 1) ≤ S) = false := by simp; omega
  have d3 : decide (0 < C) = true := by simp; omega
  have d4 : decide (0 < D1) = true := by simp; omega
  unfold Pt at *
  have HW := Lib.hid hW; have HR := Lib.hid hR; have HA1 := Lib.hid hA1; have HA2 := Lib.hid hA2; have HN := Lib.hid hN; have HS1 := Lib.hid hs1; have HS2 := Lib.hid hs2; have HC := Lib.hid hC; have HDo := Lib.hid hDo
  clear hW hR hA1 hA2 hN hs1 hs2 hC hDo hm hc0 hd0 g1 g2 g3 i1 i2 f3 f4 hok hok2 hlen hri hyi hxi hnz hx hy hr
  have tok1 := True.intro
  go_enter Try.func10, Try.ntmps10
  go_upto_region 10 with (first | (go_at_call 31; refine (alive22 _).mono ?_; rintro e w1 ⟨rfl, hT1⟩) | (go_at_call 43; (with_reducible refine (HW.out _).mono ?_); rintro e w2 ⟨rfl, hS2⟩; have hT2 := hT1.trans hS2) | (go_at_call 44; (with_reducible refine (HR.out _).mono ?_); rintro e w3 ⟨rfl, hS3⟩; have hT3 := hT2.trans hS3) | (go_at_call 32; have _t := tok1; (with_reducible refine (HA1.out _).mono ?_); rintro e w4 ⟨rfl, hS4⟩; have hP4 := (pt_new w3 _ rfl x y _).since hS4; have hT4 : Since w w4 := (by (repeat (first | with_reducible (exact Since.refl _) | with_reducible assumption | with_reducible (refine Since.drew ?_) | with_reducible (refine Since.drewN ?_ _) | with_reducible (refine Since.alloc ?_ _) | (with_reducible (refine Since.setCell ?_ ?_ _); rotate_left; focus (first | (simp; done) | (simp; omega) | omega)) | (with_reducible (refine Since.trans ?_ (by with_reducible assumption)))))); clear hS4 tok1; obtain ⟨c1, c2, c3⟩ := id hP4) | (go_at_call 33; (with_reducible refine (HN.out _).mono ?_); rintro e w5 ⟨rfl, hS5⟩; have hP5 := (hP4.alloc _).since hS5; have hA5 := (pt_new w4 _ rfl p q _).since hS5; have hT5 : Since w w5 := (by (repeat (first | with_reducible (exact Since.refl _) | with_reducible assumption | with_reducible (refine Since.drew ?_) | with_reducible (refine Since.drewN ?_ _) | with_reducible (refine Since.alloc ?_ _) | (with_reducible (refine Since.setCell ?_ ?_ _); rotate_left; focus (first | (simp; done) | (simp; omega) | omega)) | (with_reducible (refine Since.trans ?_ (by with_reducible assumption)))))); clear hS5 hP4 c1 c2 c3; obtain ⟨c1, c2, c3⟩ := id hP5) | (go_at_call 32; (with_reducible refine (HA2.out _).mono ?_); rintro e w6 ⟨rfl, hS6⟩; have hP6 := (hP5.alloc _).since hS6; have hA6 := (hA5.alloc _).since hS6; have hN6 := (pt_new w5 _ rfl (-q) p _).since hS6; have hT6 : Since w w6 := (by (repeat (first | with_reducible (exact Since.refl _) | with_reducible assumption | with_reducible (refine Since.drew ?_) | with_reducible (refine Since.drewN ?_ _) | with_reducible (refine Since.alloc ?_ _) | (with_reducible (refine Since.setCell ?_ ?_ _); rotate_left; focus (first | (simp; done) | (simp; omega) | omega)) | (with_reducible (refine Since.trans ?_ (by with_reducible assumption)))))); clear hS6 hP5 hA5 c1 c2 c3; obtain ⟨c1, c2, c3⟩ := id hP6; obtain ⟨a1, a2, a3⟩ := id hA6; obtain ⟨n1, n2, n3⟩ := id hN6))
  refine wp_named fun w7 hw7 => ?_
  have hT7 : Since w w7 := by subst hw7; exact hT6.alloc _
  have hP7 : PtAt w7 w3.heap.size x y := by subst hw7; exact hP6.alloc _
  have hA7 : PtAt w7 w4.heap.size p q := by subst hw7; exact hA6.alloc _
  have hN7 : PtAt w7 w5.heap.size (-q) p := by subst hw7; exact hN6.alloc _
  clear hw7 c1 c2 c3 a1 a2 a3 n1 n2 n3 hP6 hA6 hN6 hT1 hT2 hT3 hT4 hT5 hT6 HW HR HA1 HA2 HN
  go_loopw [72] (fun y wr => ∃ k : Nat, k ≤ 2 ∧ y = .int .i64 (k : Int) ∧ Since w7 wr) (fun y _ => 2 - (intOf y).toNat)
  case atStart => exact ⟨0, by omega, rfl, Since.refl _⟩
  case round =>
    obtain ⟨k, hk, rfl, hSr⟩ := hrel
    have hkc : k = 0 ∨ k = 1 ∨ k = 2 := by omega
    rcases hkc with rfl | rfl | rfl
    · go_wp2_with (go_at_call 45; (with_reducible refine (HS1.out _).mono ?_); rintro e w8 ⟨rfl, hS8⟩; (try (have hQ8 := (pt_new wr _ rfl p q _).since hS8; have hT8 : Since w7 w8 := (by (repeat (first | with_reducible (exact Since.refl _) | with_reducible assumption | with_reducible (refine Since.drew ?_) | with_reducible (refine Since.drewN ?_ _) | with_reducible (refine Since.alloc ?_ _) | (with_reducible (refine Since.setCell ?_ ?_ _); rotate_left; focus (first | (simp; done) | (simp; omega) | omega)) | (with_reducible (refine Since.trans ?_ (by with_reducible assumption)))))); obtain ⟨c1, c2, c3⟩ := hQ8)); (try (have hT9 := hT8.trans hS8)))
      go_roundw
      case rel => exact ⟨1, by omega, by first | rfl | go_num, by first | assumption | (repeat (first | with_reducible (exact Since.refl _) | with_reducible assumption | with_reducible (refine Since.drew ?_) | with_reducible (refine Since.drewN ?_ _) | with_reducible (refine Since.alloc ?_ _) | (with_reducible (refine Since.setCell ?_ ?_ _); rotate_left; focus (first | (simp; done) | (simp; omega) | omega)) | (with_reducible (refine Since.trans ?_ (by with_reducible assumption)))))⟩
      case measure => simp [intOf]
    · go_wp2_with (go_at_call 45; (with_reducible refine (HS2.out _).mono ?_); rintro e w8 ⟨rfl, hS8⟩; (try (have hQ8 := (pt_new wr _ rfl (-q) p _).since hS8; have hT8 : Since w7 w8 := (by (repeat (first | with_reducible (exact Since.refl _) | with_reducible assumption | with_reducible (refine Since.drew ?_) | with_reducible (refine Since.drewN ?_ _) | with_reducible (refine Since.alloc ?_ _) | (with_reducible (refine Since.setCell ?_ ?_ _); rotate_left; focus (first | (simp; done) | (simp; omega) | omega)) | (with_reducible (refine Since.trans ?_ (by with_reducible assumption)))))); obtain ⟨c1, c2, c3⟩ := hQ8)); (try (have hT9 := hT8.trans hS8)))
      go_roundw
      case rel => exact ⟨2, by omega, by first | rfl | go_num, by first | assumption | (repeat (first | with_reducible (exact Since.refl _) | with_reducible assumption | with_reducible (refine Since.drew ?_) | with_reducible (refine Since.drewN ?_ _) | with_reducible (refine Since.alloc ?_ _) | (with_reducible (refine Since.setCell ?_ ?_ _); rotate_left; focus (first | (simp; done) | (simp; omega) | omega)) | (with_reducible (refine Since.trans ?_ (by with_reducible assumption)))))⟩
      case measure => simp [intOf]
    · obtain ⟨c1, c2, c3⟩ := id (hP7.since hSr)
      obtain ⟨a1, a2, a3⟩ := id (hA7.since hSr)
      obtain ⟨n1, n2, n3⟩ := id (hN7.since hSr)
      go_wp2_with (first | (go_at_call 46; (with_reducible refine (HC.out _).mono ?_); rintro e w8 ⟨rfl, hS8⟩; have hT8 := hSr.trans hS8; clear c1 c2 c3 a1 a2 a3 n1 n2 n3; obtain ⟨c1, c2, c3⟩ := id (hP7.since hT8); obtain ⟨a1, a2, a3⟩ := id (hA7.since hT8)) | (go_at_call 47; (with_reducible refine (HDo.out _).mono ?_); rintro e w9 ⟨rfl, hS9⟩; have hT9 := hT7.trans (hT8.trans hS9)))
      go_ret
      exact ⟨by first | rfl | simp, hT9⟩
end Go.Proofs.Ytckochcocflleaa
