/-
  Layer 10: 'Quarter', walked; the reference's small functions, walked.
-/
import Derived.Test.YtbbbojhncfdbdaaGaD
namespace Go.Proofs.Ytbbbojhncfdbdaa
open Go.RowKit
set_option linter.unusedVariables false

/-- A point turned by quarters. -/
def qu (x y : Int) : Nat → Int × Int
  | 0 => (x, y)
  | k + 1 => (-(qu x y k).2, (qu x y k).1)
theorem qu_near {x y : Int} {B : Int} (hx : -B ≤ x ∧ x ≤ B) (hy : -B ≤ y ∧ y ≤ B) : ∀ k, (-B ≤ (qu x y k).1 ∧ (qu x y k).1 ≤ B) ∧ (-B ≤ (qu x y k).2 ∧ (qu x y k).2 ≤ B)
  | 0 => ⟨hx, hy⟩
  | k + 1 => by
    have h := qu_near hx hy k
    simp only [qu]
    omega
theorem and_three (n : Int) : bits .and .i64 n 3 = ((n % 4).toNat : Int) := by
  show IntKind.i64.wrap ((BitVec.ofInt 64 n &&& BitVec.ofInt 64 3).toNat : Int) = _
  rw [BitVec.toNat_and, show (BitVec.ofInt 64 3).toNat = 2 ^ 2 - 1 from rfl, Nat.and_two_pow_sub_one_eq_mod, BitVec.toNat_ofInt, IntKind.wrap_i64]
  omega
def resQ (x y : Int) (n : Int) : Int × Int := qu x y (n % 4).toNat

set_option maxHeartbeats 4000000 in
theorem ga_quarter (x y n : Int) (h : InP x y) (w : World) :
    Calls Try.prog 24 #[Pt x y, .int .i64 n] w fun e w' => e = .returned (.tuple #[if goodB x y then Pt (resQ x y n).1 (resQ x y n).2 else Pt 0 0, .int .i64 (okE (goodB x y))]) ∧ Since w w' := by
  have hg := fun w b hb t => good1 w b hb x y t h
  by_cases hgg : goodB x y = true
  · have k1 := goodB_iff.1 hgg
    obtain ⟨n1, n2, m1, m2⟩ := good_near hgg
    have hb := qu_near (x := x) (y := y) (B := 4194304) ⟨by omega, by omega⟩ ⟨by omega, by omega⟩
    have hand := and_three n
    have hm : (n % 4).toNat ≤ 4 := by omega
    unfold resQ
    rw [hgg] at hg ⊢
    simp only [if_true, okE]
    have hpt := fun (a b : Nat) (k : Nat) (ha : Stands a (qu x y k).1) (hb' : Stands b (qu x y k).2) w => ga_point a b ha hb' (by have := hb k; omega) (by have := hb k; omega) w
    have hst := fl_stands m1
    have hst2 := fl_stands m2
    generalize (n % 4).toNat = m at *
    clear hgg k1 n1 n2 m1 m2 h
    have hnum := fun w => ga_number x y w
    unfold Pt at *
    have HG := Lib.hid hg; have HI := Lib.hid hpt; have HN := Lib.hid hnum; have HS1 := Lib.hid hst; have HS2 := Lib.hid hst2; have HB := Lib.hid hb
    clear hg hpt hnum hst hst2 hb
    have hm' : (m : Int) ≤ 4 := by omega
    go_enter Try.func24, Try.ntmps24
    go_wp2_with (first | (go_at_call 20; (with_reducible refine (HG.out _ _ (by simp) _).mono ?_); rintro e w1 ⟨rfl, hS1⟩; have hP1 := (((pt_new w _ rfl x y _).alloc _).alloc _).since hS1; have hP3 := ((zero2_new _ (w.heap.size + 1) (by simp) _).alloc _).since hS1; have hS : Since w w1 := (by (repeat (first | with_reducible (exact Since.refl _) | with_reducible assumption | with_reducible (refine Since.drew ?_) | with_reducible (refine Since.drewN ?_ _) | with_reducible (refine Since.alloc ?_ _) | (with_reducible (refine Since.setCell ?_ ?_ _); rotate_left; focus (first | (simp; done) | (simp; omega) | omega)) | (with_reducible (refine Since.trans ?_ (by with_reducible assumption)))))); obtain ⟨p1, p2, p3⟩ := hP1; clear hS1) | (go_at_call 49; refine (HN.out _).mono ?_; rintro e w2 ⟨rfl, hS2⟩; have hZ := hP3.since hS2; have hSS := hS.trans hS2; clear hP3 hS2 hS p1 p2 p3))
    go_loop [6, 16] (fun z c => ∃ (k re im : Nat), k ≤ m ∧ z = .complex .f64 re im ∧ Hid (Stands re (qu x y k).1) ∧ Hid (Stands im (qu x y k).2) ∧ c = .int .i64 (k : Int)) (fun _ c => m - (intOf c).toNat)
    case atStart => exact ⟨0, _, _, by omega, rfl, Lib.hid HS1.out, Lib.hid HS2.out, rfl⟩
    case round =>
      obtain ⟨k, re, im, hk, rfl, H1, H2, rfl⟩ := hrel
      by_cases hkm : k < m
      · have hkm' : (k : Int) < m := by omega
        have hbk := HB.out k
        obtain ⟨r1, i1, e1, t1, t2⟩ := mul_stands H1.out H2.out stands_zero stands_one (by unfold Near; omega) (by unfold Near; omega) (by unfold Near; omega) (by unfold Near; omega)
        have hmul := fun t w => run_complex_mul (P := Try.prog) w t re im 0 4607182418800017408 _ _ e1
        have T1 := Lib.hid t1; have T2 := Lib.hid t2
        clear e1 t1 t2 hbk
        go_wp2
        go_round
        case rel => exact ⟨k + 1, r1, i1, by omega, rfl, Lib.hid (by have := T1.out; rw [show (qu x y (k + 1)).1 = (qu x y k).1 * 0 - (qu x y k).2 * 1 by simp only [qu]; omega]; exact this), Lib.hid (by have := T2.out; rw [show (qu x y (k + 1)).2 = (qu x y k).1 * 1 + (qu x y k).2 * 0 by simp only [qu]; omega]; exact this), by go_num⟩
        case measure => simp [intOf]; omega
      · obtain rfl : k = m := by omega
        have HP := Lib.hid (fun w => HI.out re im k H1.out H2.out w)
        clear H1 H2 HI HB HS1 HS2
        go_wp2_with (go_at_call 50; refine (HP.out _).mono ?_; rintro e w3 ⟨rfl, hS3⟩; have hZ3 := hZ.since hS3; have hS4 := hSS.trans hS3; obtain ⟨⟨z1, z2, z3⟩, zF⟩ := hZ3; have zF0 := zF 0; have zF1 := zF 1; clear hZ hSS hS3 zF)
        refine bodyPost_ret (by simp only [results, Try.results24]; go_simp) rfl ⟨rfl, ?_⟩
        (repeat (first | with_reducible (exact Since.refl _) | with_reducible assumption | with_reducible (refine Since.drew ?_) | with_reducible (refine Since.drewN ?_ _) | with_reducible (refine Since.alloc ?_ _) | (with_reducible (refine Since.setCell ?_ ?_ _); rotate_left; focus (first | (simp; done) | (simp; omega) | omega)) | (with_reducible (refine Since.trans ?_ (by with_reducible assumption)))))
  · have hgf : goodB x y = false := by simpa using hgg
    rw [hgf] at hg ⊢
    have HG := Lib.hid hg
    clear hg hgg hgf
    simp only [okE]
    unfold Pt
    go_enter Try.func24, Try.ntmps24
    go_wp2_with (go_at_call 20; (with_reducible refine (HG.out _ _ (by simp) _).mono ?_); rintro e w1 ⟨rfl, hS1⟩; have hP3 := ((zero2_new _ (w.heap.size + 1) (by simp) _).alloc _).since hS1; obtain ⟨⟨p7, p8, p9⟩, pF⟩ := hP3; have pF0 := pF 0; have pF1 := pF 1; clear pF)
    refine bodyPost_ret (by simp only [results, Try.results24]; go_simp) rfl ⟨rfl, ?_⟩
    (repeat (first | with_reducible (exact Since.refl _) | with_reducible assumption | with_reducible (refine Since.drew ?_) | with_reducible (refine Since.drewN ?_ _) | with_reducible (refine Since.alloc ?_ _) | (with_reducible (refine Since.setCell ?_ ?_ _); rotate_left; focus (first | (simp; done) | (simp; omega) | omega)) | (with_reducible (refine Since.trans ?_ (by with_reducible assumption)))))
end Go.Proofs.Ytbbbojhncfdbdaa
