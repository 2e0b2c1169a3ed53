/-
  Layer 5: the law HeadElse, walked.
-/
import Derived.Test.YtefalfdillnkfaaDoorHdL
import Derived.Test.YtefalfdillnkfaaDoorHdM
namespace Go.Proofs.YtefalfdillnkfaaDoor
open Go.RowKit
set_option linter.unusedVariables false

def inH (i : Nat) : Bool := decide (i = 18 ∨ i = 19 ∨ (36 ≤ i ∧ i < 44) ∨ i = 50 ∨ i = 51)
def inM (i : Nat) : Bool := decide ((4 ≤ i ∧ i < 14) ∨ (28 ≤ i ∧ i < 32))
theorem lay2_far (f : Nat → Int) (p : Nat) (x : Int) (j : Nat) (h : ¬ (p ≤ j ∧ j < p + 2)) : lay2 f p x j = f j := by unfold lay2; rw [if_neg h]
theorem phF_far (f : Nat → Int) (em a b c d : Int) (l : Bool) (j : Nat) (h : inH j = false) : phF f em a b c d l j = f j := by
  unfold inH at h
  have h := of_decide_eq_false h
  unfold phF
  rw [lay2_far _ 50 _ j (by omega), lay2_far _ 42 _ j (by omega), lay2_far _ 40 _ j (by omega), lay2_far _ 38 _ j (by omega), lay2_far _ 36 _ j (by omega), lay2_far _ 18 _ j (by omega)]
theorem mpF_far (f v : Nat → Int) (j : Nat) (h : inM j = false) : mpF f v 7 j = f j := by
  unfold inM at h
  have h := of_decide_eq_false h
  have hF : mpF f v 7 = lay2 (lay2 (lay2 (lay2 (lay2 (lay2 (lay2 f 4 (v 0)) 6 (v 1)) 8 (v 2)) 10 (v 3)) 12 (v 4)) 28 (v 5)) 30 (v 6) := rfl
  rw [hF, lay2_far _ 30 _ j (by omega), lay2_far _ 28 _ j (by omega), lay2_far _ 12 _ j (by omega), lay2_far _ 10 _ j (by omega), lay2_far _ 8 _ j (by omega), lay2_far _ 6 _ j (by omega), lay2_far _ 4 _ j (by omega)]
set_option maxRecDepth 1000000 in
set_option maxHeartbeats 16000000 in
theorem headelse_00 (A : Option Addr) (n q M1 M2 : Nat) (f G1 G2 : Nat → Int) (em a b c d : Int) (l : Bool) (i0 i1 i2 i3 i4 i5 i6 E1 E2 : Int) (w : World) (HT : Hid (Tabs w)) (HR0 : Hid (Rd w w.heap.size A n (U8 f))) (hsm : n ≤ 5000) (hd1 : decide ((5000 : Int) < (n : Int)) = false)
    (HP : Hid (∀ (A1 : Option Addr) (c1 : Nat) (w1 : World), TabB w1 → Rd w1 w1.heap.size A1 n (U8 f) → Calls Tryd.prog 17 #[.slice A1 n c1, .agg #[.int .i64 em, .int .i64 a, .int .i64 b, .int .i64 c, .int .i64 d, .bool l]] w1 fun e w' => ∃ A' c', e = .returned (.tuple #[.slice A' M1 c', .int .i64 E1]) ∧ Rd w' w'.heap.size A' M1 (U8 G1) ∧ Since w1 w'))
    (HQ : Hid (∀ (A1 : Option Addr) (c1 : Nat) (w1 : World), Tabs w1 → Rd w1 w1.heap.size A1 n (U8 f) → Calls Tryd.prog 19 #[.slice A1 n c1, .agg #[.int .i64 i0, .int .i64 i1, .int .i64 i2, .int .i64 i3, .int .i64 i4, .int .i64 i5, .int .i64 i6]] w1 fun e w' => ∃ A' c', e = .returned (.tuple #[.slice A' M2 c', .int .i64 E2]) ∧ Rd w' w'.heap.size A' M2 (U8 G2) ∧ Since w1 w'))
    (F1 : Hid (∀ j, inH j = false → G1 j = f j)) (F2 : Hid (∀ j, inM j = false → G2 j = f j))
    (HB : Hid (SixB (w.alloc (.cells #[.int .i64 em, .int .i64 a, .int .i64 b, .int .i64 c, .int .i64 d, .bool l] 26)) w.heap.size (.int .i64 em) (.int .i64 a) (.int .i64 b) (.int .i64 c) (.int .i64 d) (.bool l)))
    (HMB : Hid (SevenB ((w.alloc (.cells #[.int .i64 em, .int .i64 a, .int .i64 b, .int .i64 c, .int .i64 d, .bool l] 26)).alloc (.cells #[.int .i64 i0, .int .i64 i1, .int .i64 i2, .int .i64 i3, .int .i64 i4, .int .i64 i5, .int .i64 i6] 31)) (w.heap.size + 1) (.int .i64 i0) (.int .i64 i1) (.int .i64 i2) (.int .i64 i3) (.int .i64 i4) (.int .i64 i5) (.int .i64 i6)))
    (e1 : E1 = 0 ∧ n = M1) (e2 : E2 = 0 ∧ n = M2) : Calls Tryd.prog 7 #[.slice A n q, .agg #[.int .i64 em, .int .i64 a, .int .i64 b, .int .i64 c, .int .i64 d, .bool l], .agg #[.int .i64 i0, .int .i64 i1, .int .i64 i2, .int .i64 i3, .int .i64 i4, .int .i64 i5, .int .i64 i6]] w fun e w' => e = .returned (.bool true) ∧ Since w w' := by
  obtain ⟨rfl, rfl⟩ := e1
  obtain ⟨rfl, rfl⟩ := e2
  go_enter Tryd.func7, Tryd.ntmps7
  go_wp2_with (first | (go_at_call 8; refine (alive05 _ (HT.out.since (by (repeat (first | with_reducible (exact Since.refl _) | with_reducible assumption | with_reducible (refine Since.drew ?_) | with_reducible (refine Since.drewN ?_ _) | with_reducible (refine Since.alloc ?_ _) | (with_reducible (refine Since.setCell ?_ ?_ _); rotate_left; focus (first | (simp; done) | (simp; omega) | omega)) | (with_reducible (refine Since.trans ?_ (by with_reducible assumption))))))).b).mono ?_; rintro e w1 ⟨rfl, hS1⟩; have hT1 : Since w w1 := (by (repeat (first | with_reducible (exact Since.refl _) | with_reducible assumption | with_reducible (refine Since.drew ?_) | with_reducible (refine Since.drewN ?_ _) | with_reducible (refine Since.alloc ?_ _) | (with_reducible (refine Since.setCell ?_ ?_ _); rotate_left; focus (first | (simp; done) | (simp; omega) | omega)) | (with_reducible (refine Since.trans ?_ (by with_reducible assumption)))))); have h1 := HR0.out.on hT1; have hb1 := HB.out.since (Since.trans (Since.alloc (Since.refl _) _) hS1); have hm1 := HMB.out.since hS1; obtain ⟨b0, b1, b2, b3, b4, b5, b6⟩ := hb1) | (go_at_call 17; (with_reducible refine (HP.out _ _ _ (HT.out.since hT1).b h1).mono ?_); rintro e w2 ⟨A2, c2, rfl, hI2, hS2⟩; have hT2 := hT1.trans hS2; have h2 := h1.on hS2; have hm2 := hm1.since hS2; clear b0 b1 b2 b3 b4 b5 b6 h1 hm1; obtain ⟨b0, b1, b2, b3, b4, b5, b6, b7⟩ := hm2) | (go_at_call 19; (with_reducible refine (HQ.out _ _ _ (HT.out.since hT2) h2).mono ?_); rintro e w3 ⟨A3, c3, rfl, hI3, hS3⟩; have hT3 := hT2.trans hS3; have h3 := h2.on hS3; have hI23 := hI2.on hS3; clear b0 b1 b2 b3 b4 b5 b6 b7 h2 hI2 hS1 hS2 hS3))
  clear HP HQ HB HMB HR0 HT
  go_loopw [32] (fun y wr => ∃ i : Nat, i ≤ n ∧ y = .int .i64 (i : Int) ∧ Since w3 wr) (fun y _ => n - (intOf y).toNat)
  case atStart => exact ⟨0, by omega, rfl, Since.refl _⟩
  case round =>
    obtain ⟨i, hi, rfl, hSr⟩ := hrel
    by_cases hin : i < n
    · have hin' : (i : Int) < n := by omega
      have hi0 : (0 : Int) ≤ (i : Int) := by omega
      have u1 : IntKind.i64.wrap ((i : Int) + 1) = (i : Int) + 1 := IntWalk.i64_in _ (by omega)
      obtain ⟨bq, oq, rfl, hbq, hcq⟩ := h3 (by omega)
      have x0 := (hSr.1 _ _ hbq).trans (hcq i hin)
      simp only [U8, IntRow] at x0
      obtain ⟨bc, oc, rfl, hbc, hcc⟩ := hI23 (by omega)
      have y0 := (hSr.1 _ _ hbc).trans (hcc i hin)
      simp only [U8, IntRow] at y0
      clear hcc
      obtain ⟨bd, od, rfl, hbd, hcd⟩ := hI3 (by omega)
      have z0 := (hSr.1 _ _ hbd).trans (hcd i hin)
      simp only [U8, IntRow] at z0
      clear hcd
      have hc : (0 ≤ i ∧ i < 4) ∨ (4 ≤ i ∧ i < 14) ∨ (14 ≤ i ∧ i < 18) ∨ (18 ≤ i ∧ i < 19) ∨ (19 ≤ i ∧ i < 20) ∨ (20 ≤ i ∧ i < 28) ∨ (28 ≤ i ∧ i < 32) ∨ (32 ≤ i ∧ i < 36) ∨ (36 ≤ i ∧ i < 44) ∨ (44 ≤ i ∧ i < 50) ∨ (50 ≤ i ∧ i < 51) ∨ (51 ≤ i ∧ i < 52) ∨ (52 ≤ i) := by omega
      clear hcq h3 hI23 hI3 hi
      rcases hc with hj | hj | hj | hj | hj | hj | hj | hj | hj | hj | hj | hj | hj
      · have e18 : ((i : Int) == 18) = false := by simp; omega
        have e19 : ((i : Int) == 19) = false := by simp; omega
        have e50 : ((i : Int) == 50) = false := by simp; omega
        have e51 : ((i : Int) == 51) = false := by simp; omega
        have g4 : decide ((4 : Int) ≤ (i : Int)) = false := by simp; omega
        have g28 : decide ((28 : Int) ≤ (i : Int)) = false := by simp; omega
        have g36 : decide ((36 : Int) ≤ (i : Int)) = false := by simp; omega
        have g14 : decide ((i : Int) < 14) = true := by simp; omega
        have g32 : decide ((i : Int) < 32) = true := by simp; omega
        have g44 : decide ((i : Int) < 44) = true := by simp; omega
        rw [F1.out i (by unfold inH; simp; omega)] at y0
        rw [F2.out i (by unfold inM; simp; omega)] at z0
        clear hj
        go_wp2_with fail
        go_quiet (fail)
        go_wp2_with fail
        go_quiet (fail)
        go_wp2_with fail
        go_roundw
        case rel => exact ⟨i + 1, by omega, by go_num, by (repeat (first | with_reducible (exact Since.refl _) | with_reducible assumption | with_reducible (refine Since.drew ?_) | with_reducible (refine Since.drewN ?_ _) | with_reducible (refine Since.alloc ?_ _) | (with_reducible (refine Since.setCell ?_ ?_ _); rotate_left; focus (first | (simp; done) | (simp; omega) | omega)) | (with_reducible (refine Since.trans ?_ (by with_reducible assumption)))))⟩
        case measure => simp [intOf]; omega
      · have e18 : ((i : Int) == 18) = false := by simp; omega
        have e19 : ((i : Int) == 19) = false := by simp; omega
        have e50 : ((i : Int) == 50) = false := by simp; omega
        have e51 : ((i : Int) == 51) = false := by simp; omega
        have g4 : decide ((4 : Int) ≤ (i : Int)) = true := by simp; omega
        have g28 : decide ((28 : Int) ≤ (i : Int)) = false := by simp; omega
        have g36 : decide ((36 : Int) ≤ (i : Int)) = false := by simp; omega
        have g14 : decide ((i : Int) < 14) = true := by simp; omega
        have g32 : decide ((i : Int) < 32) = true := by simp; omega
        have g44 : decide ((i : Int) < 44) = true := by simp; omega
        rw [F1.out i (by unfold inH; simp; omega)] at y0
        clear hj
        go_wp2_with fail
        go_quiet (fail)
        go_wp2_with fail
        go_quiet (fail)
        go_wp2_with fail
        go_roundw
        case rel => exact ⟨i + 1, by omega, by go_num, by (repeat (first | with_reducible (exact Since.refl _) | with_reducible assumption | with_reducible (refine Since.drew ?_) | with_reducible (refine Since.drewN ?_ _) | with_reducible (refine Since.alloc ?_ _) | (with_reducible (refine Since.setCell ?_ ?_ _); rotate_left; focus (first | (simp; done) | (simp; omega) | omega)) | (with_reducible (refine Since.trans ?_ (by with_reducible assumption)))))⟩
        case measure => simp [intOf]; omega
      · have e18 : ((i : Int) == 18) = false := by simp; omega
        have e19 : ((i : Int) == 19) = false := by simp; omega
        have e50 : ((i : Int) == 50) = false := by simp; omega
        have e51 : ((i : Int) == 51) = false := by simp; omega
        have g4 : decide ((4 : Int) ≤ (i : Int)) = true := by simp; omega
        have g28 : decide ((28 : Int) ≤ (i : Int)) = false := by simp; omega
        have g36 : decide ((36 : Int) ≤ (i : Int)) = false := by simp; omega
        have g14 : decide ((i : Int) < 14) = false := by simp; omega
        have g32 : decide ((i : Int) < 32) = true := by simp; omega
        have g44 : decide ((i : Int) < 44) = true := by simp; omega
        rw [F1.out i (by unfold inH; simp; omega)] at y0
        rw [F2.out i (by unfold inM; simp; omega)] at z0
        clear hj
        go_wp2_with fail
        go_quiet (fail)
        go_wp2_with fail
        go_quiet (fail)
        go_wp2_with fail
        go_roundw
        case rel => exact ⟨i + 1, by omega, by go_num, by (repeat (first | with_reducible (exact Since.refl _) | with_reducible assumption | with_reducible (refine Since.drew ?_) | with_reducible (refine Since.drewN ?_ _) | with_reducible (refine Since.alloc ?_ _) | (with_reducible (refine Since.setCell ?_ ?_ _); rotate_left; focus (first | (simp; done) | (simp; omega) | omega)) | (with_reducible (refine Since.trans ?_ (by with_reducible assumption)))))⟩
        case measure => simp [intOf]; omega
      · have e18 : ((i : Int) == 18) = true := by simp; omega
        have e19 : ((i : Int) == 19) = false := by simp; omega
        have e50 : ((i : Int) == 50) = false := by simp; omega
        have e51 : ((i : Int) == 51) = false := by simp; omega
        have g4 : decide ((4 : Int) ≤ (i : Int)) = true := by simp; omega
        have g28 : decide ((28 : Int) ≤ (i : Int)) = false := by simp; omega
        have g36 : decide ((36 : Int) ≤ (i : Int)) = false := by simp; omega
        have g14 : decide ((i : Int) < 14) = false := by simp; omega
        have g32 : decide ((i : Int) < 32) = true := by simp; omega
        have g44 : decide ((i : Int) < 44) = true := by simp; omega
        rw [F2.out i (by unfold inM; simp; omega)] at z0
        clear hj
        go_wp2_with fail
        go_quiet (fail)
        go_wp2_with fail
        go_quiet (fail)
        go_wp2_with fail
        go_roundw
        case rel => exact ⟨i + 1, by omega, by go_num, by (repeat (first | with_reducible (exact Since.refl _) | with_reducible assumption | with_reducible (refine Since.drew ?_) | with_reducible (refine Since.drewN ?_ _) | with_reducible (refine Since.alloc ?_ _) | (with_reducible (refine Since.setCell ?_ ?_ _); rotate_left; focus (first | (simp; done) | (simp; omega) | omega)) | (with_reducible (refine Since.trans ?_ (by with_reducible assumption)))))⟩
        case measure => simp [intOf]; omega
      · have e18 : ((i : Int) == 18) = false := by simp; omega
        have e19 : ((i : Int) == 19) = true := by simp; omega
        have e50 : ((i : Int) == 50) = false := by simp; omega
        have e51 : ((i : Int) == 51) = false := by simp; omega
        have g4 : decide ((4 : Int) ≤ (i : Int)) = true := by simp; omega
        have g28 : decide ((28 : Int) ≤ (i : Int)) = false := by simp; omega
        have g36 : decide ((36 : Int) ≤ (i : Int)) = false := by simp; omega
        have g14 : decide ((i : Int) < 14) = false := by simp; omega
        have g32 : decide ((i : Int) < 32) = true := by simp; omega
        have g44 : decide ((i : Int) < 44) = true := by simp; omega
        rw [F2.out i (by unfold inM; simp; omega)] at z0
        clear hj
        go_wp2_with fail
        go_quiet (fail)
        go_wp2_with fail
        go_quiet (fail)
        go_wp2_with fail
        go_roundw
        case rel => exact ⟨i + 1, by omega, by go_num, by (repeat (first | with_reducible (exact Since.refl _) | with_reducible assumption | with_reducible (refine Since.drew ?_) | with_reducible (refine Since.drewN ?_ _) | with_reducible (refine Since.alloc ?_ _) | (with_reducible (refine Since.setCell ?_ ?_ _); rotate_left; focus (first | (simp; done) | (simp; omega) | omega)) | (with_reducible (refine Since.trans ?_ (by with_reducible assumption)))))⟩
        case measure => simp [intOf]; omega
      · have e18 : ((i : Int) == 18) = false := by simp; omega
        have e19 : ((i : Int) == 19) = false := by simp; omega
        have e50 : ((i : Int) == 50) = false := by simp; omega
        have e51 : ((i : Int) == 51) = false := by simp; omega
        have g4 : decide ((4 : Int) ≤ (i : Int)) = true := by simp; omega
        have g28 : decide ((28 : Int) ≤ (i : Int)) = false := by simp; omega
        have g36 : decide ((36 : Int) ≤ (i : Int)) = false := by simp; omega
        have g14 : decide ((i : Int) < 14) = false := by simp; omega
        have g32 : decide ((i : Int) < 32) = true := by simp; omega
        have g44 : decide ((i : Int) < 44) = true := by simp; omega
        rw [F1.out i (by unfold inH; simp; omega)] at y0
        rw [F2.out i (by unfold inM; simp; omega)] at z0
        clear hj
        go_wp2_with fail
        go_quiet (fail)
        go_wp2_with fail
        go_quiet (fail)
        go_wp2_with fail
        go_roundw
        case rel => exact ⟨i + 1, by omega, by go_num, by (repeat (first | with_reducible (exact Since.refl _) | with_reducible assumption | with_reducible (refine Since.drew ?_) | with_reducible (refine Since.drewN ?_ _) | with_reducible (refine Since.alloc ?_ _) | (with_reducible (refine Since.setCell ?_ ?_ _); rotate_left; focus (first | (simp; done) | (simp; omega) | omega)) | (with_reducible (refine Since.trans ?_ (by with_reducible assumption)))))⟩
        case measure => simp [intOf]; omega
      · have e18 : ((i : Int) == 18) = false := by simp; omega
        have e19 : ((i : Int) == 19) = false := by simp; omega
        have e50 : ((i : Int) == 50) = false := by simp; omega
        have e51 : ((i : Int) == 51) = false := by simp; omega
        have g4 : decide ((4 : Int) ≤ (i : Int)) = true := by simp; omega
        have g28 : decide ((28 : Int) ≤ (i : Int)) = true := by simp; omega
        have g36 : decide ((36 : Int) ≤ (i : Int)) = false := by simp; omega
        have g14 : decide ((i : Int) < 14) = false := by simp; omega
        have g32 : decide ((i : Int) < 32) = true := by simp; omega
        have g44 : decide ((i : Int) < 44) = true := by simp; omega
        rw [F1.out i (by unfold inH; simp; omega)] at y0
        clear hj
        go_wp2_with fail
        go_quiet (fail)
        go_wp2_with fail
        go_quiet (fail)
        go_wp2_with fail
        go_roundw
        case rel => exact ⟨i + 1, by omega, by go_num, by (repeat (first | with_reducible (exact Since.refl _) | with_reducible assumption | with_reducible (refine Since.drew ?_) | with_reducible (refine Since.drewN ?_ _) | with_reducible (refine Since.alloc ?_ _) | (with_reducible (refine Since.setCell ?_ ?_ _); rotate_left; focus (first | (simp; done) | (simp; omega) | omega)) | (with_reducible (refine Since.trans ?_ (by with_reducible assumption)))))⟩
        case measure => simp [intOf]; omega
      · have e18 : ((i : Int) == 18) = false := by simp; omega
        have e19 : ((i : Int) == 19) = false := by simp; omega
        have e50 : ((i : Int) == 50) = false := by simp; omega
        have e51 : ((i : Int) == 51) = false := by simp; omega
        have g4 : decide ((4 : Int) ≤ (i : Int)) = true := by simp; omega
        have g28 : decide ((28 : Int) ≤ (i : Int)) = true := by simp; omega
        have g36 : decide ((36 : Int) ≤ (i : Int)) = false := by simp; omega
        have g14 : decide ((i : Int) < 14) = false := by simp; omega
        have g32 : decide ((i : Int) < 32) = false := by simp; omega
        have g44 : decide ((i : Int) < 44) = true := by simp; omega
        rw [F1.out i (by unfold inH; simp; omega)] at y0
        rw [F2.out i (by unfold inM; simp; omega)] at z0
        clear hj
        go_wp2_with fail
        go_quiet (fail)
        go_wp2_with fail
        go_quiet (fail)
        go_wp2_with fail
        go_roundw
        case rel => exact ⟨i + 1, by omega, by go_num, by (repeat (first | with_reducible (exact Since.refl _) | with_reducible assumption | with_reducible (refine Since.drew ?_) | with_reducible (refine Since.drewN ?_ _) | with_reducible (refine Since.alloc ?_ _) | (with_reducible (refine Since.setCell ?_ ?_ _); rotate_left; focus (first | (simp; done) | (simp; omega) | omega)) | (with_reducible (refine Since.trans ?_ (by with_reducible assumption)))))⟩
        case measure => simp [intOf]; omega
      · have e18 : ((i : Int) == 18) = false := by simp; omega
        have e19 : ((i : Int) == 19) = false := by simp; omega
        have e50 : ((i : Int) == 50) = false := by simp; omega
        have e51 : ((i : Int) == 51) = false := by simp; omega
        have g4 : decide ((4 : Int) ≤ (i : Int)) = true := by simp; omega
        have g28 : decide ((28 : Int) ≤ (i : Int)) = true := by simp; omega
        have g36 : decide ((36 : Int) ≤ (i : Int)) = true := by simp; omega
        have g14 : decide ((i : Int) < 14) = false := by simp; omega
        have g32 : decide ((i : Int) < 32) = false := by simp; omega
        have g44 : decide ((i : Int) < 44) = true := by simp; omega
        rw [F2.out i (by unfold inM; simp; omega)] at z0
        clear hj
        go_wp2_with fail
        go_quiet (fail)
        go_wp2_with fail
        go_quiet (fail)
        go_wp2_with fail
        go_roundw
        case rel => exact ⟨i + 1, by omega, by go_num, by (repeat (first | with_reducible (exact Since.refl _) | with_reducible assumption | with_reducible (refine Since.drew ?_) | with_reducible (refine Since.drewN ?_ _) | with_reducible (refine Since.alloc ?_ _) | (with_reducible (refine Since.setCell ?_ ?_ _); rotate_left; focus (first | (simp; done) | (simp; omega) | omega)) | (with_reducible (refine Since.trans ?_ (by with_reducible assumption)))))⟩
        case measure => simp [intOf]; omega
      · have e18 : ((i : Int) == 18) = false := by simp; omega
        have e19 : ((i : Int) == 19) = false := by simp; omega
        have e50 : ((i : Int) == 50) = false := by simp; omega
        have e51 : ((i : Int) == 51) = false := by simp; omega
        have g4 : decide ((4 : Int) ≤ (i : Int)) = true := by simp; omega
        have g28 : decide ((28 : Int) ≤ (i : Int)) = true := by simp; omega
        have g36 : decide ((36 : Int) ≤ (i : Int)) = true := by simp; omega
        have g14 : decide ((i : Int) < 14) = false := by simp; omega
        have g32 : decide ((i : Int) < 32) = false := by simp; omega
        have g44 : decide ((i : Int) < 44) = false := by simp; omega
        rw [F1.out i (by unfold inH; simp; omega)] at y0
        rw [F2.out i (by unfold inM; simp; omega)] at z0
        clear hj
        go_wp2_with fail
        go_quiet (fail)
        go_wp2_with fail
        go_quiet (fail)
        go_wp2_with fail
        go_roundw
        case rel => exact ⟨i + 1, by omega, by go_num, by (repeat (first | with_reducible (exact Since.refl _) | with_reducible assumption | with_reducible (refine Since.drew ?_) | with_reducible (refine Since.drewN ?_ _) | with_reducible (refine Since.alloc ?_ _) | (with_reducible (refine Since.setCell ?_ ?_ _); rotate_left; focus (first | (simp; done) | (simp; omega) | omega)) | (with_reducible (refine Since.trans ?_ (by with_reducible assumption)))))⟩
        case measure => simp [intOf]; omega
      · have e18 : ((i : Int) == 18) = false := by simp; omega
        have e19 : ((i : Int) == 19) = false := by simp; omega
        have e50 : ((i : Int) == 50) = true := by simp; omega
        have e51 : ((i : Int) == 51) = false := by simp; omega
        have g4 : decide ((4 : Int) ≤ (i : Int)) = true := by simp; omega
        have g28 : decide ((28 : Int) ≤ (i : Int)) = true := by simp; omega
        have g36 : decide ((36 : Int) ≤ (i : Int)) = true := by simp; omega
        have g14 : decide ((i : Int) < 14) = false := by simp; omega
        have g32 : decide ((i : Int) < 32) = false := by simp; omega
        have g44 : decide ((i : Int) < 44) = false := by simp; omega
        rw [F2.out i (by unfold inM; simp; omega)] at z0
        clear hj
        go_wp2_with fail
        go_quiet (fail)
        go_wp2_with fail
        go_quiet (fail)
        go_wp2_with fail
        go_roundw
        case rel => exact ⟨i + 1, by omega, by go_num, by (repeat (first | with_reducible (exact Since.refl _) | with_reducible assumption | with_reducible (refine Since.drew ?_) | with_reducible (refine Since.drewN ?_ _) | with_reducible (refine Since.alloc ?_ _) | (with_reducible (refine Since.setCell ?_ ?_ _); rotate_left; focus (first | (simp; done) | (simp; omega) | omega)) | (with_reducible (refine Since.trans ?_ (by with_reducible assumption)))))⟩
        case measure => simp [intOf]; omega
      · have e18 : ((i : Int) == 18) = false := by simp; omega
        have e19 : ((i : Int) == 19) = false := by simp; omega
        have e50 : ((i : Int) == 50) = false := by simp; omega
        have e51 : ((i : Int) == 51) = true := by simp; omega
        have g4 : decide ((4 : Int) ≤ (i : Int)) = true := by simp; omega
        have g28 : decide ((28 : Int) ≤ (i : Int)) = true := by simp; omega
        have g36 : decide ((36 : Int) ≤ (i : Int)) = true := by simp; omega
        have g14 : decide ((i : Int) < 14) = false := by simp; omega
        have g32 : decide ((i : Int) < 32) = false := by simp; omega
        have g44 : decide ((i : Int) < 44) = false := by simp; omega
        rw [F2.out i (by unfold inM; simp; omega)] at z0
        clear hj
        go_wp2_with fail
        go_quiet (fail)
        go_wp2_with fail
        go_quiet (fail)
        go_wp2_with fail
        go_roundw
        case rel => exact ⟨i + 1, by omega, by go_num, by (repeat (first | with_reducible (exact Since.refl _) | with_reducible assumption | with_reducible (refine Since.drew ?_) | with_reducible (refine Since.drewN ?_ _) | with_reducible (refine Since.alloc ?_ _) | (with_reducible (refine Since.setCell ?_ ?_ _); rotate_left; focus (first | (simp; done) | (simp; omega) | omega)) | (with_reducible (refine Since.trans ?_ (by with_reducible assumption)))))⟩
        case measure => simp [intOf]; omega
      · have e18 : ((i : Int) == 18) = false := by simp; omega
        have e19 : ((i : Int) == 19) = false := by simp; omega
        have e50 : ((i : Int) == 50) = false := by simp; omega
        have e51 : ((i : Int) == 51) = false := by simp; omega
        have g4 : decide ((4 : Int) ≤ (i : Int)) = true := by simp; omega
        have g28 : decide ((28 : Int) ≤ (i : Int)) = true := by simp; omega
        have g36 : decide ((36 : Int) ≤ (i : Int)) = true := by simp; omega
        have g14 : decide ((i : Int) < 14) = false := by simp; omega
        have g32 : decide ((i : Int) < 32) = false := by simp; omega
        have g44 : decide ((i : Int) < 44) = false := by simp; omega
        rw [F1.out i (by unfold inH; simp; omega)] at y0
        rw [F2.out i (by unfold inM; simp; omega)] at z0
        clear hj
        go_wp2_with fail
        go_quiet (fail)
        go_wp2_with fail
        go_quiet (fail)
        go_wp2_with fail
        go_roundw
        case rel => exact ⟨i + 1, by omega, by go_num, by (repeat (first | with_reducible (exact Since.refl _) | with_reducible assumption | with_reducible (refine Since.drew ?_) | with_reducible (refine Since.drewN ?_ _) | with_reducible (refine Since.alloc ?_ _) | (with_reducible (refine Since.setCell ?_ ?_ _); rotate_left; focus (first | (simp; done) | (simp; omega) | omega)) | (with_reducible (refine Since.trans ?_ (by with_reducible assumption)))))⟩
        case measure => simp [intOf]; omega
    · obtain rfl : i = n := by omega
      clear h3 hI23 hI3
      go_wp2_with fail
      go_ret
      exact ⟨by first | rfl | simp, hT3.trans hSr⟩
set_option maxRecDepth 1000000 in
set_option maxHeartbeats 16000000 in
theorem headelse_01 (A : Option Addr) (n q M1 M2 : Nat) (f G1 G2 : Nat → Int) (em a b c d : Int) (l : Bool) (i0 i1 i2 i3 i4 i5 i6 E1 E2 : Int) (w : World) (HT : Hid (Tabs w)) (HR0 : Hid (Rd w w.heap.size A n (U8 f))) (hsm : n ≤ 5000) (hd1 : decide ((5000 : Int) < (n : Int)) = false)
    (HP : Hid (∀ (A1 : Option Addr) (c1 : Nat) (w1 : World), TabB w1 → Rd w1 w1.heap.size A1 n (U8 f) → Calls Tryd.prog 17 #[.slice A1 n c1, .agg #[.int .i64 em, .int .i64 a, .int .i64 b, .int .i64 c, .int .i64 d, .bool l]] w1 fun e w' => ∃ A' c', e = .returned (.tuple #[.slice A' M1 c', .int .i64 E1]) ∧ Rd w' w'.heap.size A' M1 (U8 G1) ∧ Since w1 w'))
    (HQ : Hid (∀ (A1 : Option Addr) (c1 : Nat) (w1 : World), Tabs w1 → Rd w1 w1.heap.size A1 n (U8 f) → Calls Tryd.prog 19 #[.slice A1 n c1, .agg #[.int .i64 i0, .int .i64 i1, .int .i64 i2, .int .i64 i3, .int .i64 i4, .int .i64 i5, .int .i64 i6]] w1 fun e w' => ∃ A' c', e = .returned (.tuple #[.slice A' M2 c', .int .i64 E2]) ∧ Rd w' w'.heap.size A' M2 (U8 G2) ∧ Since w1 w'))
    (F1 : Hid (∀ j, inH j = false → G1 j = f j)) (F2 : Hid (∀ j, inM j = false → G2 j = f j))
    (HB : Hid (SixB (w.alloc (.cells #[.int .i64 em, .int .i64 a, .int .i64 b, .int .i64 c, .int .i64 d, .bool l] 26)) w.heap.size (.int .i64 em) (.int .i64 a) (.int .i64 b) (.int .i64 c) (.int .i64 d) (.bool l)))
    (HMB : Hid (SevenB ((w.alloc (.cells #[.int .i64 em, .int .i64 a, .int .i64 b, .int .i64 c, .int .i64 d, .bool l] 26)).alloc (.cells #[.int .i64 i0, .int .i64 i1, .int .i64 i2, .int .i64 i3, .int .i64 i4, .int .i64 i5, .int .i64 i6] 31)) (w.heap.size + 1) (.int .i64 i0) (.int .i64 i1) (.int .i64 i2) (.int .i64 i3) (.int .i64 i4) (.int .i64 i5) (.int .i64 i6)))
    (e1 : E1 = 0 ∧ n = M1) (e2 : E2 ≠ 0 ∧ 0 = M2) : Calls Tryd.prog 7 #[.slice A n q, .agg #[.int .i64 em, .int .i64 a, .int .i64 b, .int .i64 c, .int .i64 d, .bool l], .agg #[.int .i64 i0, .int .i64 i1, .int .i64 i2, .int .i64 i3, .int .i64 i4, .int .i64 i5, .int .i64 i6]] w fun e w' => e = .returned (.bool true) ∧ Since w w' := by
  obtain ⟨rfl, rfl⟩ := e1
  obtain ⟨e2, rfl⟩ := e2
  have q2 : (E2 == 0) = false := by simp [e2]
  go_enter Tryd.func7, Tryd.ntmps7
  go_wp2_with (first | (go_at_call 8; refine (alive05 _ (HT.out.since (by (repeat (first | with_reducible (exact Since.refl _) | with_reducible assumption | with_reducible (refine Since.drew ?_) | with_reducible (refine Since.drewN ?_ _) | with_reducible (refine Since.alloc ?_ _) | (with_reducible (refine Since.setCell ?_ ?_ _); rotate_left; focus (first | (simp; done) | (simp; omega) | omega)) | (with_reducible (refine Since.trans ?_ (by with_reducible assumption))))))).b).mono ?_; rintro e w1 ⟨rfl, hS1⟩; have hT1 : Since w w1 := (by (repeat (first | with_reducible (exact Since.refl _) | with_reducible assumption | with_reducible (refine Since.drew ?_) | with_reducible (refine Since.drewN ?_ _) | with_reducible (refine Since.alloc ?_ _) | (with_reducible (refine Since.setCell ?_ ?_ _); rotate_left; focus (first | (simp; done) | (simp; omega) | omega)) | (with_reducible (refine Since.trans ?_ (by with_reducible assumption)))))); have h1 := HR0.out.on hT1; have hb1 := HB.out.since (Since.trans (Since.alloc (Since.refl _) _) hS1); have hm1 := HMB.out.since hS1; obtain ⟨b0, b1, b2, b3, b4, b5, b6⟩ := hb1) | (go_at_call 17; (with_reducible refine (HP.out _ _ _ (HT.out.since hT1).b h1).mono ?_); rintro e w2 ⟨A2, c2, rfl, hI2, hS2⟩; have hT2 := hT1.trans hS2; have h2 := h1.on hS2; have hm2 := hm1.since hS2; clear b0 b1 b2 b3 b4 b5 b6 h1 hm1; obtain ⟨b0, b1, b2, b3, b4, b5, b6, b7⟩ := hm2) | (go_at_call 19; (with_reducible refine (HQ.out _ _ _ (HT.out.since hT2) h2).mono ?_); rintro e w3 ⟨A3, c3, rfl, hI3, hS3⟩; have hT3 := hT2.trans hS3; have h3 := h2.on hS3; have hI23 := hI2.on hS3; clear b0 b1 b2 b3 b4 b5 b6 b7 h2 hI2 hS1 hS2 hS3))
  clear HP HQ HB HMB HR0 HT
  go_loopw [32] (fun y wr => ∃ i : Nat, i ≤ n ∧ y = .int .i64 (i : Int) ∧ Since w3 wr) (fun y _ => n - (intOf y).toNat)
  case atStart => exact ⟨0, by omega, rfl, Since.refl _⟩
  case round =>
    obtain ⟨i, hi, rfl, hSr⟩ := hrel
    by_cases hin : i < n
    · have hin' : (i : Int) < n := by omega
      have hi0 : (0 : Int) ≤ (i : Int) := by omega
      have u1 : IntKind.i64.wrap ((i : Int) + 1) = (i : Int) + 1 := IntWalk.i64_in _ (by omega)
      obtain ⟨bq, oq, rfl, hbq, hcq⟩ := h3 (by omega)
      have x0 := (hSr.1 _ _ hbq).trans (hcq i hin)
      simp only [U8, IntRow] at x0
      obtain ⟨bc, oc, rfl, hbc, hcc⟩ := hI23 (by omega)
      have y0 := (hSr.1 _ _ hbc).trans (hcc i hin)
      simp only [U8, IntRow] at y0
      clear hcc
      have hc : (0 ≤ i ∧ i < 4) ∨ (4 ≤ i ∧ i < 14) ∨ (14 ≤ i ∧ i < 18) ∨ (18 ≤ i ∧ i < 19) ∨ (19 ≤ i ∧ i < 20) ∨ (20 ≤ i ∧ i < 28) ∨ (28 ≤ i ∧ i < 32) ∨ (32 ≤ i ∧ i < 36) ∨ (36 ≤ i ∧ i < 44) ∨ (44 ≤ i ∧ i < 50) ∨ (50 ≤ i ∧ i < 51) ∨ (51 ≤ i ∧ i < 52) ∨ (52 ≤ i) := by omega
      clear hcq h3 hI23 hI3 hi
      rcases hc with hj | hj | hj | hj | hj | hj | hj | hj | hj | hj | hj | hj | hj
      · have e18 : ((i : Int) == 18) = false := by simp; omega
        have e19 : ((i : Int) == 19) = false := by simp; omega
        have e50 : ((i : Int) == 50) = false := by simp; omega
        have e51 : ((i : Int) == 51) = false := by simp; omega
        have g4 : decide ((4 : Int) ≤ (i : Int)) = false := by simp; omega
        have g28 : decide ((28 : Int) ≤ (i : Int)) = false := by simp; omega
        have g36 : decide ((36 : Int) ≤ (i : Int)) = false := by simp; omega
        have g14 : decide ((i : Int) < 14) = true := by simp; omega
        have g32 : decide ((i : Int) < 32) = true := by simp; omega
        have g44 : decide ((i : Int) < 44) = true := by simp; omega
        rw [F1.out i (by unfold inH; simp; omega)] at y0
        clear hj
        go_wp2_with fail
        go_quiet (fail)
        go_wp2_with fail
        go_quiet (fail)
        go_wp2_with fail
        go_roundw
        case rel => exact ⟨i + 1, by omega, by go_num, by (repeat (first | with_reducible (exact Since.refl _) | with_reducible assumption | with_reducible (refine Since.drew ?_) | with_reducible (refine Since.drewN ?_ _) | with_reducible (refine Since.alloc ?_ _) | (with_reducible (refine Since.setCell ?_ ?_ _); rotate_left; focus (first | (simp; done) | (simp; omega) | omega)) | (with_reducible (refine Since.trans ?_ (by with_reducible assumption)))))⟩
        case measure => simp [intOf]; omega
      · have e18 : ((i : Int) == 18) = false := by simp; omega
        have e19 : ((i : Int) == 19) = false := by simp; omega
        have e50 : ((i : Int) == 50) = false := by simp; omega
        have e51 : ((i : Int) == 51) = false := by simp; omega
        have g4 : decide ((4 : Int) ≤ (i : Int)) = true := by simp; omega
        have g28 : decide ((28 : Int) ≤ (i : Int)) = false := by simp; omega
        have g36 : decide ((36 : Int) ≤ (i : Int)) = false := by simp; omega
        have g14 : decide ((i : Int) < 14) = true := by simp; omega
        have g32 : decide ((i : Int) < 32) = true := by simp; omega
        have g44 : decide ((i : Int) < 44) = true := by simp; omega
        rw [F1.out i (by unfold inH; simp; omega)] at y0
        clear hj
        go_wp2_with fail
        go_quiet (fail)
        go_wp2_with fail
        go_quiet (fail)
        go_wp2_with fail
        go_roundw
        case rel => exact ⟨i + 1, by omega, by go_num, by (repeat (first | with_reducible (exact Since.refl _) | with_reducible assumption | with_reducible (refine Since.drew ?_) | with_reducible (refine Since.drewN ?_ _) | with_reducible (refine Since.alloc ?_ _) | (with_reducible (refine Since.setCell ?_ ?_ _); rotate_left; focus (first | (simp; done) | (simp; omega) | omega)) | (with_reducible (refine Since.trans ?_ (by with_reducible assumption)))))⟩
        case measure => simp [intOf]; omega
      · have e18 : ((i : Int) == 18) = false := by simp; omega
        have e19 : ((i : Int) == 19) = false := by simp; omega
        have e50 : ((i : Int) == 50) = false := by simp; omega
        have e51 : ((i : Int) == 51) = false := by simp; omega
        have g4 : decide ((4 : Int) ≤ (i : Int)) = true := by simp; omega
        have g28 : decide ((28 : Int) ≤ (i : Int)) = false := by simp; omega
        have g36 : decide ((36 : Int) ≤ (i : Int)) = false := by simp; omega
        have g14 : decide ((i : Int) < 14) = false := by simp; omega
        have g32 : decide ((i : Int) < 32) = true := by simp; omega
        have g44 : decide ((i : Int) < 44) = true := by simp; omega
        rw [F1.out i (by unfold inH; simp; omega)] at y0
        clear hj
        go_wp2_with fail
        go_quiet (fail)
        go_wp2_with fail
        go_quiet (fail)
        go_wp2_with fail
        go_roundw
        case rel => exact ⟨i + 1, by omega, by go_num, by (repeat (first | with_reducible (exact Since.refl _) | with_reducible assumption | with_reducible (refine Since.drew ?_) | with_reducible (refine Since.drewN ?_ _) | with_reducible (refine Since.alloc ?_ _) | (with_reducible (refine Since.setCell ?_ ?_ _); rotate_left; focus (first | (simp; done) | (simp; omega) | omega)) | (with_reducible (refine Since.trans ?_ (by with_reducible assumption)))))⟩
        case measure => simp [intOf]; omega
      · have e18 : ((i : Int) == 18) = true := by simp; omega
        have e19 : ((i : Int) == 19) = false := by simp; omega
        have e50 : ((i : Int) == 50) = false := by simp; omega
        have e51 : ((i : Int) == 51) = false := by simp; omega
        have g4 : decide ((4 : Int) ≤ (i : Int)) = true := by simp; omega
        have g28 : decide ((28 : Int) ≤ (i : Int)) = false := by simp; omega
        have g36 : decide ((36 : Int) ≤ (i : Int)) = false := by simp; omega
        have g14 : decide ((i : Int) < 14) = false := by simp; omega
        have g32 : decide ((i : Int) < 32) = true := by simp; omega
        have g44 : decide ((i : Int) < 44) = true := by simp; omega
        clear hj
        go_wp2_with fail
        go_quiet (fail)
        go_wp2_with fail
        go_quiet (fail)
        go_wp2_with fail
        go_roundw
        case rel => exact ⟨i + 1, by omega, by go_num, by (repeat (first | with_reducible (exact Since.refl _) | with_reducible assumption | with_reducible (refine Since.drew ?_) | with_reducible (refine Since.drewN ?_ _) | with_reducible (refine Since.alloc ?_ _) | (with_reducible (refine Since.setCell ?_ ?_ _); rotate_left; focus (first | (simp; done) | (simp; omega) | omega)) | (with_reducible (refine Since.trans ?_ (by with_reducible assumption)))))⟩
        case measure => simp [intOf]; omega
      · have e18 : ((i : Int) == 18) = false := by simp; omega
        have e19 : ((i : Int) == 19) = true := by simp; omega
        have e50 : ((i : Int) == 50) = false := by simp; omega
        have e51 : ((i : Int) == 51) = false := by simp; omega
        have g4 : decide ((4 : Int) ≤ (i : Int)) = true := by simp; omega
        have g28 : decide ((28 : Int) ≤ (i : Int)) = false := by simp; omega
        have g36 : decide ((36 : Int) ≤ (i : Int)) = false := by simp; omega
        have g14 : decide ((i : Int) < 14) = false := by simp; omega
        have g32 : decide ((i : Int) < 32) = true := by simp; omega
        have g44 : decide ((i : Int) < 44) = true := by simp; omega
        clear hj
        go_wp2_with fail
        go_quiet (fail)
        go_wp2_with fail
        go_quiet (fail)
        go_wp2_with fail
        go_roundw
        case rel => exact ⟨i + 1, by omega, by go_num, by (repeat (first | with_reducible (exact Since.refl _) | with_reducible assumption | with_reducible (refine Since.drew ?_) | with_reducible (refine Since.drewN ?_ _) | with_reducible (refine Since.alloc ?_ _) | (with_reducible (refine Since.setCell ?_ ?_ _); rotate_left; focus (first | (simp; done) | (simp; omega) | omega)) | (with_reducible (refine Since.trans ?_ (by with_reducible assumption)))))⟩
        case measure => simp [intOf]; omega
      · have e18 : ((i : Int) == 18) = false := by simp; omega
        have e19 : ((i : Int) == 19) = false := by simp; omega
        have e50 : ((i : Int) == 50) = false := by simp; omega
        have e51 : ((i : Int) == 51) = false := by simp; omega
        have g4 : decide ((4 : Int) ≤ (i : Int)) = true := by simp; omega
        have g28 : decide ((28 : Int) ≤ (i : Int)) = false := by simp; omega
        have g36 : decide ((36 : Int) ≤ (i : Int)) = false := by simp; omega
        have g14 : decide ((i : Int) < 14) = false := by simp; omega
        have g32 : decide ((i : Int) < 32) = true := by simp; omega
        have g44 : decide ((i : Int) < 44) = true := by simp; omega
        rw [F1.out i (by unfold inH; simp; omega)] at y0
        clear hj
        go_wp2_with fail
        go_quiet (fail)
        go_wp2_with fail
        go_quiet (fail)
        go_wp2_with fail
        go_roundw
        case rel => exact ⟨i + 1, by omega, by go_num, by (repeat (first | with_reducible (exact Since.refl _) | with_reducible assumption | with_reducible (refine Since.drew ?_) | with_reducible (refine Since.drewN ?_ _) | with_reducible (refine Since.alloc ?_ _) | (with_reducible (refine Since.setCell ?_ ?_ _); rotate_left; focus (first | (simp; done) | (simp; omega) | omega)) | (with_reducible (refine Since.trans ?_ (by with_reducible assumption)))))⟩
        case measure => simp [intOf]; omega
      · have e18 : ((i : Int) == 18) = false := by simp; omega
        have e19 : ((i : Int) == 19) = false := by simp; omega
        have e50 : ((i : Int) == 50) = false := by simp; omega
        have e51 : ((i : Int) == 51) = false := by simp; omega
        have g4 : decide ((4 : Int) ≤ (i : Int)) = true := by simp; omega
        have g28 : decide ((28 : Int) ≤ (i : Int)) = true := by simp; omega
        have g36 : decide ((36 : Int) ≤ (i : Int)) = false := by simp; omega
        have g14 : decide ((i : Int) < 14) = false := by simp; omega
        have g32 : decide ((i : Int) < 32) = true := by simp; omega
        have g44 : decide ((i : Int) < 44) = true := by simp; omega
        rw [F1.out i (by unfold inH; simp; omega)] at y0
        clear hj
        go_wp2_with fail
        go_quiet (fail)
        go_wp2_with fail
        go_quiet (fail)
        go_wp2_with fail
        go_roundw
        case rel => exact ⟨i + 1, by omega, by go_num, by (repeat (first | with_reducible (exact Since.refl _) | with_reducible assumption | with_reducible (refine Since.drew ?_) | with_reducible (refine Since.drewN ?_ _) | with_reducible (refine Since.alloc ?_ _) | (with_reducible (refine Since.setCell ?_ ?_ _); rotate_left; focus (first | (simp; done) | (simp; omega) | omega)) | (with_reducible (refine Since.trans ?_ (by with_reducible assumption)))))⟩
        case measure => simp [intOf]; omega
      · have e18 : ((i : Int) == 18) = false := by simp; omega
        have e19 : ((i : Int) == 19) = false := by simp; omega
        have e50 : ((i : Int) == 50) = false := by simp; omega
        have e51 : ((i : Int) == 51) = false := by simp; omega
        have g4 : decide ((4 : Int) ≤ (i : Int)) = true := by simp; omega
        have g28 : decide ((28 : Int) ≤ (i : Int)) = true := by simp; omega
        have g36 : decide ((36 : Int) ≤ (i : Int)) = false := by simp; omega
        have g14 : decide ((i : Int) < 14) = false := by simp; omega
        have g32 : decide ((i : Int) < 32) = false := by simp; omega
        have g44 : decide ((i : Int) < 44) = true := by simp; omega
        rw [F1.out i (by unfold inH; simp; omega)] at y0
        clear hj
        go_wp2_with fail
        go_quiet (fail)
        go_wp2_with fail
        go_quiet (fail)
        go_wp2_with fail
        go_roundw
        case rel => exact ⟨i + 1, by omega, by go_num, by (repeat (first | with_reducible (exact Since.refl _) | with_reducible assumption | with_reducible (refine Since.drew ?_) | with_reducible (refine Since.drewN ?_ _) | with_reducible (refine Since.alloc ?_ _) | (with_reducible (refine Since.setCell ?_ ?_ _); rotate_left; focus (first | (simp; done) | (simp; omega) | omega)) | (with_reducible (refine Since.trans ?_ (by with_reducible assumption)))))⟩
        case measure => simp [intOf]; omega
      · have e18 : ((i : Int) == 18) = false := by simp; omega
        have e19 : ((i : Int) == 19) = false := by simp; omega
        have e50 : ((i : Int) == 50) = false := by simp; omega
        have e51 : ((i : Int) == 51) = false := by simp; omega
        have g4 : decide ((4 : Int) ≤ (i : Int)) = true := by simp; omega
        have g28 : decide ((28 : Int) ≤ (i : Int)) = true := by simp; omega
        have g36 : decide ((36 : Int) ≤ (i : Int)) = true := by simp; omega
        have g14 : decide ((i : Int) < 14) = false := by simp; omega
        have g32 : decide ((i : Int) < 32) = false := by simp; omega
        have g44 : decide ((i : Int) < 44) = true := by simp; omega
        clear hj
        go_wp2_with fail
        go_quiet (fail)
        go_wp2_with fail
        go_quiet (fail)
        go_wp2_with fail
        go_roundw
        case rel => exact ⟨i + 1, by omega, by go_num, by (repeat (first | with_reducible (exact Since.refl _) | with_reducible assumption | with_reducible (refine Since.drew ?_) | with_reducible (refine Since.drewN ?_ _) | with_reducible (refine Since.alloc ?_ _) | (with_reducible (refine Since.setCell ?_ ?_ _); rotate_left; focus (first | (simp; done) | (simp; omega) | omega)) | (with_reducible (refine Since.trans ?_ (by with_reducible assumption)))))⟩
        case measure => simp [intOf]; omega
      · have e18 : ((i : Int) == 18) = false := by simp; omega
        have e19 : ((i : Int) == 19) = false := by simp; omega
        have e50 : ((i : Int) == 50) = false := by simp; omega
        have e51 : ((i : Int) == 51) = false := by simp; omega
        have g4 : decide ((4 : Int) ≤ (i : Int)) = true := by simp; omega
        have g28 : decide ((28 : Int) ≤ (i : Int)) = true := by simp; omega
        have g36 : decide ((36 : Int) ≤ (i : Int)) = true := by simp; omega
        have g14 : decide ((i : Int) < 14) = false := by simp; omega
        have g32 : decide ((i : Int) < 32) = false := by simp; omega
        have g44 : decide ((i : Int) < 44) = false := by simp; omega
        rw [F1.out i (by unfold inH; simp; omega)] at y0
        clear hj
        go_wp2_with fail
        go_quiet (fail)
        go_wp2_with fail
        go_quiet (fail)
        go_wp2_with fail
        go_roundw
        case rel => exact ⟨i + 1, by omega, by go_num, by (repeat (first | with_reducible (exact Since.refl _) | with_reducible assumption | with_reducible (refine Since.drew ?_) | with_reducible (refine Since.drewN ?_ _) | with_reducible (refine Since.alloc ?_ _) | (with_reducible (refine Since.setCell ?_ ?_ _); rotate_left; focus (first | (simp; done) | (simp; omega) | omega)) | (with_reducible (refine Since.trans ?_ (by with_reducible assumption)))))⟩
        case measure => simp [intOf]; omega
      · have e18 : ((i : Int) == 18) = false := by simp; omega
        have e19 : ((i : Int) == 19) = false := by simp; omega
        have e50 : ((i : Int) == 50) = true := by simp; omega
        have e51 : ((i : Int) == 51) = false := by simp; omega
        have g4 : decide ((4 : Int) ≤ (i : Int)) = true := by simp; omega
        have g28 : decide ((28 : Int) ≤ (i : Int)) = true := by simp; omega
        have g36 : decide ((36 : Int) ≤ (i : Int)) = true := by simp; omega
        have g14 : decide ((i : Int) < 14) = false := by simp; omega
        have g32 : decide ((i : Int) < 32) = false := by simp; omega
        have g44 : decide ((i : Int) < 44) = false := by simp; omega
        clear hj
        go_wp2_with fail
        go_quiet (fail)
        go_wp2_with fail
        go_quiet (fail)
        go_wp2_with fail
        go_roundw
        case rel => exact ⟨i + 1, by omega, by go_num, by (repeat (first | with_reducible (exact Since.refl _) | with_reducible assumption | with_reducible (refine Since.drew ?_) | with_reducible (refine Since.drewN ?_ _) | with_reducible (refine Since.alloc ?_ _) | (with_reducible (refine Since.setCell ?_ ?_ _); rotate_left; focus (first | (simp; done) | (simp; omega) | omega)) | (with_reducible (refine Since.trans ?_ (by with_reducible assumption)))))⟩
        case measure => simp [intOf]; omega
      · have e18 : ((i : Int) == 18) = false := by simp; omega
        have e19 : ((i : Int) == 19) = false := by simp; omega
        have e50 : ((i : Int) == 50) = false := by simp; omega
        have e51 : ((i : Int) == 51) = true := by simp; omega
        have g4 : decide ((4 : Int) ≤ (i : Int)) = true := by simp; omega
        have g28 : decide ((28 : Int) ≤ (i : Int)) = true := by simp; omega
        have g36 : decide ((36 : Int) ≤ (i : Int)) = true := by simp; omega
        have g14 : decide ((i : Int) < 14) = false := by simp; omega
        have g32 : decide ((i : Int) < 32) = false := by simp; omega
        have g44 : decide ((i : Int) < 44) = false := by simp; omega
        clear hj
        go_wp2_with fail
        go_quiet (fail)
        go_wp2_with fail
        go_quiet (fail)
        go_wp2_with fail
        go_roundw
        case rel => exact ⟨i + 1, by omega, by go_num, by (repeat (first | with_reducible (exact Since.refl _) | with_reducible assumption | with_reducible (refine Since.drew ?_) | with_reducible (refine Since.drewN ?_ _) | with_reducible (refine Since.alloc ?_ _) | (with_reducible (refine Since.setCell ?_ ?_ _); rotate_left; focus (first | (simp; done) | (simp; omega) | omega)) | (with_reducible (refine Since.trans ?_ (by with_reducible assumption)))))⟩
        case measure => simp [intOf]; omega
      · have e18 : ((i : Int) == 18) = false := by simp; omega
        have e19 : ((i : Int) == 19) = false := by simp; omega
        have e50 : ((i : Int) == 50) = false := by simp; omega
        have e51 : ((i : Int) == 51) = false := by simp; omega
        have g4 : decide ((4 : Int) ≤ (i : Int)) = true := by simp; omega
        have g28 : decide ((28 : Int) ≤ (i : Int)) = true := by simp; omega
        have g36 : decide ((36 : Int) ≤ (i : Int)) = true := by simp; omega
        have g14 : decide ((i : Int) < 14) = false := by simp; omega
        have g32 : decide ((i : Int) < 32) = false := by simp; omega
        have g44 : decide ((i : Int) < 44) = false := by simp; omega
        rw [F1.out i (by unfold inH; simp; omega)] at y0
        clear hj
        go_wp2_with fail
        go_quiet (fail)
        go_wp2_with fail
        go_quiet (fail)
        go_wp2_with fail
        go_roundw
        case rel => exact ⟨i + 1, by omega, by go_num, by (repeat (first | with_reducible (exact Since.refl _) | with_reducible assumption | with_reducible (refine Since.drew ?_) | with_reducible (refine Since.drewN ?_ _) | with_reducible (refine Since.alloc ?_ _) | (with_reducible (refine Since.setCell ?_ ?_ _); rotate_left; focus (first | (simp; done) | (simp; omega) | omega)) | (with_reducible (refine Since.trans ?_ (by with_reducible assumption)))))⟩
        case measure => simp [intOf]; omega
    · obtain rfl : i = n := by omega
      clear h3 hI23 hI3
      go_wp2_with fail
      go_ret
      exact ⟨by first | rfl | simp, hT3.trans hSr⟩
set_option maxRecDepth 1000000 in
set_option maxHeartbeats 16000000 in
theorem headelse_10 (A : Option Addr) (n q M1 M2 : Nat) (f G1 G2 : Nat → Int) (em a b c d : Int) (l : Bool) (i0 i1 i2 i3 i4 i5 i6 E1 E2 : Int) (w : World) (HT : Hid (Tabs w)) (HR0 : Hid (Rd w w.heap.size A n (U8 f))) (hsm : n ≤ 5000) (hd1 : decide ((5000 : Int) < (n : Int)) = false)
    (HP : Hid (∀ (A1 : Option Addr) (c1 : Nat) (w1 : World), TabB w1 → Rd w1 w1.heap.size A1 n (U8 f) → Calls Tryd.prog 17 #[.slice A1 n c1, .agg #[.int .i64 em, .int .i64 a, .int .i64 b, .int .i64 c, .int .i64 d, .bool l]] w1 fun e w' => ∃ A' c', e = .returned (.tuple #[.slice A' M1 c', .int .i64 E1]) ∧ Rd w' w'.heap.size A' M1 (U8 G1) ∧ Since w1 w'))
    (HQ : Hid (∀ (A1 : Option Addr) (c1 : Nat) (w1 : World), Tabs w1 → Rd w1 w1.heap.size A1 n (U8 f) → Calls Tryd.prog 19 #[.slice A1 n c1, .agg #[.int .i64 i0, .int .i64 i1, .int .i64 i2, .int .i64 i3, .int .i64 i4, .int .i64 i5, .int .i64 i6]] w1 fun e w' => ∃ A' c', e = .returned (.tuple #[.slice A' M2 c', .int .i64 E2]) ∧ Rd w' w'.heap.size A' M2 (U8 G2) ∧ Since w1 w'))
    (F1 : Hid (∀ j, inH j = false → G1 j = f j)) (F2 : Hid (∀ j, inM j = false → G2 j = f j))
    (HB : Hid (SixB (w.alloc (.cells #[.int .i64 em, .int .i64 a, .int .i64 b, .int .i64 c, .int .i64 d, .bool l] 26)) w.heap.size (.int .i64 em) (.int .i64 a) (.int .i64 b) (.int .i64 c) (.int .i64 d) (.bool l)))
    (HMB : Hid (SevenB ((w.alloc (.cells #[.int .i64 em, .int .i64 a, .int .i64 b, .int .i64 c, .int .i64 d, .bool l] 26)).alloc (.cells #[.int .i64 i0, .int .i64 i1, .int .i64 i2, .int .i64 i3, .int .i64 i4, .int .i64 i5, .int .i64 i6] 31)) (w.heap.size + 1) (.int .i64 i0) (.int .i64 i1) (.int .i64 i2) (.int .i64 i3) (.int .i64 i4) (.int .i64 i5) (.int .i64 i6)))
    (e1 : E1 ≠ 0 ∧ 0 = M1) (e2 : E2 = 0 ∧ n = M2) : Calls Tryd.prog 7 #[.slice A n q, .agg #[.int .i64 em, .int .i64 a, .int .i64 b, .int .i64 c, .int .i64 d, .bool l], .agg #[.int .i64 i0, .int .i64 i1, .int .i64 i2, .int .i64 i3, .int .i64 i4, .int .i64 i5, .int .i64 i6]] w fun e w' => e = .returned (.bool true) ∧ Since w w' := by
  obtain ⟨e1, rfl⟩ := e1
  have q1 : (E1 == 0) = false := by simp [e1]
  obtain ⟨rfl, rfl⟩ := e2
  go_enter Tryd.func7, Tryd.ntmps7
  go_wp2_with (first | (go_at_call 8; refine (alive05 _ (HT.out.since (by (repeat (first | with_reducible (exact Since.refl _) | with_reducible assumption | with_reducible (refine Since.drew ?_) | with_reducible (refine Since.drewN ?_ _) | with_reducible (refine Since.alloc ?_ _) | (with_reducible (refine Since.setCell ?_ ?_ _); rotate_left; focus (first | (simp; done) | (simp; omega) | omega)) | (with_reducible (refine Since.trans ?_ (by with_reducible assumption))))))).b).mono ?_; rintro e w1 ⟨rfl, hS1⟩; have hT1 : Since w w1 := (by (repeat (first | with_reducible (exact Since.refl _) | with_reducible assumption | with_reducible (refine Since.drew ?_) | with_reducible (refine Since.drewN ?_ _) | with_reducible (refine Since.alloc ?_ _) | (with_reducible (refine Since.setCell ?_ ?_ _); rotate_left; focus (first | (simp; done) | (simp; omega) | omega)) | (with_reducible (refine Since.trans ?_ (by with_reducible assumption)))))); have h1 := HR0.out.on hT1; have hb1 := HB.out.since (Since.trans (Since.alloc (Since.refl _) _) hS1); have hm1 := HMB.out.since hS1; obtain ⟨b0, b1, b2, b3, b4, b5, b6⟩ := hb1) | (go_at_call 17; (with_reducible refine (HP.out _ _ _ (HT.out.since hT1).b h1).mono ?_); rintro e w2 ⟨A2, c2, rfl, hI2, hS2⟩; have hT2 := hT1.trans hS2; have h2 := h1.on hS2; have hm2 := hm1.since hS2; clear b0 b1 b2 b3 b4 b5 b6 h1 hm1; obtain ⟨b0, b1, b2, b3, b4, b5, b6, b7⟩ := hm2) | (go_at_call 19; (with_reducible refine (HQ.out _ _ _ (HT.out.since hT2) h2).mono ?_); rintro e w3 ⟨A3, c3, rfl, hI3, hS3⟩; have hT3 := hT2.trans hS3; have h3 := h2.on hS3; have hI23 := hI2.on hS3; clear b0 b1 b2 b3 b4 b5 b6 b7 h2 hI2 hS1 hS2 hS3))
  clear HP HQ HB HMB HR0 HT
  go_loopw [32] (fun y wr => ∃ i : Nat, i ≤ n ∧ y = .int .i64 (i : Int) ∧ Since w3 wr) (fun y _ => n - (intOf y).toNat)
  case atStart => exact ⟨0, by omega, rfl, Since.refl _⟩
  case round =>
    obtain ⟨i, hi, rfl, hSr⟩ := hrel
    by_cases hin : i < n
    · have hin' : (i : Int) < n := by omega
      have hi0 : (0 : Int) ≤ (i : Int) := by omega
      have u1 : IntKind.i64.wrap ((i : Int) + 1) = (i : Int) + 1 := IntWalk.i64_in _ (by omega)
      obtain ⟨bq, oq, rfl, hbq, hcq⟩ := h3 (by omega)
      have x0 := (hSr.1 _ _ hbq).trans (hcq i hin)
      simp only [U8, IntRow] at x0
      obtain ⟨bd, od, rfl, hbd, hcd⟩ := hI3 (by omega)
      have z0 := (hSr.1 _ _ hbd).trans (hcd i hin)
      simp only [U8, IntRow] at z0
      clear hcd
      have hc : (0 ≤ i ∧ i < 4) ∨ (4 ≤ i ∧ i < 14) ∨ (14 ≤ i ∧ i < 18) ∨ (18 ≤ i ∧ i < 19) ∨ (19 ≤ i ∧ i < 20) ∨ (20 ≤ i ∧ i < 28) ∨ (28 ≤ i ∧ i < 32) ∨ (32 ≤ i ∧ i < 36) ∨ (36 ≤ i ∧ i < 44) ∨ (44 ≤ i ∧ i < 50) ∨ (50 ≤ i ∧ i < 51) ∨ (51 ≤ i ∧ i < 52) ∨ (52 ≤ i) := by omega
      clear hcq h3 hI23 hI3 hi
      rcases hc with hj | hj | hj | hj | hj | hj | hj | hj | hj | hj | hj | hj | hj
      · have e18 : ((i : Int) == 18) = false := by simp; omega
        have e19 : ((i : Int) == 19) = false := by simp; omega
        have e50 : ((i : Int) == 50) = false := by simp; omega
        have e51 : ((i : Int) == 51) = false := by simp; omega
        have g4 : decide ((4 : Int) ≤ (i : Int)) = false := by simp; omega
        have g28 : decide ((28 : Int) ≤ (i : Int)) = false := by simp; omega
        have g36 : decide ((36 : Int) ≤ (i : Int)) = false := by simp; omega
        have g14 : decide ((i : Int) < 14) = true := by simp; omega
        have g32 : decide ((i : Int) < 32) = true := by simp; omega
        have g44 : decide ((i : Int) < 44) = true := by simp; omega
        rw [F2.out i (by unfold inM; simp; omega)] at z0
        clear hj
        go_wp2_with fail
        go_quiet (fail)
        go_wp2_with fail
        go_quiet (fail)
        go_wp2_with fail
        go_roundw
        case rel => exact ⟨i + 1, by omega, by go_num, by (repeat (first | with_reducible (exact Since.refl _) | with_reducible assumption | with_reducible (refine Since.drew ?_) | with_reducible (refine Since.drewN ?_ _) | with_reducible (refine Since.alloc ?_ _) | (with_reducible (refine Since.setCell ?_ ?_ _); rotate_left; focus (first | (simp; done) | (simp; omega) | omega)) | (with_reducible (refine Since.trans ?_ (by with_reducible assumption)))))⟩
        case measure => simp [intOf]; omega
      · have e18 : ((i : Int) == 18) = false := by simp; omega
        have e19 : ((i : Int) == 19) = false := by simp; omega
        have e50 : ((i : Int) == 50) = false := by simp; omega
        have e51 : ((i : Int) == 51) = false := by simp; omega
        have g4 : decide ((4 : Int) ≤ (i : Int)) = true := by simp; omega
        have g28 : decide ((28 : Int) ≤ (i : Int)) = false := by simp; omega
        have g36 : decide ((36 : Int) ≤ (i : Int)) = false := by simp; omega
        have g14 : decide ((i : Int) < 14) = true := by simp; omega
        have g32 : decide ((i : Int) < 32) = true := by simp; omega
        have g44 : decide ((i : Int) < 44) = true := by simp; omega
        clear hj
        go_wp2_with fail
        go_quiet (fail)
        go_wp2_with fail
        go_quiet (fail)
        go_wp2_with fail
        go_roundw
        case rel => exact ⟨i + 1, by omega, by go_num, by (repeat (first | with_reducible (exact Since.refl _) | with_reducible assumption | with_reducible (refine Since.drew ?_) | with_reducible (refine Since.drewN ?_ _) | with_reducible (refine Since.alloc ?_ _) | (with_reducible (refine Since.setCell ?_ ?_ _); rotate_left; focus (first | (simp; done) | (simp; omega) | omega)) | (with_reducible (refine Since.trans ?_ (by with_reducible assumption)))))⟩
        case measure => simp [intOf]; omega
      · have e18 : ((i : Int) == 18) = false := by simp; omega
        have e19 : ((i : Int) == 19) = false := by simp; omega
        have e50 : ((i : Int) == 50) = false := by simp; omega
        have e51 : ((i : Int) == 51) = false := by simp; omega
        have g4 : decide ((4 : Int) ≤ (i : Int)) = true := by simp; omega
        have g28 : decide ((28 : Int) ≤ (i : Int)) = false := by simp; omega
        have g36 : decide ((36 : Int) ≤ (i : Int)) = false := by simp; omega
        have g14 : decide ((i : Int) < 14) = false := by simp; omega
        have g32 : decide ((i : Int) < 32) = true := by simp; omega
        have g44 : decide ((i : Int) < 44) = true := by simp; omega
        rw [F2.out i (by unfold inM; simp; omega)] at z0
        clear hj
        go_wp2_with fail
        go_quiet (fail)
        go_wp2_with fail
        go_quiet (fail)
        go_wp2_with fail
        go_roundw
        case rel => exact ⟨i + 1, by omega, by go_num, by (repeat (first | with_reducible (exact Since.refl _) | with_reducible assumption | with_reducible (refine Since.drew ?_) | with_reducible (refine Since.drewN ?_ _) | with_reducible (refine Since.alloc ?_ _) | (with_reducible (refine Since.setCell ?_ ?_ _); rotate_left; focus (first | (simp; done) | (simp; omega) | omega)) | (with_reducible (refine Since.trans ?_ (by with_reducible assumption)))))⟩
        case measure => simp [intOf]; omega
      · have e18 : ((i : Int) == 18) = true := by simp; omega
        have e19 : ((i : Int) == 19) = false := by simp; omega
        have e50 : ((i : Int) == 50) = false := by simp; omega
        have e51 : ((i : Int) == 51) = false := by simp; omega
        have g4 : decide ((4 : Int) ≤ (i : Int)) = true := by simp; omega
        have g28 : decide ((28 : Int) ≤ (i : Int)) = false := by simp; omega
        have g36 : decide ((36 : Int) ≤ (i : Int)) = false := by simp; omega
        have g14 : decide ((i : Int) < 14) = false := by simp; omega
        have g32 : decide ((i : Int) < 32) = true := by simp; omega
        have g44 : decide ((i : Int) < 44) = true := by simp; omega
        rw [F2.out i (by unfold inM; simp; omega)] at z0
        clear hj
        go_wp2_with fail
        go_quiet (fail)
        go_wp2_with fail
        go_quiet (fail)
        go_wp2_with fail
        go_roundw
        case rel => exact ⟨i + 1, by omega, by go_num, by (repeat (first | with_reducible (exact Since.refl _) | with_reducible assumption | with_reducible (refine Since.drew ?_) | with_reducible (refine Since.drewN ?_ _) | with_reducible (refine Since.alloc ?_ _) | (with_reducible (refine Since.setCell ?_ ?_ _); rotate_left; focus (first | (simp; done) | (simp; omega) | omega)) | (with_reducible (refine Since.trans ?_ (by with_reducible assumption)))))⟩
        case measure => simp [intOf]; omega
      · have e18 : ((i : Int) == 18) = false := by simp; omega
        have e19 : ((i : Int) == 19) = true := by simp; omega
        have e50 : ((i : Int) == 50) = false := by simp; omega
        have e51 : ((i : Int) == 51) = false := by simp; omega
        have g4 : decide ((4 : Int) ≤ (i : Int)) = true := by simp; omega
        have g28 : decide ((28 : Int) ≤ (i : Int)) = false := by simp; omega
        have g36 : decide ((36 : Int) ≤ (i : Int)) = false := by simp; omega
        have g14 : decide ((i : Int) < 14) = false := by simp; omega
        have g32 : decide ((i : Int) < 32) = true := by simp; omega
        have g44 : decide ((i : Int) < 44) = true := by simp; omega
        rw [F2.out i (by unfold inM; simp; omega)] at z0
        clear hj
        go_wp2_with fail
        go_quiet (fail)
        go_wp2_with fail
        go_quiet (fail)
        go_wp2_with fail
        go_roundw
        case rel => exact ⟨i + 1, by omega, by go_num, by (repeat (first | with_reducible (exact Since.refl _) | with_reducible assumption | with_reducible (refine Since.drew ?_) | with_reducible (refine Since.drewN ?_ _) | with_reducible (refine Since.alloc ?_ _) | (with_reducible (refine Since.setCell ?_ ?_ _); rotate_left; focus (first | (simp; done) | (simp; omega) | omega)) | (with_reducible (refine Since.trans ?_ (by with_reducible assumption)))))⟩
        case measure => simp [intOf]; omega
      · have e18 : ((i : Int) == 18) = false := by simp; omega
        have e19 : ((i : Int) == 19) = false := by simp; omega
        have e50 : ((i : Int) == 50) = false := by simp; omega
        have e51 : ((i : Int) == 51) = false := by simp; omega
        have g4 : decide ((4 : Int) ≤ (i : Int)) = true := by simp; omega
        have g28 : decide ((28 : Int) ≤ (i : Int)) = false := by simp; omega
        have g36 : decide ((36 : Int) ≤ (i : Int)) = false := by simp; omega
        have g14 : decide ((i : Int) < 14) = false := by simp; omega
        have g32 : decide ((i : Int) < 32) = true := by simp; omega
        have g44 : decide ((i : Int) < 44) = true := by simp; omega
        rw [F2.out i (by unfold inM; simp; omega)] at z0
        clear hj
        go_wp2_with fail
        go_quiet (fail)
        go_wp2_with fail
        go_quiet (fail)
        go_wp2_with fail
        go_roundw
        case rel => exact ⟨i + 1, by omega, by go_num, by (repeat (first | with_reducible (exact Since.refl _) | with_reducible assumption | with_reducible (refine Since.drew ?_) | with_reducible (refine Since.drewN ?_ _) | with_reducible (refine Since.alloc ?_ _) | (with_reducible (refine Since.setCell ?_ ?_ _); rotate_left; focus (first | (simp; done) | (simp; omega) | omega)) | (with_reducible (refine Since.trans ?_ (by with_reducible assumption)))))⟩
        case measure => simp [intOf]; omega
      · have e18 : ((i : Int) == 18) = false := by simp; omega
        have e19 : ((i : Int) == 19) = false := by simp; omega
        have e50 : ((i : Int) == 50) = false := by simp; omega
        have e51 : ((i : Int) == 51) = false := by simp; omega
        have g4 : decide ((4 : Int) ≤ (i : Int)) = true := by simp; omega
        have g28 : decide ((28 : Int) ≤ (i : Int)) = true := by simp; omega
        have g36 : decide ((36 : Int) ≤ (i : Int)) = false := by simp; omega
        have g14 : decide ((i : Int) < 14) = false := by simp; omega
        have g32 : decide ((i : Int) < 32) = true := by simp; omega
        have g44 : decide ((i : Int) < 44) = true := by simp; omega
        clear hj
        go_wp2_with fail
        go_quiet (fail)
        go_wp2_with fail
        go_quiet (fail)
        go_wp2_with fail
        go_roundw
        case rel => exact ⟨i + 1, by omega, by go_num, by (repeat (first | with_reducible (exact Since.refl _) | with_reducible assumption | with_reducible (refine Since.drew ?_) | with_reducible (refine Since.drewN ?_ _) | with_reducible (refine Since.alloc ?_ _) | (with_reducible (refine Since.setCell ?_ ?_ _); rotate_left; focus (first | (simp; done) | (simp; omega) | omega)) | (with_reducible (refine Since.trans ?_ (by with_reducible assumption)))))⟩
        case measure => simp [intOf]; omega
      · have e18 : ((i : Int) == 18) = false := by simp; omega
        have e19 : ((i : Int) == 19) = false := by simp; omega
        have e50 : ((i : Int) == 50) = false := by simp; omega
        have e51 : ((i : Int) == 51) = false := by simp; omega
        have g4 : decide ((4 : Int) ≤ (i : Int)) = true := by simp; omega
        have g28 : decide ((28 : Int) ≤ (i : Int)) = true := by simp; omega
        have g36 : decide ((36 : Int) ≤ (i : Int)) = false := by simp; omega
        have g14 : decide ((i : Int) < 14) = false := by simp; omega
        have g32 : decide ((i : Int) < 32) = false := by simp; omega
        have g44 : decide ((i : Int) < 44) = true := by simp; omega
        rw [F2.out i (by unfold inM; simp; omega)] at z0
        clear hj
        go_wp2_with fail
        go_quiet (fail)
        go_wp2_with fail
        go_quiet (fail)
        go_wp2_with fail
        go_roundw
        case rel => exact ⟨i + 1, by omega, by go_num, by (repeat (first | with_reducible (exact Since.refl _) | with_reducible assumption | with_reducible (refine Since.drew ?_) | with_reducible (refine Since.drewN ?_ _) | with_reducible (refine Since.alloc ?_ _) | (with_reducible (refine Since.setCell ?_ ?_ _); rotate_left; focus (first | (simp; done) | (simp; omega) | omega)) | (with_reducible (refine Since.trans ?_ (by with_reducible assumption)))))⟩
        case measure => simp [intOf]; omega
      · have e18 : ((i : Int) == 18) = false := by simp; omega
        have e19 : ((i : Int) == 19) = false := by simp; omega
        have e50 : ((i : Int) == 50) = false := by simp; omega
        have e51 : ((i : Int) == 51) = false := by simp; omega
        have g4 : decide ((4 : Int) ≤ (i : Int)) = true := by simp; omega
        have g28 : decide ((28 : Int) ≤ (i : Int)) = true := by simp; omega
        have g36 : decide ((36 : Int) ≤ (i : Int)) = true := by simp; omega
        have g14 : decide ((i : Int) < 14) = false := by simp; omega
        have g32 : decide ((i : Int) < 32) = false := by simp; omega
        have g44 : decide ((i : Int) < 44) = true := by simp; omega
        rw [F2.out i (by unfold inM; simp; omega)] at z0
        clear hj
        go_wp2_with fail
        go_quiet (fail)
        go_wp2_with fail
        go_quiet (fail)
        go_wp2_with fail
        go_roundw
        case rel => exact ⟨i + 1, by omega, by go_num, by (repeat (first | with_reducible (exact Since.refl _) | with_reducible assumption | with_reducible (refine Since.drew ?_) | with_reducible (refine Since.drewN ?_ _) | with_reducible (refine Since.alloc ?_ _) | (with_reducible (refine Since.setCell ?_ ?_ _); rotate_left; focus (first | (simp; done) | (simp; omega) | omega)) | (with_reducible (refine Since.trans ?_ (by with_reducible assumption)))))⟩
        case measure => simp [intOf]; omega
      · have e18 : ((i : Int) == 18) = false := by simp; omega
        have e19 : ((i : Int) == 19) = false := by simp; omega
        have e50 : ((i : Int) == 50) = false := by simp; omega
        have e51 : ((i : Int) == 51) = false := by simp; omega
        have g4 : decide ((4 : Int) ≤ (i : Int)) = true := by simp; omega
        have g28 : decide ((28 : Int) ≤ (i : Int)) = true := by simp; omega
        have g36 : decide ((36 : Int) ≤ (i : Int)) = true := by simp; omega
        have g14 : decide ((i : Int) < 14) = false := by simp; omega
        have g32 : decide ((i : Int) < 32) = false := by simp; omega
        have g44 : decide ((i : Int) < 44) = false := by simp; omega
        rw [F2.out i (by unfold inM; simp; omega)] at z0
        clear hj
        go_wp2_with fail
        go_quiet (fail)
        go_wp2_with fail
        go_quiet (fail)
        go_wp2_with fail
        go_roundw
        case rel => exact ⟨i + 1, by omega, by go_num, by (repeat (first | with_reducible (exact Since.refl _) | with_reducible assumption | with_reducible (refine Since.drew ?_) | with_reducible (refine Since.drewN ?_ _) | with_reducible (refine Since.alloc ?_ _) | (with_reducible (refine Since.setCell ?_ ?_ _); rotate_left; focus (first | (simp; done) | (simp; omega) | omega)) | (with_reducible (refine Since.trans ?_ (by with_reducible assumption)))))⟩
        case measure => simp [intOf]; omega
      · have e18 : ((i : Int) == 18) = false := by simp; omega
        have e19 : ((i : Int) == 19) = false := by simp; omega
        have e50 : ((i : Int) == 50) = true := by simp; omega
        have e51 : ((i : Int) == 51) = false := by simp; omega
        have g4 : decide ((4 : Int) ≤ (i : Int)) = true := by simp; omega
        have g28 : decide ((28 : Int) ≤ (i : Int)) = true := by simp; omega
        have g36 : decide ((36 : Int) ≤ (i : Int)) = true := by simp; omega
        have g14 : decide ((i : Int) < 14) = false := by simp; omega
        have g32 : decide ((i : Int) < 32) = false := by simp; omega
        have g44 : decide ((i : Int) < 44) = false := by simp; omega
        rw [F2.out i (by unfold inM; simp; omega)] at z0
        clear hj
        go_wp2_with fail
        go_quiet (fail)
        go_wp2_with fail
        go_quiet (fail)
        go_wp2_with fail
        go_roundw
        case rel => exact ⟨i + 1, by omega, by go_num, by (repeat (first | with_reducible (exact Since.refl _) | with_reducible assumption | with_reducible (refine Since.drew ?_) | with_reducible (refine Since.drewN ?_ _) | with_reducible (refine Since.alloc ?_ _) | (with_reducible (refine Since.setCell ?_ ?_ _); rotate_left; focus (first | (simp; done) | (simp; omega) | omega)) | (with_reducible (refine Since.trans ?_ (by with_reducible assumption)))))⟩
        case measure => simp [intOf]; omega
      · have e18 : ((i : Int) == 18) = false := by simp; omega
        have e19 : ((i : Int) == 19) = false := by simp; omega
        have e50 : ((i : Int) == 50) = false := by simp; omega
        have e51 : ((i : Int) == 51) = true := by simp; omega
        have g4 : decide ((4 : Int) ≤ (i : Int)) = true := by simp; omega
        have g28 : decide ((28 : Int) ≤ (i : Int)) = true := by simp; omega
        have g36 : decide ((36 : Int) ≤ (i : Int)) = true := by simp; omega
        have g14 : decide ((i : Int) < 14) = false := by simp; omega
        have g32 : decide ((i : Int) < 32) = false := by simp; omega
        have g44 : decide ((i : Int) < 44) = false := by simp; omega
        rw [F2.out i (by unfold inM; simp; omega)] at z0
        clear hj
        go_wp2_with fail
        go_quiet (fail)
        go_wp2_with fail
        go_quiet (fail)
        go_wp2_with fail
        go_roundw
        case rel => exact ⟨i + 1, by omega, by go_num, by (repeat (first | with_reducible (exact Since.refl _) | with_reducible assumption | with_reducible (refine Since.drew ?_) | with_reducible (refine Since.drewN ?_ _) | with_reducible (refine Since.alloc ?_ _) | (with_reducible (refine Since.setCell ?_ ?_ _); rotate_left; focus (first | (simp; done) | (simp; omega) | omega)) | (with_reducible (refine Since.trans ?_ (by with_reducible assumption)))))⟩
        case measure => simp [intOf]; omega
      · have e18 : ((i : Int) == 18) = false := by simp; omega
        have e19 : ((i : Int) == 19) = false := by simp; omega
        have e50 : ((i : Int) == 50) = false := by simp; omega
        have e51 : ((i : Int) == 51) = false := by simp; omega
        have g4 : decide ((4 : Int) ≤ (i : Int)) = true := by simp; omega
        have g28 : decide ((28 : Int) ≤ (i : Int)) = true := by simp; omega
        have g36 : decide ((36 : Int) ≤ (i : Int)) = true := by simp; omega
        have g14 : decide ((i : Int) < 14) = false := by simp; omega
        have g32 : decide ((i : Int) < 32) = false := by simp; omega
        have g44 : decide ((i : Int) < 44) = false := by simp; omega
        rw [F2.out i (by unfold inM; simp; omega)] at z0
        clear hj
        go_wp2_with fail
        go_quiet (fail)
        go_wp2_with fail
        go_quiet (fail)
        go_wp2_with fail
        go_roundw
        case rel => exact ⟨i + 1, by omega, by go_num, by (repeat (first | with_reducible (exact Since.refl _) | with_reducible assumption | with_reducible (refine Since.drew ?_) | with_reducible (refine Since.drewN ?_ _) | with_reducible (refine Since.alloc ?_ _) | (with_reducible (refine Since.setCell ?_ ?_ _); rotate_left; focus (first | (simp; done) | (simp; omega) | omega)) | (with_reducible (refine Since.trans ?_ (by with_reducible assumption)))))⟩
        case measure => simp [intOf]; omega
    · obtain rfl : i = n := by omega
      clear h3 hI23 hI3
      go_wp2_with fail
      go_ret
      exact ⟨by first | rfl | simp, hT3.trans hSr⟩
set_option maxRecDepth 1000000 in
set_option maxHeartbeats 16000000 in
theorem headelse_11 (A : Option Addr) (n q M1 M2 : Nat) (f G1 G2 : Nat → Int) (em a b c d : Int) (l : Bool) (i0 i1 i2 i3 i4 i5 i6 E1 E2 : Int) (w : World) (HT : Hid (Tabs w)) (HR0 : Hid (Rd w w.heap.size A n (U8 f))) (hsm : n ≤ 5000) (hd1 : decide ((5000 : Int) < (n : Int)) = false)
    (HP : Hid (∀ (A1 : Option Addr) (c1 : Nat) (w1 : World), TabB w1 → Rd w1 w1.heap.size A1 n (U8 f) → Calls Tryd.prog 17 #[.slice A1 n c1, .agg #[.int .i64 em, .int .i64 a, .int .i64 b, .int .i64 c, .int .i64 d, .bool l]] w1 fun e w' => ∃ A' c', e = .returned (.tuple #[.slice A' M1 c', .int .i64 E1]) ∧ Rd w' w'.heap.size A' M1 (U8 G1) ∧ Since w1 w'))
    (HQ : Hid (∀ (A1 : Option Addr) (c1 : Nat) (w1 : World), Tabs w1 → Rd w1 w1.heap.size A1 n (U8 f) → Calls Tryd.prog 19 #[.slice A1 n c1, .agg #[.int .i64 i0, .int .i64 i1, .int .i64 i2, .int .i64 i3, .int .i64 i4, .int .i64 i5, .int .i64 i6]] w1 fun e w' => ∃ A' c', e = .returned (.tuple #[.slice A' M2 c', .int .i64 E2]) ∧ Rd w' w'.heap.size A' M2 (U8 G2) ∧ Since w1 w'))
    (F1 : Hid (∀ j, inH j = false → G1 j = f j)) (F2 : Hid (∀ j, inM j = false → G2 j = f j))
    (HB : Hid (SixB (w.alloc (.cells #[.int .i64 em, .int .i64 a, .int .i64 b, .int .i64 c, .int .i64 d, .bool l] 26)) w.heap.size (.int .i64 em) (.int .i64 a) (.int .i64 b) (.int .i64 c) (.int .i64 d) (.bool l)))
    (HMB : Hid (SevenB ((w.alloc (.cells #[.int .i64 em, .int .i64 a, .int .i64 b, .int .i64 c, .int .i64 d, .bool l] 26)).alloc (.cells #[.int .i64 i0, .int .i64 i1, .int .i64 i2, .int .i64 i3, .int .i64 i4, .int .i64 i5, .int .i64 i6] 31)) (w.heap.size + 1) (.int .i64 i0) (.int .i64 i1) (.int .i64 i2) (.int .i64 i3) (.int .i64 i4) (.int .i64 i5) (.int .i64 i6)))
    (e1 : E1 ≠ 0 ∧ 0 = M1) (e2 : E2 ≠ 0 ∧ 0 = M2) : Calls Tryd.prog 7 #[.slice A n q, .agg #[.int .i64 em, .int .i64 a, .int .i64 b, .int .i64 c, .int .i64 d, .bool l], .agg #[.int .i64 i0, .int .i64 i1, .int .i64 i2, .int .i64 i3, .int .i64 i4, .int .i64 i5, .int .i64 i6]] w fun e w' => e = .returned (.bool true) ∧ Since w w' := by
  obtain ⟨e1, rfl⟩ := e1
  have q1 : (E1 == 0) = false := by simp [e1]
  obtain ⟨e2, rfl⟩ := e2
  have q2 : (E2 == 0) = false := by simp [e2]
  go_enter Tryd.func7, Tryd.ntmps7
  go_wp2_with (first | (go_at_call 8; refine (alive05 _ (HT.out.since (by (repeat (first | with_reducible (exact Since.refl _) | with_reducible assumption | with_reducible (refine Since.drew ?_) | with_reducible (refine Since.drewN ?_ _) | with_reducible (refine Since.alloc ?_ _) | (with_reducible (refine Since.setCell ?_ ?_ _); rotate_left; focus (first | (simp; done) | (simp; omega) | omega)) | (with_reducible (refine Since.trans ?_ (by with_reducible assumption))))))).b).mono ?_; rintro e w1 ⟨rfl, hS1⟩; have hT1 : Since w w1 := (by (repeat (first | with_reducible (exact Since.refl _) | with_reducible assumption | with_reducible (refine Since.drew ?_) | with_reducible (refine Since.drewN ?_ _) | with_reducible (refine Since.alloc ?_ _) | (with_reducible (refine Since.setCell ?_ ?_ _); rotate_left; focus (first | (simp; done) | (simp; omega) | omega)) | (with_reducible (refine Since.trans ?_ (by with_reducible assumption)))))); have h1 := HR0.out.on hT1; have hb1 := HB.out.since (Since.trans (Since.alloc (Since.refl _) _) hS1); have hm1 := HMB.out.since hS1; obtain ⟨b0, b1, b2, b3, b4, b5, b6⟩ := hb1) | (go_at_call 17; (with_reducible refine (HP.out _ _ _ (HT.out.since hT1).b h1).mono ?_); rintro e w2 ⟨A2, c2, rfl, hI2, hS2⟩; have hT2 := hT1.trans hS2; have h2 := h1.on hS2; have hm2 := hm1.since hS2; clear b0 b1 b2 b3 b4 b5 b6 h1 hm1; obtain ⟨b0, b1, b2, b3, b4, b5, b6, b7⟩ := hm2) | (go_at_call 19; (with_reducible refine (HQ.out _ _ _ (HT.out.since hT2) h2).mono ?_); rintro e w3 ⟨A3, c3, rfl, hI3, hS3⟩; have hT3 := hT2.trans hS3; have h3 := h2.on hS3; have hI23 := hI2.on hS3; clear b0 b1 b2 b3 b4 b5 b6 b7 h2 hI2 hS1 hS2 hS3))
  clear HP HQ HB HMB HR0 HT
  go_loopw [32] (fun y wr => ∃ i : Nat, i ≤ n ∧ y = .int .i64 (i : Int) ∧ Since w3 wr) (fun y _ => n - (intOf y).toNat)
  case atStart => exact ⟨0, by omega, rfl, Since.refl _⟩
  case round =>
    obtain ⟨i, hi, rfl, hSr⟩ := hrel
    by_cases hin : i < n
    · have hin' : (i : Int) < n := by omega
      have hi0 : (0 : Int) ≤ (i : Int) := by omega
      have u1 : IntKind.i64.wrap ((i : Int) + 1) = (i : Int) + 1 := IntWalk.i64_in _ (by omega)
      obtain ⟨bq, oq, rfl, hbq, hcq⟩ := h3 (by omega)
      have x0 := (hSr.1 _ _ hbq).trans (hcq i hin)
      simp only [U8, IntRow] at x0
      have hc : (0 ≤ i ∧ i < 4) ∨ (4 ≤ i ∧ i < 14) ∨ (14 ≤ i ∧ i < 18) ∨ (18 ≤ i ∧ i < 19) ∨ (19 ≤ i ∧ i < 20) ∨ (20 ≤ i ∧ i < 28) ∨ (28 ≤ i ∧ i < 32) ∨ (32 ≤ i ∧ i < 36) ∨ (36 ≤ i ∧ i < 44) ∨ (44 ≤ i ∧ i < 50) ∨ (50 ≤ i ∧ i < 51) ∨ (51 ≤ i ∧ i < 52) ∨ (52 ≤ i) := by omega
      clear hcq h3 hI23 hI3 hi
      rcases hc with hj | hj | hj | hj | hj | hj | hj | hj | hj | hj | hj | hj | hj
      · have e18 : ((i : Int) == 18) = false := by simp; omega
        have e19 : ((i : Int) == 19) = false := by simp; omega
        have e50 : ((i : Int) == 50) = false := by simp; omega
        have e51 : ((i : Int) == 51) = false := by simp; omega
        have g4 : decide ((4 : Int) ≤ (i : Int)) = false := by simp; omega
        have g28 : decide ((28 : Int) ≤ (i : Int)) = false := by simp; omega
        have g36 : decide ((36 : Int) ≤ (i : Int)) = false := by simp; omega
        have g14 : decide ((i : Int) < 14) = true := by simp; omega
        have g32 : decide ((i : Int) < 32) = true := by simp; omega
        have g44 : decide ((i : Int) < 44) = true := by simp; omega
        clear hj
        go_wp2_with fail
        go_quiet (fail)
        go_wp2_with fail
        go_quiet (fail)
        go_wp2_with fail
        go_roundw
        case rel => exact ⟨i + 1, by omega, by go_num, by (repeat (first | with_reducible (exact Since.refl _) | with_reducible assumption | with_reducible (refine Since.drew ?_) | with_reducible (refine Since.drewN ?_ _) | with_reducible (refine Since.alloc ?_ _) | (with_reducible (refine Since.setCell ?_ ?_ _); rotate_left; focus (first | (simp; done) | (simp; omega) | omega)) | (with_reducible (refine Since.trans ?_ (by with_reducible assumption)))))⟩
        case measure => simp [intOf]; omega
      · have e18 : ((i : Int) == 18) = false := by simp; omega
        have e19 : ((i : Int) == 19) = false := by simp; omega
        have e50 : ((i : Int) == 50) = false := by simp; omega
        have e51 : ((i : Int) == 51) = false := by simp; omega
        have g4 : decide ((4 : Int) ≤ (i : Int)) = true := by simp; omega
        have g28 : decide ((28 : Int) ≤ (i : Int)) = false := by simp; omega
        have g36 : decide ((36 : Int) ≤ (i : Int)) = false := by simp; omega
        have g14 : decide ((i : Int) < 14) = true := by simp; omega
        have g32 : decide ((i : Int) < 32) = true := by simp; omega
        have g44 : decide ((i : Int) < 44) = true := by simp; omega
        clear hj
        go_wp2_with fail
        go_quiet (fail)
        go_wp2_with fail
        go_quiet (fail)
        go_wp2_with fail
        go_roundw
        case rel => exact ⟨i + 1, by omega, by go_num, by (repeat (first | with_reducible (exact Since.refl _) | with_reducible assumption | with_reducible (refine Since.drew ?_) | with_reducible (refine Since.drewN ?_ _) | with_reducible (refine Since.alloc ?_ _) | (with_reducible (refine Since.setCell ?_ ?_ _); rotate_left; focus (first | (simp; done) | (simp; omega) | omega)) | (with_reducible (refine Since.trans ?_ (by with_reducible assumption)))))⟩
        case measure => simp [intOf]; omega
      · have e18 : ((i : Int) == 18) = false := by simp; omega
        have e19 : ((i : Int) == 19) = false := by simp; omega
        have e50 : ((i : Int) == 50) = false := by simp; omega
        have e51 : ((i : Int) == 51) = false := by simp; omega
        have g4 : decide ((4 : Int) ≤ (i : Int)) = true := by simp; omega
        have g28 : decide ((28 : Int) ≤ (i : Int)) = false := by simp; omega
        have g36 : decide ((36 : Int) ≤ (i : Int)) = false := by simp; omega
        have g14 : decide ((i : Int) < 14) = false := by simp; omega
        have g32 : decide ((i : Int) < 32) = true := by simp; omega
        have g44 : decide ((i : Int) < 44) = true := by simp; omega
        clear hj
        go_wp2_with fail
        go_quiet (fail)
        go_wp2_with fail
        go_quiet (fail)
        go_wp2_with fail
        go_roundw
        case rel => exact ⟨i + 1, by omega, by go_num, by (repeat (first | with_reducible (exact Since.refl _) | with_reducible assumption | with_reducible (refine Since.drew ?_) | with_reducible (refine Since.drewN ?_ _) | with_reducible (refine Since.alloc ?_ _) | (with_reducible (refine Since.setCell ?_ ?_ _); rotate_left; focus (first | (simp; done) | (simp; omega) | omega)) | (with_reducible (refine Since.trans ?_ (by with_reducible assumption)))))⟩
        case measure => simp [intOf]; omega
      · have e18 : ((i : Int) == 18) = true := by simp; omega
        have e19 : ((i : Int) == 19) = false := by simp; omega
        have e50 : ((i : Int) == 50) = false := by simp; omega
        have e51 : ((i : Int) == 51) = false := by simp; omega
        have g4 : decide ((4 : Int) ≤ (i : Int)) = true := by simp; omega
        have g28 : decide ((28 : Int) ≤ (i : Int)) = false := by simp; omega
        have g36 : decide ((36 : Int) ≤ (i : Int)) = false := by simp; omega
        have g14 : decide ((i : Int) < 14) = false := by simp; omega
        have g32 : decide ((i : Int) < 32) = true := by simp; omega
        have g44 : decide ((i : Int) < 44) = true := by simp; omega
        clear hj
        go_wp2_with fail
        go_quiet (fail)
        go_wp2_with fail
        go_quiet (fail)
        go_wp2_with fail
        go_roundw
        case rel => exact ⟨i + 1, by omega, by go_num, by (repeat (first | with_reducible (exact Since.refl _) | with_reducible assumption | with_reducible (refine Since.drew ?_) | with_reducible (refine Since.drewN ?_ _) | with_reducible (refine Since.alloc ?_ _) | (with_reducible (refine Since.setCell ?_ ?_ _); rotate_left; focus (first | (simp; done) | (simp; omega) | omega)) | (with_reducible (refine Since.trans ?_ (by with_reducible assumption)))))⟩
        case measure => simp [intOf]; omega
      · have e18 : ((i : Int) == 18) = false := by simp; omega
        have e19 : ((i : Int) == 19) = true := by simp; omega
        have e50 : ((i : Int) == 50) = false := by simp; omega
        have e51 : ((i : Int) == 51) = false := by simp; omega
        have g4 : decide ((4 : Int) ≤ (i : Int)) = true := by simp; omega
        have g28 : decide ((28 : Int) ≤ (i : Int)) = false := by simp; omega
        have g36 : decide ((36 : Int) ≤ (i : Int)) = false := by simp; omega
        have g14 : decide ((i : Int) < 14) = false := by simp; omega
        have g32 : decide ((i : Int) < 32) = true := by simp; omega
        have g44 : decide ((i : Int) < 44) = true := by simp; omega
        clear hj
        go_wp2_with fail
        go_quiet (fail)
        go_wp2_with fail
        go_quiet (fail)
        go_wp2_with fail
        go_roundw
        case rel => exact ⟨i + 1, by omega, by go_num, by (repeat (first | with_reducible (exact Since.refl _) | with_reducible assumption | with_reducible (refine Since.drew ?_) | with_reducible (refine Since.drewN ?_ _) | with_reducible (refine Since.alloc ?_ _) | (with_reducible (refine Since.setCell ?_ ?_ _); rotate_left; focus (first | (simp; done) | (simp; omega) | omega)) | (with_reducible (refine Since.trans ?_ (by with_reducible assumption)))))⟩
        case measure => simp [intOf]; omega
      · have e18 : ((i : Int) == 18) = false := by simp; omega
        have e19 : ((i : Int) == 19) = false := by simp; omega
        have e50 : ((i : Int) == 50) = false := by simp; omega
        have e51 : ((i : Int) == 51) = false := by simp; omega
        have g4 : decide ((4 : Int) ≤ (i : Int)) = true := by simp; omega
        have g28 : decide ((28 : Int) ≤ (i : Int)) = false := by simp; omega
        have g36 : decide ((36 : Int) ≤ (i : Int)) = false := by simp; omega
        have g14 : decide ((i : Int) < 14) = false := by simp; omega
        have g32 : decide ((i : Int) < 32) = true := by simp; omega
        have g44 : decide ((i : Int) < 44) = true := by simp; omega
        clear hj
        go_wp2_with fail
        go_quiet (fail)
        go_wp2_with fail
        go_quiet (fail)
        go_wp2_with fail
        go_roundw
        case rel => exact ⟨i + 1, by omega, by go_num, by (repeat (first | with_reducible (exact Since.refl _) | with_reducible assumption | with_reducible (refine Since.drew ?_) | with_reducible (refine Since.drewN ?_ _) | with_reducible (refine Since.alloc ?_ _) | (with_reducible (refine Since.setCell ?_ ?_ _); rotate_left; focus (first | (simp; done) | (simp; omega) | omega)) | (with_reducible (refine Since.trans ?_ (by with_reducible assumption)))))⟩
        case measure => simp [intOf]; omega
      · have e18 : ((i : Int) == 18) = false := by simp; omega
        have e19 : ((i : Int) == 19) = false := by simp; omega
        have e50 : ((i : Int) == 50) = false := by simp; omega
        have e51 : ((i : Int) == 51) = false := by simp; omega
        have g4 : decide ((4 : Int) ≤ (i : Int)) = true := by simp; omega
        have g28 : decide ((28 : Int) ≤ (i : Int)) = true := by simp; omega
        have g36 : decide ((36 : Int) ≤ (i : Int)) = false := by simp; omega
        have g14 : decide ((i : Int) < 14) = false := by simp; omega
        have g32 : decide ((i : Int) < 32) = true := by simp; omega
        have g44 : decide ((i : Int) < 44) = true := by simp; omega
        clear hj
        go_wp2_with fail
        go_quiet (fail)
        go_wp2_with fail
        go_quiet (fail)
        go_wp2_with fail
        go_roundw
        case rel => exact ⟨i + 1, by omega, by go_num, by (repeat (first | with_reducible (exact Since.refl _) | with_reducible assumption | with_reducible (refine Since.drew ?_) | with_reducible (refine Since.drewN ?_ _) | with_reducible (refine Since.alloc ?_ _) | (with_reducible (refine Since.setCell ?_ ?_ _); rotate_left; focus (first | (simp; done) | (simp; omega) | omega)) | (with_reducible (refine Since.trans ?_ (by with_reducible assumption)))))⟩
        case measure => simp [intOf]; omega
      · have e18 : ((i : Int) == 18) = false := by simp; omega
        have e19 : ((i : Int) == 19) = false := by simp; omega
        have e50 : ((i : Int) == 50) = false := by simp; omega
        have e51 : ((i : Int) == 51) = false := by simp; omega
        have g4 : decide ((4 : Int) ≤ (i : Int)) = true := by simp; omega
        have g28 : decide ((28 : Int) ≤ (i : Int)) = true := by simp; omega
        have g36 : decide ((36 : Int) ≤ (i : Int)) = false := by simp; omega
        have g14 : decide ((i : Int) < 14) = false := by simp; omega
        have g32 : decide ((i : Int) < 32) = false := by simp; omega
        have g44 : decide ((i : Int) < 44) = true := by simp; omega
        clear hj
        go_wp2_with fail
        go_quiet (fail)
        go_wp2_with fail
        go_quiet (fail)
        go_wp2_with fail
        go_roundw
        case rel => exact ⟨i + 1, by omega, by go_num, by (repeat (first | with_reducible (exact Since.refl _) | with_reducible assumption | with_reducible (refine Since.drew ?_) | with_reducible (refine Since.drewN ?_ _) | with_reducible (refine Since.alloc ?_ _) | (with_reducible (refine Since.setCell ?_ ?_ _); rotate_left; focus (first | (simp; done) | (simp; omega) | omega)) | (with_reducible (refine Since.trans ?_ (by with_reducible assumption)))))⟩
        case measure => simp [intOf]; omega
      · have e18 : ((i : Int) == 18) = false := by simp; omega
        have e19 : ((i : Int) == 19) = false := by simp; omega
        have e50 : ((i : Int) == 50) = false := by simp; omega
        have e51 : ((i : Int) == 51) = false := by simp; omega
        have g4 : decide ((4 : Int) ≤ (i : Int)) = true := by simp; omega
        have g28 : decide ((28 : Int) ≤ (i : Int)) = true := by simp; omega
        have g36 : decide ((36 : Int) ≤ (i : Int)) = true := by simp; omega
        have g14 : decide ((i : Int) < 14) = false := by simp; omega
        have g32 : decide ((i : Int) < 32) = false := by simp; omega
        have g44 : decide ((i : Int) < 44) = true := by simp; omega
        clear hj
        go_wp2_with fail
        go_quiet (fail)
        go_wp2_with fail
        go_quiet (fail)
        go_wp2_with fail
        go_roundw
        case rel => exact ⟨i + 1, by omega, by go_num, by (repeat (first | with_reducible (exact Since.refl _) | with_reducible assumption | with_reducible (refine Since.drew ?_) | with_reducible (refine Since.drewN ?_ _) | with_reducible (refine Since.alloc ?_ _) | (with_reducible (refine Since.setCell ?_ ?_ _); rotate_left; focus (first | (simp; done) | (simp; omega) | omega)) | (with_reducible (refine Since.trans ?_ (by with_reducible assumption)))))⟩
        case measure => simp [intOf]; omega
      · have e18 : ((i : Int) == 18) = false := by simp; omega
        have e19 : ((i : Int) == 19) = false := by simp; omega
        have e50 : ((i : Int) == 50) = false := by simp; omega
        have e51 : ((i : Int) == 51) = false := by simp; omega
        have g4 : decide ((4 : Int) ≤ (i : Int)) = true := by simp; omega
        have g28 : decide ((28 : Int) ≤ (i : Int)) = true := by simp; omega
        have g36 : decide ((36 : Int) ≤ (i : Int)) = true := by simp; omega
        have g14 : decide ((i : Int) < 14) = false := by simp; omega
        have g32 : decide ((i : Int) < 32) = false := by simp; omega
        have g44 : decide ((i : Int) < 44) = false := by simp; omega
        clear hj
        go_wp2_with fail
        go_quiet (fail)
        go_wp2_with fail
        go_quiet (fail)
        go_wp2_with fail
        go_roundw
        case rel => exact ⟨i + 1, by omega, by go_num, by (repeat (first | with_reducible (exact Since.refl _) | with_reducible assumption | with_reducible (refine Since.drew ?_) | with_reducible (refine Since.drewN ?_ _) | with_reducible (refine Since.alloc ?_ _) | (with_reducible (refine Since.setCell ?_ ?_ _); rotate_left; focus (first | (simp; done) | (simp; omega) | omega)) | (with_reducible (refine Since.trans ?_ (by with_reducible assumption)))))⟩
        case measure => simp [intOf]; omega
      · have e18 : ((i : Int) == 18) = false := by simp; omega
        have e19 : ((i : Int) == 19) = false := by simp; omega
        have e50 : ((i : Int) == 50) = true := by simp; omega
        have e51 : ((i : Int) == 51) = false := by simp; omega
        have g4 : decide ((4 : Int) ≤ (i : Int)) = true := by simp; omega
        have g28 : decide ((28 : Int) ≤ (i : Int)) = true := by simp; omega
        have g36 : decide ((36 : Int) ≤ (i : Int)) = true := by simp; omega
        have g14 : decide ((i : Int) < 14) = false := by simp; omega
        have g32 : decide ((i : Int) < 32) = false := by simp; omega
        have g44 : decide ((i : Int) < 44) = false := by simp; omega
        clear hj
        go_wp2_with fail
        go_quiet (fail)
        go_wp2_with fail
        go_quiet (fail)
        go_wp2_with fail
        go_roundw
        case rel => exact ⟨i + 1, by omega, by go_num, by (repeat (first | with_reducible (exact Since.refl _) | with_reducible assumption | with_reducible (refine Since.drew ?_) | with_reducible (refine Since.drewN ?_ _) | with_reducible (refine Since.alloc ?_ _) | (with_reducible (refine Since.setCell ?_ ?_ _); rotate_left; focus (first | (simp; done) | (simp; omega) | omega)) | (with_reducible (refine Since.trans ?_ (by with_reducible assumption)))))⟩
        case measure => simp [intOf]; omega
      · have e18 : ((i : Int) == 18) = false := by simp; omega
        have e19 : ((i : Int) == 19) = false := by simp; omega
        have e50 : ((i : Int) == 50) = false := by simp; omega
        have e51 : ((i : Int) == 51) = true := by simp; omega
        have g4 : decide ((4 : Int) ≤ (i : Int)) = true := by simp; omega
        have g28 : decide ((28 : Int) ≤ (i : Int)) = true := by simp; omega
        have g36 : decide ((36 : Int) ≤ (i : Int)) = true := by simp; omega
        have g14 : decide ((i : Int) < 14) = false := by simp; omega
        have g32 : decide ((i : Int) < 32) = false := by simp; omega
        have g44 : decide ((i : Int) < 44) = false := by simp; omega
        clear hj
        go_wp2_with fail
        go_quiet (fail)
        go_wp2_with fail
        go_quiet (fail)
        go_wp2_with fail
        go_roundw
        case rel => exact ⟨i + 1, by omega, by go_num, by (repeat (first | with_reducible (exact Since.refl _) | with_reducible assumption | with_reducible (refine Since.drew ?_) | with_reducible (refine Since.drewN ?_ _) | with_reducible (refine Since.alloc ?_ _) | (with_reducible (refine Since.setCell ?_ ?_ _); rotate_left; focus (first | (simp; done) | (simp; omega) | omega)) | (with_reducible (refine Since.trans ?_ (by with_reducible assumption)))))⟩
        case measure => simp [intOf]; omega
      · have e18 : ((i : Int) == 18) = false := by simp; omega
        have e19 : ((i : Int) == 19) = false := by simp; omega
        have e50 : ((i : Int) == 50) = false := by simp; omega
        have e51 : ((i : Int) == 51) = false := by simp; omega
        have g4 : decide ((4 : Int) ≤ (i : Int)) = true := by simp; omega
        have g28 : decide ((28 : Int) ≤ (i : Int)) = true := by simp; omega
        have g36 : decide ((36 : Int) ≤ (i : Int)) = true := by simp; omega
        have g14 : decide ((i : Int) < 14) = false := by simp; omega
        have g32 : decide ((i : Int) < 32) = false := by simp; omega
        have g44 : decide ((i : Int) < 44) = false := by simp; omega
        clear hj
        go_wp2_with fail
        go_quiet (fail)
        go_wp2_with fail
        go_quiet (fail)
        go_wp2_with fail
        go_roundw
        case rel => exact ⟨i + 1, by omega, by go_num, by (repeat (first | with_reducible (exact Since.refl _) | with_reducible assumption | with_reducible (refine Since.drew ?_) | with_reducible (refine Since.drewN ?_ _) | with_reducible (refine Since.alloc ?_ _) | (with_reducible (refine Since.setCell ?_ ?_ _); rotate_left; focus (first | (simp; done) | (simp; omega) | omega)) | (with_reducible (refine Since.trans ?_ (by with_reducible assumption)))))⟩
        case measure => simp [intOf]; omega
    · obtain rfl : i = n := by omega
      clear h3 hI23 hI3
      go_wp2_with fail
      go_ret
      exact ⟨by first | rfl | simp, hT3.trans hSr⟩
set_option maxRecDepth 1000000 in
set_option maxHeartbeats 16000000 in
theorem walk_headelse (A : Option Addr) (n q : Nat) (f : Nat → Int) (em a b c d : Int) (l : Bool) (i0 i1 i2 i3 i4 i5 i6 : Int) (w : World) (hT : Tabs w) (h : Rd w w.heap.size A n (U8 f)) (hf : ∀ j, j < n → 0 ≤ f j ∧ f j ≤ 255)
    (hem : In64 em) (ha : In64 a) (hb : In64 b) (hc : In64 c) (hd : In64 d) (k0 : In64 i0) (k1 : In64 i1) (k2 : In64 i2) (k3 : In64 i3) (k4 : In64 i4) (k5 : In64 i5) (k6 : In64 i6) (hn : n ≤ 140737488351232) :
    Calls Tryd.prog 7 #[.slice A n q, .agg #[.int .i64 em, .int .i64 a, .int .i64 b, .int .i64 c, .int .i64 d, .bool l], .agg #[.int .i64 i0, .int .i64 i1, .int .i64 i2, .int .i64 i3, .int .i64 i4, .int .i64 i5, .int .i64 i6]] w fun e w' => e = .returned (.bool true) ∧ Since w w' := by
  have hn' : (n : Int) ≤ 140737488351232 := by omega
  have HT := Lib.hid hT
  by_cases hbig : (5000 : Int) < n
  · have hd1 : decide ((5000 : Int) < (n : Int)) = true := by simp; omega
    clear h hT
    go_enter Tryd.func7, Tryd.ntmps7
    go_wp2_with (go_at_call 8; refine (alive05 _ (HT.out.since (by (repeat (first | with_reducible (exact Since.refl _) | with_reducible assumption | with_reducible (refine Since.drew ?_) | with_reducible (refine Since.drewN ?_ _) | with_reducible (refine Since.alloc ?_ _) | (with_reducible (refine Since.setCell ?_ ?_ _); rotate_left; focus (first | (simp; done) | (simp; omega) | omega)) | (with_reducible (refine Since.trans ?_ (by with_reducible assumption))))))).b).mono ?_; rintro e w1 ⟨rfl, hS1⟩; have hT1 : Since w w1 := (by (repeat (first | with_reducible (exact Since.refl _) | with_reducible assumption | with_reducible (refine Since.drew ?_) | with_reducible (refine Since.drewN ?_ _) | with_reducible (refine Since.alloc ?_ _) | (with_reducible (refine Since.setCell ?_ ?_ _); rotate_left; focus (first | (simp; done) | (simp; omega) | omega)) | (with_reducible (refine Since.trans ?_ (by with_reducible assumption)))))))
    go_ret
    exact ⟨by first | rfl | simp, hT1⟩
  have hsm : n ≤ 5000 := by omega
  have hd1 : decide ((5000 : Int) < (n : Int)) = false := by simp; omega
  have hP : ∀ (A1 : Option Addr) (c1 : Nat) (w1 : World), TabB w1 → Rd w1 w1.heap.size A1 n (U8 f) → Calls Tryd.prog 17 #[.slice A1 n c1, .agg #[.int .i64 em, .int .i64 a, .int .i64 b, .int .i64 c, .int .i64 d, .bool l]] w1 fun e w' => ∃ A' c', e = .returned (.tuple #[.slice A' (phN n em a b c d) c', .int .i64 (phE n em a b c d)]) ∧ Rd w' w'.heap.size A' (phN n em a b c d) (U8 (phF f em a b c d l)) ∧ Since w1 w' := fun A1 c1 w1 hT hR => (hd_puthead A1 n c1 f em a b c d l w1 hT hR hem ha hb hc hd (by omega)).mono fun _ _ ⟨A', c', x1, x2, x3, x4⟩ => ⟨A', c', x1, x3.rd, x4⟩
  have hM : ∀ (A1 : Option Addr) (c1 : Nat) (w1 : World), Tabs w1 → Rd w1 w1.heap.size A1 n (U8 f) → Calls Tryd.prog 19 #[.slice A1 n c1, .agg #[.int .i64 i0, .int .i64 i1, .int .i64 i2, .int .i64 i3, .int .i64 i4, .int .i64 i5, .int .i64 i6]] w1 fun e w' => ∃ A' c', e = .returned (.tuple #[.slice A' (mpN n (seven i0 i1 i2 i3 i4 i5 i6)) c', .int .i64 (mpE n (seven i0 i1 i2 i3 i4 i5 i6))]) ∧ Rd w' w'.heap.size A' (mpN n (seven i0 i1 i2 i3 i4 i5 i6)) (U8 (mpF f (seven i0 i1 i2 i3 i4 i5 i6) 7)) ∧ Since w1 w' := fun A1 c1 w1 hT hR => (hd_putmaxp A1 n c1 f i0 i1 i2 i3 i4 i5 i6 w1 hT hR k0 k1 k2 k3 k4 k5 k6 (by omega)).mono fun _ _ ⟨A', c', x1, x2, x3, x4⟩ => ⟨A', c', x1, x3.rd, x4⟩
  have f1 := fun j h => phF_far f em a b c d l j h
  have f2 := fun j h => mpF_far f (seven i0 i1 i2 i3 i4 i5 i6) j h
  have e1 : (phE n em a b c d = 0 ∧ n = phN n em a b c d) ∨ (phE n em a b c d ≠ 0 ∧ 0 = phN n em a b c d) := by
    by_cases h : phE n em a b c d = 0
    · exact .inl ⟨h, (phN_yes h).symm⟩
    · exact .inr ⟨h, (phN_no h).symm⟩
  have e2 : (mpE n (seven i0 i1 i2 i3 i4 i5 i6) = 0 ∧ n = mpN n (seven i0 i1 i2 i3 i4 i5 i6)) ∨ (mpE n (seven i0 i1 i2 i3 i4 i5 i6) ≠ 0 ∧ 0 = mpN n (seven i0 i1 i2 i3 i4 i5 i6)) := by
    by_cases h : mpE n (seven i0 i1 i2 i3 i4 i5 i6) = 0
    · exact .inl ⟨h, by unfold mpN; rw [if_pos h]⟩
    · exact .inr ⟨h, by unfold mpN; rw [if_neg h]⟩
  generalize phE n em a b c d = E1 at *
  generalize phN n em a b c d = M1 at *
  generalize phF f em a b c d l = G1 at *
  generalize mpE n (seven i0 i1 i2 i3 i4 i5 i6) = E2 at *
  generalize mpN n (seven i0 i1 i2 i3 i4 i5 i6) = M2 at *
  generalize mpF f (seven i0 i1 i2 i3 i4 i5 i6) 7 = G2 at *
  have HB := Lib.hid (sixb_new w (.int .i64 em) (.int .i64 a) (.int .i64 b) (.int .i64 c) (.int .i64 d) (.bool l) 26)
  have hbm := sevenb_new (w.alloc (.cells #[.int .i64 em, .int .i64 a, .int .i64 b, .int .i64 c, .int .i64 d, .bool l] 26)) (.int .i64 i0) (.int .i64 i1) (.int .i64 i2) (.int .i64 i3) (.int .i64 i4) (.int .i64 i5) (.int .i64 i6) 31
  rw [World.size_alloc] at hbm
  have HMB := Lib.hid hbm
  have HP := Lib.hid hP
  have HQ := Lib.hid hM
  have F1 := Lib.hid f1
  have F2 := Lib.hid f2
  have HR0 := Lib.hid h
  clear hP hM f1 f2 hbm hT hf hem ha hb hc hd k0 k1 k2 k3 k4 k5 k6 hn hn' hbig h
  rcases e1 with e1 | e1 <;> rcases e2 with e2 | e2
  · exact headelse_00 A n q M1 M2 f G1 G2 em a b c d l i0 i1 i2 i3 i4 i5 i6 E1 E2 w HT HR0 hsm hd1 HP HQ F1 F2 HB HMB e1 e2
  · exact headelse_01 A n q M1 M2 f G1 G2 em a b c d l i0 i1 i2 i3 i4 i5 i6 E1 E2 w HT HR0 hsm hd1 HP HQ F1 F2 HB HMB e1 e2
  · exact headelse_10 A n q M1 M2 f G1 G2 em a b c d l i0 i1 i2 i3 i4 i5 i6 E1 E2 w HT HR0 hsm hd1 HP HQ F1 F2 HB HMB e1 e2
  · exact headelse_11 A n q M1 M2 f G1 G2 em a b c d l i0 i1 i2 i3 i4 i5 i6 E1 E2 w HT HR0 hsm hd1 HP HQ F1 F2 HB HMB e1 e2
end Go.Proofs.YtefalfdillnkfaaDoor
