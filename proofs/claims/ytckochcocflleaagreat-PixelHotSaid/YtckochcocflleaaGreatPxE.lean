/-
  Layer 16: 'Hits', walked.
-/
import Derived.Test.YtckochcocflleaaGreatMgB
namespace Go.Proofs.YtckochcocflleaaGreat
open Go.RowKit
set_option linter.unusedVariables false

theorem prow2x (w : World) (b : Nat) (hb : b = w.heap.size) (t : TypeId) (x y : Int) : Row (w.alloc (.cells #[.int .i64 x, .int .i64 y] t)) b 2 (Pf x y) := prow w b hb t x y
def pixG (x y : Int) : Bool := decide (-65536 ≤ x ∧ x ≤ 65536 ∧ -65536 ≤ y ∧ y ≤ 65536)
theorem pixG_iff {x y : Int} : pixG x y = true ↔ (-65536 ≤ x ∧ x ≤ 65536 ∧ -65536 ≤ y ∧ y ≤ 65536) := by unfold pixG; simp
theorem pix_lo {x y : Int} : pixG x y = (decide (hi2 x y ≤ 65536) && decide (-65536 ≤ lo2 x y)) := by
  unfold pixG hi2 lo2
  rw [Bool.eq_iff_iff]
  simp only [Bool.and_eq_true, decide_eq_true_eq]
  split <;> split <;> omega
theorem strow0 (w : World) (b : Nat) (hb : b = w.heap.size) (t : TypeId) : Row (w.alloc (.cells #[.int .i64 0, .int .i64 1, .int .i64 1, .int .i64 1, .bool false, .bool false] t)) b 6 (Stf st0) := strow w b hb t st0
theorem st0_ok : st0.ok := by unfold Stc.ok st0; simp
/-- Whether a line goes through a pixel, of any line and any pixel. -/
def hitB (l : Ln) (x y : Int) : Bool := goodB l.ax l.ay && goodB l.bx l.bz && pixG x y && hitS l.ax l.ay l.bx l.bz x y
set_option maxRecDepth 100000 in
set_option maxHeartbeats 8000000 in
theorem px_hits_no (l : Ln) (hl : l.wf) (x y : Int) (h : (goodB l.ax l.ay && goodB l.bx l.bz && pixG x y) = false) (w : World) :
    Calls Tryz.prog 11 #[l.v, Pt x y] w fun e w' => e = .returned (.bool false) ∧ Since w w' := by
  have hg := fun w b hb t => good2 w b hb l.ax l.ay l.bx l.bz t hl.1 hl.2
  have hN := fun w b hb t => ln_new w b hb l t
  have hmin := min2_run
  have hmax := max2_run
  unfold Ln.v Pt at *
  have HN := Lib.hid hN
  cases hG : (goodB l.ax l.ay && goodB l.bx l.bz)
  · rw [hG] at hg
    have HG := Lib.hid hg
    clear hg hN h hG hl
    go_enter Tryz.func11, Tryz.ntmps11
    go_wp2_with (go_at_call 12; (with_reducible refine (HG.out _ _ (by first | rfl | simp) _).mono ?_); rintro e w1 ⟨rfl, hS1⟩)
    go_ret
    exact ⟨by first | rfl | simp, by (repeat (first | with_reducible (exact Since.refl _) | with_reducible assumption | with_reducible (refine Since.drew ?_) | with_reducible (refine Since.drewN ?_ _) | with_reducible (refine Since.alloc ?_ _) | (with_reducible (refine Since.setCell ?_ ?_ _); rotate_left; focus (first | (simp; done) | (simp; omega) | omega)) | (with_reducible (refine Since.trans ?_ (by with_reducible assumption)))))⟩
  · rw [hG] at hg
    rw [hG, Bool.true_and, pix_lo] at h
    have HG := Lib.hid hg
    clear hg hN hG hl
    by_cases hA : hi2 x y ≤ 65536
    · by_cases hB : -65536 ≤ lo2 x y
      · simp [hA, hB] at h
      · have d1 : decide ((65536 : Int) < hi2 x y) = false := by simp; omega
        have d2 : decide (lo2 x y < (-65536 : Int)) = true := by simp; omega
        clear h hA hB
        go_enter Tryz.func11, Tryz.ntmps11
        go_wp2_with (go_at_call 12; (with_reducible refine (HG.out _ _ (by first | rfl | simp) _).mono ?_); rintro e w1 ⟨rfl, hS1⟩; have hP1 := ((prow2x _ (w.heap.size + 1) (by simp) _ x y).alloc _).since hS1; obtain ⟨c1, c2, c3⟩ := pcells hP1)
        go_ret
        exact ⟨by first | rfl | simp, by (repeat (first | with_reducible (exact Since.refl _) | with_reducible assumption | with_reducible (refine Since.drew ?_) | with_reducible (refine Since.drewN ?_ _) | with_reducible (refine Since.alloc ?_ _) | (with_reducible (refine Since.setCell ?_ ?_ _); rotate_left; focus (first | (simp; done) | (simp; omega) | omega)) | (with_reducible (refine Since.trans ?_ (by with_reducible assumption)))))⟩
    · have d1 : decide ((65536 : Int) < hi2 x y) = true := by simp; omega
      clear h hA
      go_enter Tryz.func11, Tryz.ntmps11
      go_wp2_with (go_at_call 12; (with_reducible refine (HG.out _ _ (by first | rfl | simp) _).mono ?_); rintro e w1 ⟨rfl, hS1⟩; have hP1 := ((prow2x _ (w.heap.size + 1) (by simp) _ x y).alloc _).since hS1; obtain ⟨c1, c2, c3⟩ := pcells hP1)
      go_ret
      exact ⟨by first | rfl | simp, by (repeat (first | with_reducible (exact Since.refl _) | with_reducible assumption | with_reducible (refine Since.drew ?_) | with_reducible (refine Since.drewN ?_ _) | with_reducible (refine Since.alloc ?_ _) | (with_reducible (refine Since.setCell ?_ ?_ _); rotate_left; focus (first | (simp; done) | (simp; omega) | omega)) | (with_reducible (refine Since.trans ?_ (by with_reducible assumption)))))⟩
set_option maxRecDepth 100000 in
set_option maxHeartbeats 8000000 in
theorem px_hits_ok (l : Ln) (hl : l.wf) (x y : Int) (h : (goodB l.ax l.ay && goodB l.bx l.bz && pixG x y) = true) (w : World) :
    Calls Tryz.prog 11 #[l.v, Pt x y] w fun e w' => e = .returned (.bool (hitS l.ax l.ay l.bx l.bz x y)) ∧ Since w w' := by
  have hg := fun w b hb t => good2 w b hb l.ax l.ay l.bx l.bz t hl.1 hl.2
  have hN := fun w b hb t => ln_new w b hb l t
  have hmin := min2_run
  have hmax := max2_run
  obtain ⟨hG, hP⟩ := Bool.and_eq_true_iff.1 h
  rw [hG] at hg
  obtain ⟨g1, g2⟩ := Bool.and_eq_true_iff.1 hG
  have i1 := goodB_iff.1 g1
  have i2 := goodB_iff.1 g2
  have i3 := pixG_iff.1 hP
  rw [pix_lo] at hP
  have hA : hi2 x y ≤ 65536 ∧ -65536 ≤ lo2 x y := by simpa using hP
  have d1 : decide ((65536 : Int) < hi2 x y) = false := by simp; omega
  have d2 : decide (lo2 x y < (-65536 : Int)) = false := by simp; omega
  have k1 := cut_ok (a := l.ax) (b := l.bx) (row := x) st0_ok (by omega) (by omega) (by omega)
  have k2 := cut_ok (a := l.ay) (b := l.bz) (row := y) k1 (by omega) (by omega) (by omega)
  have hC1 := fun w0 b w hb hS hR => px_cut w0 b st0 l.ax l.bx x st0_ok (by omega) (by omega) (by omega) w hb hS hR
  have hC2 := fun w0 b w hb hS hR => px_cut w0 b (cutS st0 l.ax l.bx x) l.ay l.bz y k1 (by omega) (by omega) (by omega) w hb hS hR
  have hE := fun b w hR => px_empty b (cutS (cutS st0 l.ax l.bx x) l.ay l.bz y) k2 w hR
  have hH : hitS l.ax l.ay l.bx l.bz x y = !empS (cutS (cutS st0 l.ax l.bx x) l.ay l.bz y) := rfl
  rw [hH]
  generalize empS (cutS (cutS st0 l.ax l.bx x) l.ay l.bz y) = E at *
  generalize cutS (cutS st0 l.ax l.bx x) l.ay l.bz y = S2 at *
  generalize cutS st0 l.ax l.bx x = S1 at *
  unfold StPost at hC1 hC2
  unfold Ln.v Pt at *
  have HN := Lib.hid hN; have HG := Lib.hid hg; have HC1 := Lib.hid hC1; have HC2 := Lib.hid hC2; have HE := Lib.hid hE
  clear hN hg hC1 hC2 hE k1 k2 i1 i2 i3 g1 g2 hG hP hA h hl hH
  have tok1 := True.intro
  go_enter Tryz.func11, Tryz.ntmps11
  go_wp2_with (first | (go_at_call 12; (with_reducible refine (HG.out _ _ (by first | rfl | simp) _).mono ?_); rintro e w1 ⟨rfl, hS1⟩; have hP1 := ((prow2x _ (w.heap.size + 1) (by simp) _ x y).alloc _).since hS1; have hL1 := (((HN.out w _ rfl _).alloc _).alloc _).since hS1; have hT1 : Since w w1 := (by (repeat (first | with_reducible (exact Since.refl _) | with_reducible assumption | with_reducible (refine Since.drew ?_) | with_reducible (refine Since.drewN ?_ _) | with_reducible (refine Since.alloc ?_ _) | (with_reducible (refine Since.setCell ?_ ?_ _); rotate_left; focus (first | (simp; done) | (simp; omega) | omega)) | (with_reducible (refine Since.trans ?_ (by with_reducible assumption)))))); clear hS1; obtain ⟨c1, c2, c3⟩ := pcells hP1; obtain ⟨l1, l2, l3, l4, l5⟩ := id hL1) | (go_at_call 26; have _t := tok1; (with_reducible refine (HC1.out w1 w1.heap.size _ (Nat.le_refl _) ((Since.refl _).alloc _) (strow0 w1 _ rfl _)).mono ?_); rintro e w2 ⟨⟨v2, rfl⟩, hR2, hS2, hK2⟩; clear tok1; have hP2 := hP1.since hS2; have hL2 := hL1.since hS2; clear c1 c2 c3 l1 l2 l3 l4 l5; obtain ⟨c1, c2, c3⟩ := pcells hP2; obtain ⟨l1, l2, l3, l4, l5⟩ := id hL2) | (go_at_call 26; (with_reducible refine (HC2.out w1 w1.heap.size w2 (Nat.le_refl _) hS2 hR2).mono ?_); rintro e w3 ⟨⟨v3, rfl⟩, hR3, hS3, hK3⟩; clear c1 c2 c3 l1 l2 l3 l4 l5) | (go_at_call 27; (with_reducible refine (HE.out _ _ hR3).mono ?_); rintro e w4 ⟨rfl, hS4⟩; have hT4 : Since w w4 := (hT1.trans hS3).trans hS4))
  go_ret
  exact ⟨by first | rfl | simp, hT4⟩
theorem px_hits (l : Ln) (hl : l.wf) (x y : Int) (w : World) : Calls Tryz.prog 11 #[l.v, Pt x y] w fun e w' => e = .returned (.bool (hitB l x y)) ∧ Since w w' := by
  unfold hitB
  cases h : (goodB l.ax l.ay && goodB l.bx l.bz && pixG x y)
  · exact px_hits_no l hl x y h w
  · exact px_hits_ok l hl x y h w
end Go.Proofs.YtckochcocflleaaGreat
