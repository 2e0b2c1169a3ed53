/-
  Layer 5: the law HeadPuts, walked.
-/
import Derived.Test.YtefalfdillnkfaaDoorHdK
namespace Go.Proofs.YtefalfdillnkfaaDoor
open Go.RowKit
set_option linter.unusedVariables false

theorem phN_no {n : Nat} {em a b c d : Int} (h : phE n em a b c d ≠ 0) : phN n em a b c d = 0 := by unfold phN; rw [if_neg h]
theorem phN_yes {n : Nat} {em a b c d : Int} (h : phE n em a b c d = 0) : phN n em a b c d = n := by unfold phN; rw [if_pos h]
theorem phE_zero {n : Nat} {em a b c d : Int} (h : phE n em a b c d = 0) : 54 ≤ n := by
  unfold phE at h
  by_cases h1 : n < 54
  · rw [if_pos h1] at h; exact absurd h (by decide)
  · omega
theorem phE_cases (n : Nat) (em a b c d : Int) : phE n em a b c d = 0 ∨ phE n em a b c d = 3 ∨ phE n em a b c d = 6 := by unfold phE; split <;> (try split) <;> simp
set_option maxRecDepth 100000 in
set_option maxHeartbeats 8000000 in
theorem walk_headputs (A : Option Addr) (n q : Nat) (f : Nat → Int) (em a b c d : Int) (l : Bool) (w : World) (hT : TabB w) (h : Rd w w.heap.size A n (U8 f)) (hf : ∀ j, j < n → 0 ≤ f j ∧ f j ≤ 255) (hem : In64 em) (ha : In64 a) (hb : In64 b) (hc : In64 c) (hd : In64 d) (hn : n ≤ 140737488351232) :
    Calls Tryd.prog 4 #[.slice A n q, .agg #[.int .i64 em, .int .i64 a, .int .i64 b, .int .i64 c, .int .i64 d, .bool l]] w fun e w' => e = .returned (.bool true) ∧ Since w w' := by
  have hP : ∀ (A1 : Option Addr) (c1 : Nat) (w1 : World), TabB w1 → Rd w1 w1.heap.size A1 n (U8 f) → Calls Tryd.prog 17 #[.slice A1 n c1, .agg #[.int .i64 em, .int .i64 a, .int .i64 b, .int .i64 c, .int .i64 d, .bool l]] w1 (PhPost f n em a b c d l w1) := fun A1 c1 w1 hT hR => hd_puthead A1 n c1 f em a b c d l w1 hT hR hem ha hb hc hd (by omega)
  have hR : ∀ (A1 : Option Addr) (c1 : Nat) (w1 : World), Rd w1 w1.heap.size A1 n (U8 f) → Calls Tryd.prog 18 #[.slice A1 n c1, .agg #[.int .i64 em, .int .i64 a, .int .i64 b, .int .i64 c, .int .i64 d, .bool l]] w1 (PhPost f n em a b c d l w1) := fun A1 c1 w1 hR => rf_puthead A1 n c1 f em a b c d l w1 hR hem ha hb hc hd (by omega)
  have hn' : (n : Int) ≤ 140737488351232 := by omega
  have hcs := phE_cases n em a b c d
  have HP := Lib.hid hP; have HR := Lib.hid hR
  have HT := Lib.hid hT
  have HB := Lib.hid (sixb_new w (.int .i64 em) (.int .i64 a) (.int .i64 b) (.int .i64 c) (.int .i64 d) (.bool l) 26)
  clear hP hR hT
  go_enter Tryd.func4, Tryd.ntmps4
  go_wp2_with (first | (go_at_call 8; refine (alive05 _ (HT.out.since (by (repeat (first | with_reducible (exact Since.refl _) | with_reducible assumption | with_reducible (refine Since.drew ?_) | with_reducible (refine Since.drewN ?_ _) | with_reducible (refine Since.alloc ?_ _) | (with_reducible (refine Since.setCell ?_ ?_ _); rotate_left; focus (first | (simp; done) | (simp; omega) | omega)) | (with_reducible (refine Since.trans ?_ (by with_reducible assumption)))))))).mono ?_; rintro e w1 ⟨rfl, hS1⟩; have hT1 : Since w w1 := (by (repeat (first | with_reducible (exact Since.refl _) | with_reducible assumption | with_reducible (refine Since.drew ?_) | with_reducible (refine Since.drewN ?_ _) | with_reducible (refine Since.alloc ?_ _) | (with_reducible (refine Since.setCell ?_ ?_ _); rotate_left; focus (first | (simp; done) | (simp; omega) | omega)) | (with_reducible (refine Since.trans ?_ (by with_reducible assumption)))))); have h1 := h.on hT1; have hB1 := HB.out.since hS1) | (go_at_call 9; refine (ref_copy A n q f _ h1 (by omega)).mono ?_; rintro e w2 ⟨g2, cap, rfl, hown, hS2⟩; have h2 := h1.on hS2; have hI2 := Rd.of_row hown.row; have hT2 := hT1.trans hS2; have hB2 := hB1.since hS2; clear hown hS1 hS2 h1 hT1 hB1; obtain ⟨b0, b1, b2, b3, b4, b5, b6⟩ := hB2) | (go_at_call 17; (with_reducible refine (HP.out _ _ _ (HT.out.since hT2) hI2).mono ?_); rintro e w3 ⟨A3, c3, rfl, hc3, hN3, hS3⟩; have h3 := h2.on hS3; have hI3 := hI2.on hS3; have hT3 := hT2.trans hS3; have hB3 := SixB.since ⟨b0, b1, b2, b3, b4, b5, b6⟩ hS3; clear b0 b1 b2 b3 b4 b5 b6; obtain ⟨b0, b1, b2, b3, b4, b5, b6⟩ := hB3) | (go_at_call 18; (with_reducible refine (HR.out _ _ _ h3).mono ?_); rintro e w4 ⟨A4, c4, rfl, hc4, hN4, hS4⟩; have hN34 := hN3.since hS4; have hS24 := hS3.trans hS4; clear hN3 b0 b1 b2 b3 b4 b5 b6) | (go_at_call 16; refine (ref_same _ _ _ _ _ _ _ _ hN34.rd hN4.rd (fun _ _ => rfl)).mono ?_; rintro e w5 ⟨rfl, rfl⟩))
  have hd2 : ∀ wr, Since w2 wr → Calls Tryd.prog 16 #[.slice (some ⟨g2, 0, none⟩) n cap, .slice A n q] wr fun e w' => e = .returned (.bool true) ∧ w' = wr := fun wr hS => ref_same _ _ n cap q f f wr (hI2.on hS) (h2.on hS) (fun _ _ => rfl)
  have HD := Lib.hid hd2
  clear hd2 h2 hI2 h3 hI3
  rcases hcs with hE | hE
  · have h54 := phE_zero hE
    rw [phN_yes hE] at hN34 hc3
    have HE := Lib.hid (phN_yes hE)
    obtain ⟨g, rfl, hg, hrow⟩ := hN34 (by omega)
    rw [HE.out]
    clear hE hN4
    go_loopw [38] (fun y wr => ∃ (j : Nat) (F : Nat → Int), j ≤ n ∧ y = .int .i64 (j : Int) ∧ Since w2 wr ∧ Row wr g n (U8 F)) (fun y _ => n - (intOf y).toNat)
    case atStart => exact ⟨0, _, by omega, rfl, hS24, hrow⟩
    case round =>
      obtain ⟨j, F, hj, rfl, hSr, hRw⟩ := hrel
      clear hrow
      by_cases hjn : j < n
      · have hjn' : (j : Int) < n := by omega
        have hcell := hRw.1 j hjn
        have hfr := hRw.2.1 j
        simp only [U8, IntRow] at hcell
        go_wp2
        refine ⟨⟨j + 1, fun t => if t = j then (F j + 1) % 256 else F t, by omega, by simp, hSr.setCell hg _, (hRw.set j _).congr (fun t ht => ?_)⟩, by simp [intOf]; omega⟩
        simp only [U8, IntRow]
        split <;> rfl
      · obtain rfl : j = n := by omega
        go_wp2_with (go_at_call 16; (with_reducible refine (HD.out _ hSr).mono ?_); rintro e w9 ⟨rfl, rfl⟩)
        go_ret
        exact ⟨by first | rfl | simp, hT2.trans hSr⟩
  · have hne : phE n em a b c d ≠ 0 := by rcases hE with hE | hE <;> rw [hE] <;> decide
    have HE := Lib.hid (phN_no hne)
    rw [HE.out]
    clear hE hne hN4 hN34 hc3 hc4
    go_loopw [38] (fun y wr => y = .int .i64 0 ∧ Since w2 wr) (fun _ _ => 0)
    case atStart => exact ⟨rfl, hS24⟩
    case round =>
      obtain ⟨rfl, hSr⟩ := hrel
      go_wp2_with (go_at_call 16; (with_reducible refine (HD.out _ hSr).mono ?_); rintro e w9 ⟨rfl, rfl⟩)
      go_ret
      exact ⟨by first | rfl | simp, hT2.trans hSr⟩
end Go.Proofs.YtefalfdillnkfaaDoor
