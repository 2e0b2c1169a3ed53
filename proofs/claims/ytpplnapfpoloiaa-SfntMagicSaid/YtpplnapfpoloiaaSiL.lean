/-
  Layer 7: readEnds, walked.
-/
import Derived.Test.YtpplnapfpoloiaaSiK
namespace Go.Proofs.Ytpplnapfpoloiaa
open Go.RowKit Go.ChangeShapes Go.WideShapes Go.Deep
set_option linter.unusedVariables false
set_option linter.unusedSimpArgs false

/-- Why contours' last points can't be read. -/
def endsE (f : Nat → Int) (n k : Nat) : Int :=
  if n < 10 + 2 * k then 3 else if ∃ i, i < k ∧ 0 < i ∧ en7 f i ≤ en7 f (i - 1) then 12 else if 4096 ≤ en7 f (k - 1) then 7 else 0
theorem rdA7_e {f : Nat → Int} {n k : Nat} (h : endsE f n k ≠ 0) : rdA7 f n k = no7 (endsE f n k) := by
  unfold endsE at h ⊢
  unfold rdA7
  by_cases h1 : n < 10 + 2 * k
  · rw [if_pos h1, if_pos h1]
  · rw [if_neg h1] at h ⊢
    rw [if_neg h1]
    by_cases h2 : ∃ i, i < k ∧ 0 < i ∧ en7 f i ≤ en7 f (i - 1)
    · rw [if_pos h2, if_pos h2]
    · rw [if_neg h2] at h ⊢
      rw [if_neg h2]
      by_cases h3 : 4096 ≤ en7 f (k - 1)
      · rw [if_pos h3, if_pos h3]
      · rw [if_neg h3] at h; exact absurd rfl h
theorem rdA7_o {f : Nat → Int} {n k : Nat} (h : endsE f n k = 0) : rdA7 f n k = rdB7 f n k (en7 f (k - 1) + 1).toNat ∧ 10 + 2 * k ≤ n ∧ (∀ i, i < k → 0 < i → en7 f (i - 1) < en7 f i) ∧ en7 f (k - 1) < 4096 := by
  unfold endsE at h
  unfold rdA7
  by_cases h1 : n < 10 + 2 * k
  · rw [if_pos h1] at h; cases h
  · rw [if_neg h1] at h
    rw [if_neg h1]
    by_cases h2 : ∃ i, i < k ∧ 0 < i ∧ en7 f i ≤ en7 f (i - 1)
    · rw [if_pos h2] at h; cases h
    · rw [if_neg h2] at h
      rw [if_neg h2]
      by_cases h3 : 4096 ≤ en7 f (k - 1)
      · rw [if_pos h3] at h; cases h
      · rw [if_neg h3]
        refine ⟨rfl, by omega, fun i h4 h5 => ?_, by omega⟩
        rcases Int.lt_or_le (en7 f (i - 1)) (en7 f i) with h6 | h6
        · exact h6
        · exact absurd ⟨i, h4, h5, h6⟩ h2
def EndsPost (f : Nat → Int) (n k : Nat) (w : World) (e : Ending) (w' : World) : Prop :=
  Since w w' ∧ ((endsE f n k ≠ 0 ∧ e = .returned (.tuple #[.slice none 0 0, .int .i64 (endsE f n k)])) ∨ (endsE f n k = 0 ∧ ∃ b, e = .returned (.tuple #[.slice (some ⟨b, 0, none⟩) k k, .int .i64 0]) ∧ w.heap.size ≤ b ∧ Rd w' w'.heap.size (some ⟨b, 0, none⟩) k (I64 (en7 f))))
theorem endspost_no {f : Nat → Int} {n k : Nat} {w w' : World} {x : Int} (hx : endsE f n k = x) (h0 : x ≠ 0) (hS : Since w w') : EndsPost f n k w (.returned (.tuple #[.slice none 0 0, .int .i64 x])) w' := by
  subst hx
  exact ⟨hS, .inl ⟨h0, rfl⟩⟩
set_option maxRecDepth 100000 in
set_option maxHeartbeats 8000000 in
theorem si_ends (A : Option Addr) (n c : Nat) (f : Nat → Int) (k : Nat) (w : World) (h : Rd w w.heap.size A n (U8 f)) (hf : ∀ j, j < n → 0 ≤ f j ∧ f j ≤ 255) (hn : n ≤ 140737488355328) (hk0 : 1 ≤ k) (hk : k ≤ 32767) :
    Calls Try.prog 73 #[.slice A n c, .int .i64 (k : Int)] w (EndsPost f n k w) := by
  have hkI : (k : Int) ≤ 32767 := by omega
  have hkI1 : (1 : Int) ≤ k := by omega
  have hnI : (n : Int) ≤ 140737488355328 := by omega
  have m1 : IntKind.i64.wrap (2 * (k : Int)) = 2 * (k : Int) := by rw [IntKind.wrap_i64]; omega
  have m2 : IntKind.i64.wrap (10 + 2 * (k : Int)) = 10 + 2 * (k : Int) := by rw [IntKind.wrap_i64]; omega
  by_cases h1 : n < 10 + 2 * k
  · have d1 : (n : Int) < 10 + 2 * (k : Int) := by omega
    have E := Lib.hid (show endsE f n k = 3 by unfold endsE; rw [if_pos h1])
    clear h h1
    go_enter Try.func73, Try.ntmps73
    go_wp2_with fail
    go_ret2
    exact endspost_no E.out (by omega) (by (repeat (first | with_reducible (exact Since.refl _) | with_reducible assumption | with_reducible (refine Since.drew ?_) | with_reducible (refine Since.drewN ?_ _) | with_reducible (refine Since.alloc ?_ _) | (with_reducible (refine Since.setCell ?_ ?_ _); rotate_left; focus (first | (simp; done) | (simp; omega) | omega)) | (with_reducible (refine Since.trans ?_ (by with_reducible assumption))))))
  · have d1 : ¬ (n : Int) < 10 + 2 * (k : Int) := by omega
    have hrange : ∀ i, i < k → 0 ≤ en7 f i ∧ en7 f i ≤ 65535 := fun i hi => by
      have := numAt_range (f := f) (p := 10 + 2 * i) (k := 2) (fun j hj => hf j (by omega))
      unfold en7; simp only [Int.reducePow] at this; omega
    have HR := Lib.hid hrange
    have HF := Lib.hid hf
    have E0 := Lib.hid (show endsE f n k = if ∃ i, i < k ∧ 0 < i ∧ en7 f i ≤ en7 f (i - 1) then 12 else if 4096 ≤ en7 f (k - 1) then 7 else 0 by unfold endsE; rw [if_neg h1])
    have b1 : 8 * k ≤ 281474976710656 := by omega
    have b2 : k ≤ maxLen := by simp only [maxLen]; omega
    have hfit : 10 + 2 * k ≤ n := by omega
    clear hf hrange h1
    obtain ⟨i0, hi0, hz0, hz1, hz2⟩ := info_parts infoIn0
    go_enter Try.func73, Try.ntmps73
    go_wp2_with (at_make; refine wpList_make_tab _ (by rfl) _ _ _ (by rfl) 3 i0 .i64 8 Try.underlying103 hi0 hz0 hz1 hz2 .i64 .i64 k (by rfl) (by rfl) b1 b2 ?_; intro w1 hown1 hS1)
    obtain ⟨g, hg⟩ : ∃ g, g = w.heap.size := ⟨_, rfl⟩
    rw [← hg] at hown1 ⊢
    have hgw : w.heap.size ≤ g := by omega
    go_loopw [19] (fun y wr => ∃ (j : Nat), j ≤ k ∧ y = .int .i64 (j : Int) ∧ Since w wr ∧ Row wr g k (I64 (fun t => if t < j then en7 f t else 0))) (fun y _ => k - (intOf y).toNat)
    case atStart => exact ⟨0, by omega, rfl, hS1, (row_of_own hown1).congr (fun q hq => by simp only [I64, IntRow]; rw [if_neg (by omega)])⟩
    case round =>
      obtain ⟨j, hj, rfl, hSr, hR⟩ := hrel
      clear hown1 hS1 hg
      by_cases hjk : j < k
      · have hjk' : (j : Int) < (k : Int) := by omega
        have hcell := hR.1 j hjk
        have hfr := hR.2.1 j
        have hgz := hR.2.2
        have m3 : IntKind.i64.wrap (2 * (j : Int)) = 2 * (j : Int) := by rw [IntKind.wrap_i64]; omega
        have m4 : IntKind.i64.wrap (10 + 2 * (j : Int)) = 10 + 2 * (j : Int) := by rw [IntKind.wrap_i64]; omega
        have hC := u_in A n c f (10 + 2 * j) 2 (10 + 2 * (j : Int)) 2 wr (h.on hSr) HF.out (by omega) rfl (by omega) (by omega) hn
        have he : numAt f (10 + 2 * j) 2 = en7 f j := rfl
        rw [he] at hC
        obtain ⟨x, hx⟩ : ∃ x, x = en7 f j := ⟨_, rfl⟩
        rw [← hx] at hC
        have HX := Lib.hid hx
        clear h hx he
        go_wp2_with (go_at_call 62; (with_reducible refine hC.mono ?_); rintro e w2 ⟨rfl, hw2⟩; have hw3 := hw2.symm; subst hw3; clear hw2)
        go_roundw
        case rel =>
          refine ⟨j + 1, by omega, by first | rfl | go_num, by (repeat (first | with_reducible (exact Since.refl _) | with_reducible assumption | with_reducible (refine Since.drew ?_) | with_reducible (refine Since.drewN ?_ _) | with_reducible (refine Since.alloc ?_ _) | (with_reducible (refine Since.setCell ?_ ?_ _); rotate_left; focus (first | (simp; done) | (simp; omega) | omega)) | (with_reducible (refine Since.trans ?_ (by with_reducible assumption))))), (hR.set j _).congr (fun t ht => ?_)⟩
          simp only [I64, IntRow]
          by_cases hq : t = j
          · subst hq
            rw [if_pos rfl, if_pos (by omega), HX.out]
          · rw [if_neg hq]
            by_cases ht2 : t < j
            · rw [if_pos ht2, if_pos (by omega)]
            · rw [if_neg ht2, if_neg (by omega)]
        case measure => simp [intOf]; omega
      · obtain rfl : j = k := by omega
        have hR' := hR.congr (g := I64 (en7 f)) (fun t ht => by simp only [I64, IntRow]; rw [if_pos ht])
        have hgz := hR.2.2
        clear hR h
        go_wp2_with fail
        go_loopw [8] (fun y wq => ∃ (i : Nat), 1 ≤ i ∧ i ≤ j ∧ y = .int .i64 (i : Int) ∧ Since wr wq ∧ Hid (∀ t, t < i → 0 < t → en7 f (t - 1) < en7 f t)) (fun y _ => j - (intOf y).toNat)
        case atStart => exact ⟨1, by omega, by omega, rfl, Since.refl _, Lib.hid (fun t h1 h2 => absurd h1 (by omega))⟩
        case round =>
          obtain ⟨i, hi1, hij, rfl, hSq, HO⟩ := hrel
          have hRq := hR'.since hSq
          have hgq := hSq.2.2.1 _ hgz
          by_cases hin : i < j
          · have hin' : (i : Int) < (j : Int) := by omega
            have c1 := hRq.1 i hin
            have c2 := hRq.1 (i - 1) (by omega)
            have m5 : IntKind.i64.wrap ((i : Int) - 1) = ((i - 1 : Nat) : Int) := by rw [IntKind.wrap_i64]; omega
            have hi1' : i - 1 < j := by omega
            simp only [I64, IntRow] at c1 c2
            by_cases hle : en7 f i ≤ en7 f (i - 1)
            · have E := Lib.hid (show endsE f n j = 12 by rw [E0.out, if_pos ⟨i, hin, by omega, hle⟩])
              generalize en7 f i = x at *
              generalize en7 f (i - 1) = y at *
              have hd : decide (x ≤ y) = true := by simpa using hle
              clear hR' hRq
              go_wp2_with fail
              go_region
              all_goals go_wp2_with fail
              all_goals go_ret2
              all_goals exact endspost_no E.out (by omega) (by have hX := hSr.trans hSq; (repeat (first | with_reducible (exact Since.refl _) | with_reducible assumption | with_reducible (refine Since.drew ?_) | with_reducible (refine Since.drewN ?_ _) | with_reducible (refine Since.alloc ?_ _) | (with_reducible (refine Since.setCell ?_ ?_ _); rotate_left; focus (first | (simp; done) | (simp; omega) | omega)) | (with_reducible (refine Since.trans ?_ (by with_reducible assumption))))))
            · have HO2 := Lib.hid (show ∀ t, t < i + 1 → 0 < t → en7 f (t - 1) < en7 f t from fun t h1 h2 => by
                by_cases e : t = i
                · subst e; omega
                · exact HO.out t (by omega) h2)
              generalize en7 f i = x at *
              generalize en7 f (i - 1) = y at *
              have hd : decide (x ≤ y) = false := by simpa using hle
              clear hR' hRq
              go_wp2_with fail
              go_region
              all_goals go_wp2_with fail
              all_goals go_roundw
              all_goals first | (simp [intOf]; omega) | exact ⟨i + 1, by omega, by omega, by first | rfl | go_num, by (repeat (first | with_reducible (exact Since.refl _) | with_reducible assumption | with_reducible (refine Since.drew ?_) | with_reducible (refine Since.drewN ?_ _) | with_reducible (refine Since.alloc ?_ _) | (with_reducible (refine Since.setCell ?_ ?_ _); rotate_left; focus (first | (simp; done) | (simp; omega) | omega)) | (with_reducible (refine Since.trans ?_ (by with_reducible assumption))))), HO2⟩
          · obtain rfl : i = j := by omega
            have c1 := hRq.1 (i - 1) (by omega)
            have m5 : IntKind.i64.wrap ((i : Int) - 1) = ((i - 1 : Nat) : Int) := by rw [IntKind.wrap_i64]; omega
            have hi1' : i - 1 < i := by omega
            simp only [I64, IntRow] at c1
            have hno : ¬ ∃ t, t < i ∧ 0 < t ∧ en7 f t ≤ en7 f (t - 1) := fun ⟨t, h1, h2, h3⟩ => by have := HO.out t h1 h2; omega
            by_cases h7 : 4096 ≤ en7 f (i - 1)
            · have E := Lib.hid (show endsE f n i = 7 by rw [E0.out, if_neg hno, if_pos h7])
              generalize en7 f (i - 1) = y at *
              have hd : decide (4096 ≤ y) = true := by simpa using h7
              clear hno hR'
              go_wp2_with fail
              go_ret2
              exact endspost_no E.out (by omega) (hSr.trans hSq)
            · have E := Lib.hid (show endsE f n i = 0 by rw [E0.out, if_neg hno, if_neg h7])
              generalize en7 f (i - 1) = y at *
              have hd : decide (4096 ≤ y) = false := by simpa using h7
              clear hno hR'
              go_wp2_with fail
              go_ret2
              exact ⟨hSr.trans hSq, .inr ⟨E.out, g, by first | rfl | simp, hgw, Rd.of_row hRq⟩⟩
end Go.Proofs.Ytpplnapfpoloiaa
