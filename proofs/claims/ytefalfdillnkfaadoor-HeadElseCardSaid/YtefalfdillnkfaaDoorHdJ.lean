/-
  Layer 5: the document's examples.
-/
import Derived.Test.YtefalfdillnkfaaDoorHdE
import Derived.Test.YtefalfdillnkfaaDoorHdF
import Derived.Test.YtefalfdillnkfaaDoorKitA
namespace Go.Proofs.YtefalfdillnkfaaDoor
open Go.RowKit
set_option linter.unusedVariables false

def nth (l : List Int) (j : Nat) : Int := l.getD j 0
theorem nth_bytes {l : List Int} (h : l.all (fun x => decide (0 ≤ x ∧ x ≤ 255)) = true) : ∀ j, j < l.length → 0 ≤ nth l j ∧ nth l j ≤ 255 := fun j hj => by
  have h1 := List.all_eq_true.1 h (l[j]) (List.getElem_mem hj)
  simp only [decide_eq_true_eq] at h1
  unfold nth
  rw [List.getD_eq_getElem?_getD, List.getElem?_eq_getElem hj]
  exact h1
def al54 : List Int := [0, 0, 0, 0, 0, 0, 0, 0, 0, 0, 0, 0, 95, 15, 60, 245, 0, 0, 3, 232, 0, 0, 0, 0, 0, 0, 0, 0, 0, 0, 0, 0, 0, 0, 0, 0, 0, 0, 0, 0, 0, 0, 0, 0, 0, 0, 0, 0, 0, 0, 0, 0, 0, 0]
theorem al_head (g : Nat) (w : World) (hT : TabB w) (hr : Row w g 54 (U8 (nth al54))) : Calls Tryd.prog 10 #[.slice (some ⟨g, 0, none⟩) 54 54] w fun e w' => e = .returned (.tuple #[.agg #[.int .i64 1000, .int .i64 0, .int .i64 0, .int .i64 0, .int .i64 0, .bool false], .int .i64 0]) ∧ Since w w' := by
  refine (hd_head _ 54 54 _ w hT (Rd.of_row hr) (nth_bytes (l := al54) (by decide)) (by omega)).mono ?_
  rintro e w' ⟨rfl, hS⟩
  refine ⟨?_, hS⟩
  rw [show hdM (nth al54) 54 = 1000 by decide +kernel, show hdS (nth al54) 54 36 = 0 by decide +kernel, show hdS (nth al54) 54 38 = 0 by decide +kernel, show hdS (nth al54) 54 40 = 0 by decide +kernel, show hdS (nth al54) 54 42 = 0 by decide +kernel, show hdL (nth al54) 54 = false by decide +kernel, show hdE (nth al54) 54 = 0 by decide +kernel]
  rfl
theorem al_puthead (g : Nat) (w : World) (hT : TabB w) (hr : Row w g 54 (U8 (nth al54))) : Calls Tryd.prog 17 #[.slice (some ⟨g, 0, none⟩) 54 54, .agg #[.int .i64 1000, .int .i64 (-2), .int .i64 0, .int .i64 0, .int .i64 0, .bool false]] w fun e w' => ∃ g' c', e = .returned (.tuple #[.slice (some ⟨g', 0, none⟩) 54 c', .int .i64 0]) ∧ g' < w'.heap.size ∧ w'.cell? ⟨g', 36, none⟩ = some (.int .u8 255) ∧ w'.cell? ⟨g', 37, none⟩ = some (.int .u8 254) ∧ Since w w' := by
  refine (hd_puthead _ 54 54 _ 1000 (-2) 0 0 0 false w hT (Rd.of_row hr) (by unfold In64; omega) (by unfold In64; omega) (by unfold In64; omega) (by unfold In64; omega) (by unfold In64; omega) (by omega)).mono ?_
  rintro e w' ⟨A', c', rfl, hc, hN, hS⟩
  have e1 : phE 54 1000 (-2) 0 0 0 = 0 := by decide +kernel
  have e2 : phN 54 1000 (-2) 0 0 0 = 54 := by decide +kernel
  rw [e2] at hN ⊢
  rw [e1]
  obtain ⟨g', rfl, _, hr'⟩ := hN (by omega)
  refine ⟨g', c', rfl, hr'.2.2, (hr'.1 36 (by omega)).trans ?_, (hr'.1 37 (by omega)).trans ?_, hS⟩
  · show some (Value.int .u8 _) = _; congr 2
  · show some (Value.int .u8 _) = _; congr 2
theorem al_putcount (g : Nat) (w : World) (hr : Row w g 36 (IntRow .u8 (fun _ => 0))) : Calls Tryd.prog 21 #[.slice (some ⟨g, 0, none⟩) 36 36, .int .i64 5] w fun e w' => ∃ g' c', e = .returned (.tuple #[.slice (some ⟨g', 0, none⟩) 36 c', .int .i64 0]) ∧ w'.cell? ⟨g', 35, none⟩ = some (.int .u8 5) ∧ Since w w' := by
  refine (hd_putcount _ 36 36 (fun _ => 0) 5 w (Rd.of_row hr) (by unfold In64; omega) (by omega)).mono ?_
  rintro e w' ⟨A', c', rfl, hc, hN, hS⟩
  have e1 : pcE 36 5 = 0 := by decide +kernel
  have e2 : pcN 36 5 = 36 := by decide +kernel
  rw [e2] at hN ⊢
  rw [e1]
  obtain ⟨g', rfl, _, hr'⟩ := hN (by omega)
  refine ⟨g', c', rfl, (hr'.1 35 (by omega)).trans ?_, hS⟩
  show some (Value.int .u8 _) = _; congr 2
theorem al_row {w : World} {g : Nat} {s : ByteArray} (hs : s.data.toList = [95, 15, 60, 245]) (h : Row w g 54 (overV 12 (s.data.toList.map fun x => Value.int .u8 (x.toNat : Int)) (IntRow .u8 (fun _ => 0)))) : Row ((w.setCell ⟨g, 18, none⟩ (.int .u8 3)).setCell ⟨g, 19, none⟩ (.int .u8 232)) g 54 (U8 (nth al54)) := by
  refine ((h.set 18 _).set 19 _).congr (fun j hj => ?_)
  rw [hs]
  have key : ∀ j, j < 54 → (if j = 19 then Value.int .u8 232 else if j = 18 then Value.int .u8 3 else overV 12 ([95, 15, 60, 245].map fun x : UInt8 => Value.int .u8 (x.toNat : Int)) (IntRow .u8 (fun _ => 0)) j) = U8 (nth al54) j := by
    intro j hj
    have h54 : ∀ j : Fin 54, (if j.1 = 19 then Value.int .u8 232 else if j.1 = 18 then Value.int .u8 3 else overV 12 ([95, 15, 60, 245].map fun x : UInt8 => Value.int .u8 (x.toNat : Int)) (IntRow .u8 (fun _ => 0)) j.1) = U8 (nth al54) j.1 := by
      intro j
      obtain ⟨j, hj⟩ := j
      unfold overV
      by_cases h1 : 12 ≤ j ∧ j < 20
      · have hc : j = 12 ∨ j = 13 ∨ j = 14 ∨ j = 15 ∨ j = 16 ∨ j = 17 ∨ j = 18 ∨ j = 19 := by omega
        rcases hc with rfl | rfl | rfl | rfl | rfl | rfl | rfl | rfl <;> rfl
      · rw [if_neg (by simp; omega), if_neg (by simp; omega), if_neg (by simp; omega)]
        have hz : nth al54 j = 0 := by
          have hall : ∀ i : Fin 54, ¬ (12 ≤ i.1 ∧ i.1 < 20) → nth al54 i.1 = 0 := by decide +kernel
          exact hall ⟨j, hj⟩ h1
        simp only [U8, IntRow, hz]
    exact h54 ⟨j, hj⟩
  exact key j hj
theorem em_at (w : World) (a b c d e f : Value) (t : TypeId) (x : Value) : ((w.alloc (.cells #[a, b, c, d, e, f] t)).setCell ⟨w.heap.size, 1, none⟩ x).cell? ⟨w.heap.size, 0, none⟩ = some a := by
  rw [cell_set, if_neg (by omega)]
  exact hbox_at w a b c d e f t 0 _ rfl
set_option maxRecDepth 100000 in
set_option maxHeartbeats 8000000 in
theorem alive05 (w : World) (hT : TabB w) : Calls Tryd.prog 8 #[] w fun e w' => e = .returned (.bool true) ∧ Since w w' := by
  obtain ⟨i0, hi0, hz0, hz1, hz2⟩ := info_parts Tryd.info_u8
  have b1 : 1 * 54 ≤ 281474976710656 := by omega
  have b2 : 54 ≤ maxLen := by simp only [maxLen]; omega
  have b3 : 1 * 36 ≤ 281474976710656 := by omega
  have b4 : 36 ≤ maxLen := by simp only [maxLen]; omega
  have HT := Lib.hid hT
  have tok1 := True.intro
  clear hT
  go_enter Tryd.func8, Tryd.ntmps8
  go_wp2_with (first | (at_make; have _t := tok1; refine wpList_make_tab _ (by rfl) _ _ _ (by rfl) 5 i0 .u8 1 Tryd.underlying22 hi0 hz0 hz1 hz2 .i64 .i64 54 (by rfl) (by rfl) b1 b2 ?_; intro w1 hown1 hS1; have hr1 := row_of_own hown1; clear hown1) | (have _t := tok1; refine wpList_copy_str (by rfl) _ _ _ _ (by rfl) 5 Tryd.underlying22 Tryd.size_u8' w.heap.size 12 _ _ 54 _ _ (by rfl) (by rfl) hr1 (by decide) (by decide) w hS1 (Nat.le_refl _) ?_; intro w2 hr2 hS2; clear hr1 tok1; have hc18 := hr2.1 18 (by omega); have hc19 := hr2.1 19 (by omega); have hf18 := hr2.2.1 18; have hf19 := hr2.2.1 19; have hrA := al_row (by rfl) hr2; have hTA : Since w _ := (hS2.setCell (p := ⟨w.heap.size, 18, none⟩) (Nat.le_refl _) (.int .u8 3)).setCell (p := ⟨w.heap.size, 19, none⟩) (Nat.le_refl _) (.int .u8 232); have tok2 := True.intro) | (go_at_call 10; have _t := tok2; refine (al_head _ _ (HT.out.since hTA) hrA).mono ?_; rintro e w3 ⟨rfl, hS3⟩; have hT3 := hTA.trans hS3; have hr3 := hrA.since hS3; clear hc18 hc19 hf18 hf19 hr2 hrA hTA tok2; have tok3 := True.intro) | (go_at_call 17; have _t := tok3; refine (al_puthead w.heap.size _ (HT.out.since (by (repeat (first | with_reducible (exact Since.refl _) | with_reducible assumption | with_reducible (refine Since.drew ?_) | with_reducible (refine Since.drewN ?_ _) | with_reducible (refine Since.alloc ?_ _) | (with_reducible (refine Since.setCell ?_ ?_ _); rotate_left; focus (first | (simp; done) | (simp; omega) | omega)) | (with_reducible (refine Since.trans ?_ (by with_reducible assumption))))))) (hr3.since (by (repeat (first | with_reducible (exact Since.refl _) | with_reducible assumption | with_reducible (refine Since.drew ?_) | with_reducible (refine Since.drewN ?_ _) | with_reducible (refine Since.alloc ?_ _) | (with_reducible (refine Since.setCell ?_ ?_ _); rotate_left; focus (first | (simp; done) | (simp; omega) | omega)) | (with_reducible (refine Since.trans ?_ (by with_reducible assumption)))))))).mono ?_; rintro e w4 ⟨g4, c4, rfl, hg4, h36, h37, hS4⟩; have hT4 : Since w w4 := (by (repeat (first | with_reducible (exact Since.refl _) | with_reducible assumption | with_reducible (refine Since.drew ?_) | with_reducible (refine Since.drewN ?_ _) | with_reducible (refine Since.alloc ?_ _) | (with_reducible (refine Since.setCell ?_ ?_ _); rotate_left; focus (first | (simp; done) | (simp; omega) | omega)) | (with_reducible (refine Since.trans ?_ (by with_reducible assumption)))))); have hem := (hS4.1 w3.heap.size 0 (by simp)).trans (hbox_at w3 _ _ _ _ _ _ _ 0 _ rfl); have hlt4 : w3.heap.size < w4.heap.size := (by have := hS4.below.size; simp at this; omega); clear tok3; have tok4 := True.intro) | (at_make; have _t := tok4; refine wpList_make_tab _ (by rfl) _ _ _ (by rfl) 5 i0 .u8 1 Tryd.underlying22 hi0 hz0 hz1 hz2 .i64 .i64 36 (by rfl) (by rfl) b3 b4 ?_; intro w5 hown5 hS5; have hr5 := row_of_own hown5; have k36 := (hS5.1 _ 36 hg4).trans h36; have k37 := (hS5.1 _ 37 hg4).trans h37; have kem := (hS5.1 _ 0 hlt4).trans hem; have hg5 := hS5.2.2.1 _ hg4; have hlt5 := hS5.2.2.1 _ hlt4; have hT5 := hT4.trans hS5; clear hown5 h36 h37 hem tok4) | (go_at_call 21; refine (al_putcount _ _ hr5).mono ?_; rintro e w6 ⟨g6, c6, rfl, h35, hS6⟩; have l36 := (hS6.1 _ 36 hg5).trans k36; have l37 := (hS6.1 _ 37 hg5).trans k37; have lem := (hS6.1 _ 0 hlt5).trans kem; have hT6 := hT5.trans hS6; clear k36 k37 kem))
  go_ret
  exact ⟨by first | rfl | simp, hT6⟩
end Go.Proofs.YtefalfdillnkfaaDoor
