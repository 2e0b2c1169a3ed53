/-
  The document's sums of numbers of eight digits, walked.
-/
import Derived.Test.YtckochcocflleaaKit
import Derived.Test.YtckochcocflleaaRefM
import Derived.Deep.QuietTactic
import Derived.BigQuiet
namespace Go.Proofs.Ytckochcocflleaa
open Go.RowKit
set_option linter.unusedVariables false

/-- A row of eight numbers, known by its values. -/
theorem row8 (w : World) (b : Nat) (hb : b = w.heap.size) (t : TypeId) (f : Nat → Int) : Row (w.alloc (.cells #[.int .u32 (f 0), .int .u32 (f 1), .int .u32 (f 2), .int .u32 (f 3), .int .u32 (f 4), .int .u32 (f 5), .int .u32 (f 6), .int .u32 (f 7)] t)) b 8 (fun j => .int .u32 (f j)) := by
  subst hb
  refine Row.of_cells fun j hj => ?_
  have h : j = 0 ∨ j = 1 ∨ j = 2 ∨ j = 3 ∨ j = 4 ∨ j = 5 ∨ j = 6 ∨ j = 7 := by omega
  rcases h with rfl | rfl | rfl | rfl | rfl | rfl | rfl | rfl <;> rfl
/-- The digits below k are the sum's, the others nought. -/
def upTo (f : Nat → Int) (k j : Nat) : Int := if j < k then f j else 0
theorem upTo_lt {f : Nat → Int} {k j : Nat} (h : j < k) : upTo f k j = f j := by unfold upTo; rw [if_pos h]
theorem upTo_succ (f : Nat → Int) (k j : Nat) : (if j = k then f k else upTo f k j) = upTo f (k + 1) j := by
  unfold upTo
  by_cases h : j = k
  · subst h; simp
  · rw [if_neg h]
    by_cases h2 : j < k
    · rw [if_pos h2, if_pos (by omega)]
    · rw [if_neg h2, if_neg (by omega)]
theorem upTo_row {w : World} {b k : Nat} {f : Nat → Int} (h : Row w b 8 (fun j => .int .u32 (upTo f k j))) (v : Int) (e : v = f k) : Row (w.setCell ⟨b, k, none⟩ (.int .u32 v)) b 8 (fun j => .int .u32 (upTo f (k + 1) j)) := by
  refine (h.set k _).congr fun j hj => ?_
  rw [← upTo_succ, e]
  by_cases hx : j = k
  · simp [hx]
  · simp [hx]

theorem ref_add (a b : Int) (w : World) :
    Calls Try.prog 147 #[D a, D b] w fun e w' => e = .returned (D (a + b)) ∧ Since w w' := by
  go_enter Try.func147, Try.ntmps147
  go_wp2
  go_loopw [6, 7] (fun c i wr => ∃ k : Nat, k ≤ 8 ∧ i = .int .i64 k ∧ c = .int .u32 (car a b k) ∧ Since w wr ∧ Row wr w.heap.size 8 (fun j => .int .u32 (dg a j)) ∧ Row wr (w.heap.size + 1) 8 (fun j => .int .u32 (dg b j)) ∧ Row wr (w.heap.size + 1 + 1) 8 (fun j => .int .u32 0) ∧ Row wr (w.heap.size + 1 + 1 + 1) 8 (fun j => .int .u32 (upTo (dg (a + b)) k j))) (fun _ i _ => 8 - (intOf i).toNat)
  case atStart =>
    refine ⟨0, by omega, rfl, by rw [car_zero], by (repeat (first | with_reducible (exact Since.refl _) | with_reducible assumption | with_reducible (refine Since.drew ?_) | with_reducible (refine Since.drewN ?_ _) | with_reducible (refine Since.alloc ?_ _) | (with_reducible (refine Since.setCell ?_ ?_ _); rotate_left; focus (first | (simp; done) | (simp; omega) | omega)) | (with_reducible (refine Since.trans ?_ (by with_reducible assumption))))), ?_, ?_, ?_, ?_⟩
    · exact (((row8 w _ rfl _ (dg a)).alloc _).alloc _).alloc _
    · exact ((row8 _ _ (by simp) _ (dg b)).alloc _).alloc _
    · exact (row8 _ _ (by simp) _ (fun _ => 0)).alloc _
    · exact (row8 _ _ (by simp) _ (fun _ => 0)).congr fun j hj => by simp [upTo]
  case round =>
    obtain ⟨k, hk, rfl, rfl, hS, hA, hB, hC, hN⟩ := hrel
    obtain ⟨a1, a2⟩ := dg_bd a k; obtain ⟨b1, b2⟩ := dg_bd b k; obtain ⟨c1, c2⟩ := car_bd a b k
    obtain ⟨e1, e2⟩ := dg_add a b k
    have He1 := Lib.hid e1; have He2 := Lib.hid e2; clear e1 e2
    obtain ⟨hA1, hA2, hA3⟩ := id hA; obtain ⟨hB1, hB2, hB3⟩ := id hB; obtain ⟨hC1, hC2, hC3⟩ := id hC; obtain ⟨hN1, hN2, hN3⟩ := id hN
    by_cases hlt : k < 8
    · go_wp2
      go_quiet (fail)
      go_wp2
      refine ⟨⟨k + 1, by omega, by go_num, by rw [He2.out], by (repeat (first | with_reducible (exact Since.refl _) | with_reducible assumption | with_reducible (refine Since.drew ?_) | with_reducible (refine Since.drewN ?_ _) | with_reducible (refine Since.alloc ?_ _) | (with_reducible (refine Since.setCell ?_ ?_ _); rotate_left; focus (first | (simp; done) | (simp; omega) | omega)) | (with_reducible (refine Since.trans ?_ (by with_reducible assumption))))), by (repeat (first | with_reducible assumption | with_reducible (refine Row.drewN ?_ _) | with_reducible (refine Row.drew ?_) | with_reducible (refine Row.alloc ?_ _) | (with_reducible (refine Row.far ?_ ?_ _ _); rotate_left; focus (first | (simp; done) | (simp; omega) | omega)) | with_reducible (refine Row.since ?_ (by with_reducible assumption)))), by (repeat (first | with_reducible assumption | with_reducible (refine Row.drewN ?_ _) | with_reducible (refine Row.drew ?_) | with_reducible (refine Row.alloc ?_ _) | (with_reducible (refine Row.far ?_ ?_ _ _); rotate_left; focus (first | (simp; done) | (simp; omega) | omega)) | with_reducible (refine Row.since ?_ (by with_reducible assumption)))), by (repeat (first | with_reducible assumption | with_reducible (refine Row.drewN ?_ _) | with_reducible (refine Row.drew ?_) | with_reducible (refine Row.alloc ?_ _) | (with_reducible (refine Row.far ?_ ?_ _ _); rotate_left; focus (first | (simp; done) | (simp; omega) | omega)) | with_reducible (refine Row.since ?_ (by with_reducible assumption)))), ?_⟩, by simp [intOf]; omega⟩
      exact upTo_row (hN.drewN _) _ He1.out.symm
    · obtain rfl : k = 8 := by omega
      have hu := fun j (hj : j < 8) => upTo_lt (f := dg (a + b)) hj
      go_wp2
      refine bodyPost_ret (by simp only [results, Try.results147]; go_simp) rfl ⟨rfl, ?_⟩
      (repeat (first | with_reducible (exact Since.refl _) | with_reducible assumption | with_reducible (refine Since.drew ?_) | with_reducible (refine Since.drewN ?_ _) | with_reducible (refine Since.alloc ?_ _) | (with_reducible (refine Since.setCell ?_ ?_ _); rotate_left; focus (first | (simp; done) | (simp; omega) | omega)) | (with_reducible (refine Since.trans ?_ (by with_reducible assumption)))))
end Go.Proofs.Ytckochcocflleaa
