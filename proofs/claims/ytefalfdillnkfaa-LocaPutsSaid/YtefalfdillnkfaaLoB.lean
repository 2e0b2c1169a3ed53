/-
  Layer 6: 'ascending', 'layout', 'Read' of the program, walked.
-/
import Derived.Test.YtefalfdillnkfaaLoA
import Derived.Shelf.Abstract
namespace Go.Proofs.Ytefalfdillnkfaa
open Go.RowKit
set_option linter.unusedVariables false

def ascB (f : Nat → Int) (i : Nat) : Bool := decide (i = 0 ∨ f (i - 1) ≤ f i)
theorem asc_zero (f : Nat → Int) : ascB f 0 = true := by simp [ascB]
theorem asc_next (f : Nat → Int) (i : Nat) : ascB f (i + 1) = decide (f i ≤ f (i + 1)) := by simp [ascB]
set_option maxHeartbeats 4000000 in
theorem lo_asc1 (i : Nat) (q : Nat) (A : Option Addr) (n c : Nat) (f : Nat → Int) (w : World) (hi : i < n) (hn : n ≤ maxLen) (hq : w.cell? ⟨q, 0, none⟩ = some (.slice A n c)) (h : Rd w w.heap.size A n (I64 f)) :
    Calls Try.prog 38 #[.int .i64 i, .pointer (some ⟨q, 0, none⟩)] w fun e w' => e = .returned (.bool (ascB f i)) ∧ Since w w' := by
  have hn' : (n : Int) ≤ 9223372036854775807 := by simp only [maxLen] at hn; omega
  obtain ⟨b, o, rfl, hb, hc⟩ := h (by omega)
  rcases i with _ | i
  · rw [asc_zero]
    clear hc h
    go_enter Try.func38, Try.ntmps38
    go_wp2_with fail
    go_quiet (fail)
    go_wp2
    go_ret
    exact ⟨rfl, by (repeat (first | with_reducible (exact Since.refl _) | with_reducible assumption | with_reducible (refine Since.drew ?_) | with_reducible (refine Since.drewN ?_ _) | with_reducible (refine Since.alloc ?_ _) | (with_reducible (refine Since.setCell ?_ ?_ _); rotate_left; focus (first | (simp; done) | (simp; omega) | omega)) | (with_reducible (refine Since.trans ?_ (by with_reducible assumption)))))⟩
  · rw [asc_next]
    have c0 : w.cell? ⟨b, o + i, none⟩ = some (.int .i64 (f i)) := hc i (by omega)
    have c1 : w.cell? ⟨b, o + (i + 1), none⟩ = some (.int .i64 (f (i + 1))) := hc (i + 1) hi
    generalize f i = x at *
    generalize f (i + 1) = y at *
    obtain ⟨k, hk⟩ : ∃ k, i + 1 = k := ⟨_, rfl⟩
    rw [hk] at c1 hi ⊢
    have e0 : ((k : Int) == 0) = false := by simp; omega
    have e1 : decide ((k : Int) = 0) = false := by simp; omega
    have e2 : IntKind.i64.wrap ((k : Int) - 1) = (i : Int) := by rw [IntWalk.i64_in _ (by omega)]; omega
    have i0 : (i : Int) < n := by omega
    have i1 : (k : Int) < n := by omega
    have i2 : (0 : Int) ≤ i := by omega
    have i3 : (0 : Int) ≤ k := by omega
    have i4 : ¬ k = 0 := by omega
    clear hc h hk
    go_enter Try.func38, Try.ntmps38
    go_wp2_with fail
    go_quiet (fail)
    go_wp2
    go_ret
    exact ⟨rfl, by (repeat (first | with_reducible (exact Since.refl _) | with_reducible assumption | with_reducible (refine Since.drew ?_) | with_reducible (refine Since.drewN ?_ _) | with_reducible (refine Since.alloc ?_ _) | (with_reducible (refine Since.setCell ?_ ?_ _); rotate_left; focus (first | (simp; done) | (simp; omega) | omega)) | (with_reducible (refine Since.trans ?_ (by with_reducible assumption)))))⟩

theorem enters38 : ∀ args w, (callFunc 38 args).run Try.prog w = .ok (.enter 38 args) w := enters_of Try.func38 (by kernel_rfl) rfl
theorem cell_box (w : World) (v : Value) (t : TypeId) : (w.alloc (.cells #[v] t)).cell? ⟨w.heap.size, 0, none⟩ = some v := by rw [World.cell?_alloc_new]; rfl
set_option maxHeartbeats 4000000 in
theorem lo_asc (A : Option Addr) (n c : Nat) (f : Nat → Int) (w : World) (hn : n ≤ maxLen) (h : Rd w w.heap.size A n (I64 f)) :
    Calls Try.prog 26 #[.slice A n c] w fun e w' => e = .returned (.bool (allB (ascB f) n)) ∧ Since w w' := by
  have hmf : ∀ (fn : Fn) (first cap : Array Value) (w : World), (Instr.makeFunc fn first cap).run Try.prog w = .ok (.func fn first cap) w := fun _ _ _ _ => rfl
  have hA := fun (t : TypeId) => lo_all 38 #[.pointer (some ⟨w.heap.size, 0, none⟩)] n (ascB f) (w.alloc (.cells #[.slice A n c] t)) hn enters38 (fun i w1 hi hS => lo_asc1 i w.heap.size A n c f w1 hi hn ((hS.1 _ _ (by simp)).trans (cell_box w _ t)) (((h.alloc (Nat.le_refl _) _).more (by simp)).on hS))
  have H := Lib.hid hA
  clear hA h
  go_enter Try.func26, Try.ntmps26
  go_wp2_with (go_at_call 33; refine (Calls.mono (H.out _) ?_); rintro e w1 ⟨rfl, hS1⟩)
  go_ret
  exact ⟨rfl, by (repeat (first | with_reducible (exact Since.refl _) | with_reducible assumption | with_reducible (refine Since.drew ?_) | with_reducible (refine Since.drewN ?_ _) | with_reducible (refine Since.alloc ?_ _) | (with_reducible (refine Since.setCell ?_ ?_ _); rotate_left; focus (first | (simp; done) | (simp; omega) | omega)) | (with_reducible (refine Since.trans ?_ (by with_reducible assumption)))))⟩
end Go.Proofs.Ytefalfdillnkfaa
