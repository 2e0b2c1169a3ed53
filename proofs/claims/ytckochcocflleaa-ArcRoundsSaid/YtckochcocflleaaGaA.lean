/-
  Layer 10: points, slices of points; 'Good', walked.
-/
import Derived.Test.YtckochcocflleaaKit2
import Derived.Test.YtckochcocflleaaFlt
namespace Go.Proofs.Ytckochcocflleaa
open Go.RowKit
set_option linter.unusedVariables false

def Pt (x y : Int) : Value := .agg #[.int .i64 x, .int .i64 y]
/-- A slice's n points, in a block below B (nil and empty let in). -/
def RdP (w : World) (B : Nat) (A : Option Addr) (n : Nat) (X Y : Nat → Int) : Prop :=
  0 < n → ∃ b o, A = some ⟨b, o, none⟩ ∧ b < B ∧ ∀ j, j < n → w.cell? ⟨b, o + j * 2, none⟩ = some (.int .i64 (X j)) ∧ w.cell? ⟨b, o + j * 2 + 1, none⟩ = some (.int .i64 (Y j))
section
variable {w w' : World} {B B' n : Nat} {A : Option Addr} {X Y : Nat → Int}
theorem RdP.zero : RdP w B A 0 X Y := fun h => absurd h (by omega)
theorem RdP.keep (h : RdP w B A n X Y) (hk : ∀ b o, b < B → w'.cell? ⟨b, o, none⟩ = w.cell? ⟨b, o, none⟩) : RdP w' B A n X Y := fun hn => by
  obtain ⟨b, o, rfl, hb, hc⟩ := h hn
  exact ⟨b, o, rfl, hb, fun j hj => ⟨(hk _ _ hb).trans (hc j hj).1, (hk _ _ hb).trans (hc j hj).2⟩⟩
theorem RdP.more (h : RdP w B A n X Y) (hB : B ≤ B') : RdP w B' A n X Y := fun hn => by
  obtain ⟨b, o, rfl, hb, hc⟩ := h hn
  exact ⟨b, o, rfl, by omega, hc⟩
theorem RdP.on (h : RdP w w.heap.size A n X Y) (k : Since w w') : RdP w' w'.heap.size A n X Y := (h.keep fun b o hb => k.1 b o hb).more k.below.size
end
def goodB (x y : Int) : Bool := decide (-4194304 ≤ x ∧ x ≤ 4194304 ∧ -4194304 ≤ y ∧ y ≤ 4194304)
theorem goodB_iff {x y : Int} : goodB x y = true ↔ (-4194304 ≤ x ∧ x ≤ 4194304 ∧ -4194304 ≤ y ∧ y ≤ 4194304) := by unfold goodB; simp
def allG (X Y : Nat → Int) : Nat → Bool
  | 0 => true
  | n + 1 => allG X Y n && goodB (X n) (Y n)
theorem allG_iff {X Y : Nat → Int} {n : Nat} : allG X Y n = true ↔ ∀ j, j < n → goodB (X j) (Y j) = true := by
  induction n with
  | zero => simp [allG]
  | succ n ih =>
    simp only [allG, Bool.and_eq_true, ih]
    constructor
    · rintro ⟨h1, h2⟩ j hj
      by_cases e : j = n
      · subst e; exact h2
      · exact h1 j (by omega)
    · exact fun h => ⟨fun j hj => h j (by omega), h n (by omega)⟩
theorem allG_no {X Y : Nat → Int} {n j : Nat} (hj : j < n) (h : goodB (X j) (Y j) = false) : allG X Y n = false := by
  cases hh : allG X Y n with
  | false => rfl
  | true => rw [allG_iff.1 hh j hj] at h; cases h

set_option maxHeartbeats 4000000 in
theorem ga_good (A : Option Addr) (n c : Nat) (X Y : Nat → Int) (w : World) (h : RdP w w.heap.size A n X Y) (hX : ∀ j, j < n → In64 (X j) ∧ In64 (Y j)) (hn : n ≤ maxLen) :
    Calls Try.prog 59 #[.slice A n c] w fun e w' => e = .returned (.bool (allG X Y n)) ∧ Since w w' := by
  have hn' : (n : Int) ≤ 9223372036854775807 := by simp only [maxLen] at hn; omega
  go_enter Try.func59, Try.ntmps59
  go_wp2
  go_loopw [7] (fun y wr => ∃ j : Nat, j ≤ n ∧ y = .int .i64 (j : Int) ∧ Hid (allG X Y j = true) ∧ Since w wr) (fun y _ => n - (intOf y).toNat)
  case atStart => exact ⟨0, by omega, rfl, Lib.hid rfl, Since.refl _⟩
  case round =>
    obtain ⟨j, hj, rfl, HG, hSr⟩ := hrel
    by_cases hjn : j < n
    · have hjn' : (j : Int) < n := by omega
      obtain ⟨b, o, rfl, hb, hc⟩ := h (by omega)
      have c1 : wr.cell? ⟨b, o + j * 2, none⟩ = some (.int .i64 (X j)) := (hSr.1 _ _ hb).trans (hc j hjn).1
      have c2 : wr.cell? ⟨b, o + j * 2 + 1, none⟩ = some (.int .i64 (Y j)) := (hSr.1 _ _ hb).trans (hc j hjn).2
      have hx := hX j hjn
      have hblt : b < wr.heap.size := by have := hSr.below.size; omega
      clear hc h hX
      go_wp2
      all_goals first
        | (go_ret
           refine ⟨?_, by (repeat (first | with_reducible (exact Since.refl _) | with_reducible assumption | with_reducible (refine Since.drew ?_) | with_reducible (refine Since.drewN ?_ _) | with_reducible (refine Since.alloc ?_ _) | (with_reducible (refine Since.setCell ?_ ?_ _); rotate_left; focus (first | (simp; done) | (simp; omega) | omega)) | (with_reducible (refine Since.trans ?_ (by with_reducible assumption)))))⟩
           rw [allG_no (n := n) hjn (by unfold goodB; rw [decide_eq_false_iff_not]; intro hh; simp_all; try omega)]
           rfl)
        | (refine ⟨⟨j + 1, by omega, by simp, Lib.hid (by
             have hg : goodB (X j) (Y j) = true := goodB_iff.2 (by simp_all; try omega)
             simp only [allG, HG.out, hg, Bool.and_self]), by (repeat (first | with_reducible (exact Since.refl _) | with_reducible assumption | with_reducible (refine Since.drew ?_) | with_reducible (refine Since.drewN ?_ _) | with_reducible (refine Since.alloc ?_ _) | (with_reducible (refine Since.setCell ?_ ?_ _); rotate_left; focus (first | (simp; done) | (simp; omega) | omega)) | (with_reducible (refine Since.trans ?_ (by with_reducible assumption)))))⟩, by simp [intOf]; omega⟩)
        | trace_state
    · obtain rfl : j = n := by omega
      clear h hX
      go_wp2
      go_ret
      exact ⟨by rw [HG.out]; rfl, hSr⟩
end Go.Proofs.Ytckochcocflleaa
