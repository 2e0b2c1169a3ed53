/-
  Texts of this seat, put together: each with its own head.
-/
import Derived.Test.YteckkcpnfeoehaaGreatDoorMnAe

/-
  Layer 7: the packed bytes of flags and of steps as lists of numbers; that what is written is read, and that less of it is too short. No walk.
-/
namespace Go.Proofs.YteckkcpnfeoehaaGreatDoor
set_option maxRecDepth 100000
open Go.RowKit
set_option linter.unusedVariables false
set_option linter.unusedSimpArgs false

/-- A flag that is read is the one that was written, but for the bit of the row. -/
def AsFl (g f : Int) : Prop := g = f ∨ g = f + 8
/-- Steps that fit in two bytes. -/
def StepsOk (v : Int) : List Int → Prop
  | [] => True
  | x :: r => Sh (x - v) ∧ Sh x ∧ StepsOk x r
/-- Lists of flags that are as written, one for one. -/
def AsL (gs fs : List Int) : Prop := gs.length = fs.length ∧ ∀ j, j < fs.length → AsFl (gs.getD j 0) (fs.getD j 0)
theorem AsL.cons {g f : Int} {gs fs : List Int} (h : AsL (g :: gs) (f :: fs)) : AsFl g f ∧ AsL gs fs := by
  refine ⟨h.2 0 (by simp), by simpa using h.1, fun j hj => ?_⟩
  have := h.2 (j + 1) (by simpa using hj)
  simpa using this
end Go.Proofs.YteckkcpnfeoehaaGreatDoor

/-
  Layer 7: a whole glyph's bytes as lists of numbers: how many points each contour has, the points' numbers, the code; what any bytes read as. No walk.
-/
namespace Go.Proofs.YteckkcpnfeoehaaGreatDoor
set_option maxRecDepth 100000
open Go.RowKit
set_option linter.unusedVariables false
set_option linter.unusedSimpArgs false

theorem sum_take_le (ls : List Nat) (j : Nat) : (ls.take j).sum ≤ ls.sum := by
  have h := List.take_append_drop j ls
  have : ls.sum = (ls.take j).sum + (ls.drop j).sum := by rw [← List.sum_append_nat, h]
  omega
def StepsOkB (v : Int) : List Int → Bool
  | [] => true
  | x :: r => decide (Sh (x - v)) && (decide (Sh x) && StepsOkB x r)
theorem stepsOkB_iff : ∀ (l : List Int) (v : Int), StepsOkB v l = true ↔ StepsOk v l := by
  intro l
  induction l with
  | nil => intro v; simp [StepsOkB, StepsOk]
  | cons x r ih => intro v; simp [StepsOkB, StepsOk, ih x]
instance (v : Int) (l : List Int) : Decidable (StepsOk v l) := decidable_of_iff _ (stepsOkB_iff l v)
end Go.Proofs.YteckkcpnfeoehaaGreatDoor

/-
  Layer 7: the lists' steps as loops take them. No walk.
-/
namespace Go.Proofs.YteckkcpnfeoehaaGreatDoor
set_option maxRecDepth 100000
open Go.RowKit
set_option linter.unusedVariables false
set_option linter.unusedSimpArgs false

end Go.Proofs.YteckkcpnfeoehaaGreatDoor
