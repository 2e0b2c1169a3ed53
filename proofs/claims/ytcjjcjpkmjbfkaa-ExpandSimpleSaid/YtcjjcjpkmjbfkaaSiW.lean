/-
  Layer 7: 'alive' holds.
-/
import Derived.Test.YtcjjcjpkmjbfkaaMhJ
import Derived.Deep.CutBlock
import Derived.Deep.DeepCutAuto
namespace Go.Proofs.Ytcjjcjpkmjbfkaa
open Go.RowKit Go.ChangeShapes Go.WideShapes Go.Deep
set_option linter.unusedVariables false
set_option linter.unusedSimpArgs false
attribute [local go_sem] eq_pt7
@[go_sem] theorem fd7_0 (a b : Value) (w : World) : (Instr.field 51 (.agg #[a, b]) 0).run Try.prog w = .ok a w := by kernel_rfl
@[go_sem] theorem fd7_1 (a b : Value) (w : World) : (Instr.field 51 (.agg #[a, b]) 1).run Try.prog w = .ok b w := by kernel_rfl
theorem al_same7 (A A' : Option Addr) (c c' : Nat) (w : World) (h : RdOL w w.heap.size A trK) (h' : RdOL w w.heap.size A' trK) :
    Calls Try.prog 12 #[.slice A 1 c, .slice A' 1 c'] w fun e w' => e = .returned (.bool true) ∧ Since w w' :=
  rf_sameL A A' c c' trK w h h' (by simp [trK, maxLen]) (by simp [trK, maxLen])
theorem held_since {A : Option Addr} {c : Nat} {w0 w1 : World} (h : (∀ b o, b < w0.heap.size → w1.cell? ⟨b, o, none⟩ = w0.cell? ⟨b, o, none⟩) ∧ Since w0 w1 ∧ (convert 25 9 (.slice A 21 c)).run Try.prog w1 = .ok (.string (strOfNums [0, 1, 0, 0, 0, 0, 0, 100, 1, 44, 0, 2, 0, 0, 49, 51, 3, 100, 100, 1, 44])) w1) : Since w0 w1 := h.2.1
end Go.Proofs.Ytcjjcjpkmjbfkaa
