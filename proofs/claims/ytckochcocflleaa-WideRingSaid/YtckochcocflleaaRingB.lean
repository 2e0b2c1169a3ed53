/-
  The law WideRing of layer 1: rows of a number's two words.
-/
import Derived.Test.YtckochcocflleaaAlive
import Derived.Deep.DeepCutAuto
import Derived.Deep.RegionHeld3
namespace Go.Proofs.Ytckochcocflleaa
open Go.RowKit
set_option linter.unusedVariables false

/-- The cells of a number of two words. -/
def Wf (n : Int) (j : Nat) : Value := if j = 0 then .int .i64 (hiW n) else .int .u64 (loW n)
def Zf (j : Nat) : Value := if j = 0 then .int .i64 0 else .int .u64 0
theorem wrow (w : World) (b : Nat) (hb : b = w.heap.size) (t : TypeId) (n : Int) : Row (w.alloc (.cells #[.int .i64 (hiW n), .int .u64 (loW n)] t)) b 2 (Wf n) := by
  subst hb
  refine Row.of_cells fun j hj => ?_
  have h : j = 0 ∨ j = 1 := by omega
  rcases h with rfl | rfl <;> rfl
theorem wput {w : World} {b : Nat} (h : Row w b 2 Zf) (n : Int) : Row ((w.setCell ⟨b, 0, none⟩ (.int .i64 (hiW n))).setCell ⟨b, 1, none⟩ (.int .u64 (loW n))) b 2 (Wf n) := by
  refine ((h.set 0 _).set 1 _).congr fun j hj => ?_
  have hh : j = 0 ∨ j = 1 := by omega
  rcases hh with rfl | rfl <;> rfl
theorem wzero (w : World) (b : Nat) (hb : b = w.heap.size) (t : TypeId) : Row (w.alloc (.cells #[.int .i64 0, .int .u64 0] t)) b 2 Zf := by
  subst hb
  refine Row.of_cells fun j hj => ?_
  have h : j = 0 ∨ j = 1 := by omega
  rcases h with rfl | rfl <;> rfl
/-- What the walk reads of such cells. -/
theorem wcells {w : World} {b : Nat} {n : Int} (h : Row w b 2 (Wf n)) : w.cell? ⟨b, 0, none⟩ = some (.int .i64 (hiW n)) ∧ w.cell? ⟨b, 1, none⟩ = some (.int .u64 (loW n)) ∧ b < w.heap.size := ⟨h.1 0 (by omega), h.1 1 (by omega), h.2.2⟩
end Go.Proofs.Ytckochcocflleaa
