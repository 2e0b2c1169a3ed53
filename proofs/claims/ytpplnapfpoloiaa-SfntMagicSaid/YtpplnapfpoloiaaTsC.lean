/-
  Layer 3: the laws TabsumPads and TabsumTurns, walked.
-/
import Derived.Test.YtpplnapfpoloiaaTsB
import Derived.Test.YtpplnapfpoloiaaKit7
import Derived.StillTailTactics
namespace Go.Proofs.Ytpplnapfpoloiaa
open Go.RowKit
set_option linter.unusedVariables false

def catG (n : Nat) (f o : Nat → Int) (j : Nat) : Int := if j < n then f j else o (j - n)
theorem own_catG {w : World} {B g cap n m : Nat} {f o : Nat → Int} (h : w.ownsRow B 5 1 (.slice (some ⟨g, 0, none⟩) (n + m) cap) (n + m) (tab n (U8 f) ++ tab m (U8 o))) : Own w B g cap (n + m) (catG n f o) := by
  rw [tab_append] at h
  have e : (fun j => if j < n then U8 f j else U8 o (j - n)) = U8 (catG n f o) := by
    funext j
    simp only [U8, IntRow, catG]
    split <;> rfl
  rw [e] at h
  exact h
theorem catG_range {n m : Nat} {f o : Nat → Int} (hf : ∀ j, j < n → 0 ≤ f j ∧ f j ≤ 255) (ho : ∀ j, j < m → 0 ≤ o j ∧ o j ≤ 255) : ∀ j, j < n + m → 0 ≤ catG n f o j ∧ catG n f o j ≤ 255 := fun j hj => by
  unfold catG
  split
  · exact hf j (by assumption)
  · exact ho _ (by omega)

def setG (i : Nat) (v : Int) (f : Nat → Int) (j : Nat) : Int := if j = i then v else f j
end Go.Proofs.Ytpplnapfpoloiaa
