/-
  All blocks but one stand.
-/
import Derived.Test.YtcfghkphkmoikaaGreatKit
namespace Go.Proofs.YtcfghkphkmoikaaGreat
set_option maxRecDepth 100000
open Go.RowKit Go.ChangeShapes Go.WideShapes
set_option linter.unusedVariables false

/-- All blocks but one are as they were. -/
def KeepBut (q : Nat) (w w' : World) : Prop := w.heap.size ≤ w'.heap.size ∧ ∀ b, b < w.heap.size → b ≠ q → w'.heap[b]? = w.heap[b]?
theorem KeepBut.refl (q : Nat) (w : World) : KeepBut q w w := ⟨Nat.le_refl _, fun _ _ _ => rfl⟩
theorem KeepBut.trans {q : Nat} {a b c : World} (h : KeepBut q a b) (k : KeepBut q b c) : KeepBut q a c := ⟨Nat.le_trans h.1 k.1, fun x hx hq => (k.2 x (Nat.lt_of_lt_of_le hx h.1) hq).trans (h.2 x hx hq)⟩
theorem KeepBut.since {q : Nat} {a b c : World} (h : KeepBut q a b) (k : Since b c) : KeepBut q a c := ⟨Nat.le_trans h.1 k.below.size, fun x hx hq => (k.below.block x (Nat.lt_of_lt_of_le hx h.1)).trans (h.2 x hx hq)⟩
theorem KeepBut.set {q : Nat} {a b : World} (h : KeepBut q a b) (o : Nat) (v : Value) : KeepBut q a (b.setCell ⟨q, o, none⟩ v) := ⟨by simpa [World.setCell] using h.1, fun x hx hq => by
  rw [← h.2 x hx hq]
  simp [World.setCell, Array.getElem?_modify, show ¬ q = x from fun e => hq e.symm]⟩
theorem KeepBut.cell {q : Nat} {a b : World} (h : KeepBut q a b) {x o : Nat} {v : Value} (hc : a.cell? ⟨x, o, none⟩ = some v) (hx : x < a.heap.size) (hq : x ≠ q) : b.cell? ⟨x, o, none⟩ = some v := by
  rw [← hc]; simp only [World.cell?, h.2 x hx hq]
end Go.Proofs.YtcfghkphkmoikaaGreat
