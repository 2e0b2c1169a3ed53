/-
  Texts of this seat, put together: each with its own head.
-/
import Derived.Test.YteckkcpnfeoehaaGreatDoorMpD
import Derived.Test.YteckkcpnfeoehaaGreatDoorMnAg

/-
  Layer 7: readKnots, walked.
-/
namespace Go.Proofs.YteckkcpnfeoehaaGreatDoor
set_option maxRecDepth 100000
open Go.RowKit Go.ChangeShapes Go.WideShapes Go.Deep
set_option linter.unusedVariables false
set_option linter.unusedSimpArgs false

theorem OwnG.row {α : Type} {t : TypeId} {k : Nat} {enc : α → List Value} {w : World} {base g n c : Nat} {L : List α} (hk0 : 0 < k) (hk : ∀ a, (enc a).length = k) (h : OwnG t k enc w base (.slice (some ⟨g, 0, none⟩) n c) L) : Row w g (L.length * k) (fun j => (cellsG enc L).getD j undef) := by
  have hn : n = L.length := by
    rcases h.2 with ⟨h0, _⟩ | ⟨g', cap, cur, h0, _⟩
    · cases h0
    · injection h0
  subst hn
  unfold OwnG at h
  rw [cellsG_tab hk] at h
  exact row_of_own_k hk0 h
end Go.Proofs.YteckkcpnfeoehaaGreatDoor

/-
  Layer 7: Read, walked.
-/
namespace Go.Proofs.YteckkcpnfeoehaaGreatDoor
set_option maxRecDepth 100000
open Go.RowKit Go.ChangeShapes Go.WideShapes Go.Deep
set_option linter.unusedVariables false
set_option linter.unusedSimpArgs false

/-- A block of two cells. -/
def Two (w : World) (b : Nat) (u v : Value) : Prop := w.cell? ⟨b, 0, none⟩ = some u ∧ w.cell? ⟨b, 1, none⟩ = some v ∧ w.frozen? ⟨b, 0, none⟩ = false ∧ w.frozen? ⟨b, 1, none⟩ = false ∧ b < w.heap.size
theorem Two.since {w w' : World} {b : Nat} {u v : Value} (h : Two w b u v) (k : Since w w') : Two w' b u v :=
  ⟨(k.1 _ _ h.2.2.2.2).trans h.1, (k.1 _ _ h.2.2.2.2).trans h.2.1, (k.2.1 _ _ h.2.2.2.2).trans h.2.2.1, (k.2.1 _ _ h.2.2.2.2).trans h.2.2.2.1, k.2.2.1 _ h.2.2.2.2⟩
theorem two_new (w : World) (b : Nat) (hb : b = w.heap.size) (u v : Value) (t : TypeId) : Two (w.alloc (.cells #[u, v] t)) b u v := by
  subst hb
  have h : Row (w.alloc (.cells #[u, v] t)) w.heap.size 2 (fun j => if j = 0 then u else v) := Row.of_cells fun j hj => by
    have h : j = 0 ∨ j = 1 := by omega
    rcases h with rfl | rfl <;> rfl
  exact ⟨h.1 0 (by omega), h.1 1 (by omega), h.2.1 0, h.2.1 1, h.2.2⟩
theorem Row.but {w w' : World} {q b n : Nat} {F : Nat → Value} (h : Row w b n F) (k : KeepBut q w w') (hb : b ≠ q) : Row w' b n F := by
  have e := k.2 b h.2.2 hb
  refine ⟨fun j hj => ?_, fun j => ?_, Nat.lt_of_lt_of_le h.2.2 k.1⟩
  · rw [← h.1 j hj]; simp only [World.cell?, e]
  · rw [← h.2.1 j]; simp only [World.frozen?, e]
theorem Nw.but {w w' : World} {q B n : Nat} {A : Option Addr} {V : Nat → Value} (h : Nw w B A n V) (k : KeepBut q w w') (hq : q < B) : Nw w' B A n V := fun hn => by
  obtain ⟨g, rfl, hg, hr⟩ := h hn
  exact ⟨g, rfl, hg, hr.but k (by omega)⟩
end Go.Proofs.YteckkcpnfeoehaaGreatDoor
