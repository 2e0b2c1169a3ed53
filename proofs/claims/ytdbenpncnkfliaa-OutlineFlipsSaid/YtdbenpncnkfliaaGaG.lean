/-
  Layer 10: the reference's 'Turn', 'Quarter', 'All', 'Same', walked.
-/
import Derived.Test.YtdbenpncnkfliaaGaF
namespace Go.Proofs.Ytdbenpncnkfliaa
open Go.RowKit
set_option linter.unusedVariables false

def Tiny (x : Int) : Prop := -4194304 ≤ x ∧ x ≤ 4194304
theorem Tiny.near {x : Int} (h : Tiny x) : Near x := by unfold Tiny at h; unfold Near; omega
theorem Tiny.sub {x y : Int} (h : Tiny x) (k : Tiny y) : Near (x - y) := by unfold Tiny at *; unfold Near; omega
theorem tiny_of {x y : Int} (h : goodB x y = true) : Tiny x ∧ Tiny y := by have := goodB_iff.1 h; unfold Tiny; omega
theorem cross_in64 {x y u v : Int} (h1 : Near x) (h2 : Near y) (h3 : Near u) (h4 : Near v) : In64 (crossI x y u v) := by
  have b1 := near_mul h1 h4; have b2 := near_mul h2 h3
  unfold crossI In64
  omega

/-- A block holds a point, and may be written. -/
def PtW (w : World) (b : Nat) (x y : Int) : Prop := PtAt w b x y ∧ ∀ j, w.frozen? ⟨b, j, none⟩ = false
theorem ptw_new (w : World) (b : Nat) (hb : b = w.heap.size) (x y : Int) (t : TypeId) : PtW (w.alloc (.cells #[.int .i64 x, .int .i64 y] t)) b x y := by
  refine ⟨pt_new w b hb x y t, fun j => ?_⟩
  subst hb
  rw [frozen?_alloc_cells]
  simp [World.frozen?]
theorem PtW.since {w w' : World} {b : Nat} {x y : Int} (h : PtW w b x y) (k : Since w w') : PtW w' b x y := ⟨h.1.since k, fun j => (k.2.1 _ _ h.1.2.2).trans (h.2 j)⟩
theorem PtW.alloc {w : World} {b : Nat} {x y : Int} (h : PtW w b x y) (o : Obj) : PtW (w.alloc o) b x y := h.since ((Since.refl w).alloc o)
theorem PtW.put {w : World} {b : Nat} {x y : Int} (h : PtW w b x y) (u v : Int) : PtW ((w.setCell ⟨b, 0, none⟩ (.int .i64 u)).setCell ⟨b, 1, none⟩ (.int .i64 v)) b u v := by
  obtain ⟨⟨h1, h2, h3⟩, h4⟩ := h
  refine ⟨⟨?_, ?_, by simpa [World.setCell] using h3⟩, fun j => by rw [World.frozen?_setCell, World.frozen?_setCell]; exact h4 j⟩
  · rw [cell_set, if_neg (by omega), cell_set, if_pos ⟨rfl, rfl⟩, h1]; rfl
  · rw [cell_set, if_pos ⟨rfl, rfl⟩, cell_set, if_neg (by omega), h2]; rfl
theorem PtW.far {w : World} {b b' : Nat} {x y : Int} (h : PtW w b x y) (hb : b' ≠ b) (o : Nat) (v : Value) : PtW (w.setCell ⟨b', o, none⟩ v) b x y := by
  obtain ⟨⟨h1, h2, h3⟩, h4⟩ := h
  exact ⟨⟨by rw [cell_set, if_neg (fun e => hb e.1)]; exact h1, by rw [cell_set, if_neg (fun e => hb e.1)]; exact h2, by simpa [World.setCell] using h3⟩, fun j => by rw [World.frozen?_setCell]; exact h4 j⟩
theorem go_mod4 (n : Int) : (n.tmod 4 + 4).tmod 4 = n % 4 := by
  rcases Int.lt_or_le n 0 with h | h
  · have h1 : n.tmod 4 = -((-n) % 4) := by
      rw [← Int.tmod_eq_emod_of_nonneg (by omega : 0 ≤ -n), Int.neg_tmod]; omega
    rw [h1, Int.tmod_eq_emod_of_nonneg (by omega)]
    omega
  · rw [Int.tmod_eq_emod_of_nonneg h, Int.tmod_eq_emod_of_nonneg (by omega)]
    omega
end Go.Proofs.Ytdbenpncnkfliaa
