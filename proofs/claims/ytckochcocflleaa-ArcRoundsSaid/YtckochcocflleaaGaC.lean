/-
  Layer 10: 'Cross', 'Dot', 'Times', walked.
-/
import Derived.Test.YtckochcocflleaaGaB
namespace Go.Proofs.Ytckochcocflleaa
open Go.RowKit
set_option linter.unusedVariables false

def two (a b : Int) (j : Nat) : Int := if j = 0 then a else b
def three (a b c : Int) (j : Nat) : Int := if j = 0 then a else if j = 1 then b else c
theorem rdp_one (w : World) (b : Nat) (hb : b = w.heap.size) (x y : Int) (t : TypeId) : RdP (w.alloc (.cells #[.int .i64 x, .int .i64 y] t)) (w.alloc (.cells #[.int .i64 x, .int .i64 y] t)).heap.size (some ⟨b, 0, none⟩) 1 (fun _ => x) (fun _ => y) := fun _ => by
  subst hb
  refine ⟨w.heap.size, 0, rfl, by simp, fun j hj => ?_⟩
  obtain rfl : j = 0 := by omega
  exact ⟨by rw [World.cell?_alloc_new]; rfl, by rw [World.cell?_alloc_new]; rfl⟩
theorem rdp_two (w : World) (b : Nat) (hb : b = w.heap.size) (x y u v : Int) (t : TypeId) : RdP (w.alloc (.cells #[.int .i64 x, .int .i64 y, .int .i64 u, .int .i64 v] t)) (w.alloc (.cells #[.int .i64 x, .int .i64 y, .int .i64 u, .int .i64 v] t)).heap.size (some ⟨b, 0, none⟩) 2 (two x u) (two y v) := fun _ => by
  subst hb
  refine ⟨w.heap.size, 0, rfl, by simp, fun j hj => ?_⟩
  have h : j = 0 ∨ j = 1 := by omega
  rcases h with rfl | rfl <;> exact ⟨by rw [World.cell?_alloc_new]; rfl, by rw [World.cell?_alloc_new]; rfl⟩
theorem rdp_three (w : World) (b : Nat) (hb : b = w.heap.size) (x y u v p q : Int) (t : TypeId) : RdP (w.alloc (.cells #[.int .i64 x, .int .i64 y, .int .i64 u, .int .i64 v, .int .i64 p, .int .i64 q] t)) (w.alloc (.cells #[.int .i64 x, .int .i64 y, .int .i64 u, .int .i64 v, .int .i64 p, .int .i64 q] t)).heap.size (some ⟨b, 0, none⟩) 3 (three x u p) (three y v q) := fun _ => by
  subst hb
  refine ⟨w.heap.size, 0, rfl, by simp, fun j hj => ?_⟩
  have h : j = 0 ∨ j = 1 ∨ j = 2 := by omega
  rcases h with rfl | rfl | rfl <;> exact ⟨by rw [World.cell?_alloc_new]; rfl, by rw [World.cell?_alloc_new]; rfl⟩
def InP (x y : Int) : Prop := In64 x ∧ In64 y
theorem good1 (w : World) (b : Nat) (hb : b = w.heap.size) (x y : Int) (t : TypeId) (h : InP x y) : Calls Try.prog 59 #[.slice (some ⟨b, 0, none⟩) 1 1] (w.alloc (.cells #[.int .i64 x, .int .i64 y] t)) fun e w' => e = .returned (.bool (goodB x y)) ∧ Since (w.alloc (.cells #[.int .i64 x, .int .i64 y] t)) w' := by
  have h := ga_good _ 1 1 _ _ _ (rdp_one w b hb x y t) (fun j hj => h) (by decide)
  simpa [allG] using h
theorem good2 (w : World) (b : Nat) (hb : b = w.heap.size) (x y u v : Int) (t : TypeId) (h : InP x y) (h' : InP u v) : Calls Try.prog 59 #[.slice (some ⟨b, 0, none⟩) 2 2] (w.alloc (.cells #[.int .i64 x, .int .i64 y, .int .i64 u, .int .i64 v] t)) fun e w' => e = .returned (.bool (goodB x y && goodB u v)) ∧ Since (w.alloc (.cells #[.int .i64 x, .int .i64 y, .int .i64 u, .int .i64 v] t)) w' := by
  have h := ga_good _ 2 2 _ _ _ (rdp_two w b hb x y u v t) (fun j hj => by unfold two; split; exact h; exact h') (by decide)
  simpa [allG, two] using h
theorem good3 (w : World) (b : Nat) (hb : b = w.heap.size) (x y u v p q : Int) (t : TypeId) (h : InP x y) (h' : InP u v) (h'' : InP p q) : Calls Try.prog 59 #[.slice (some ⟨b, 0, none⟩) 3 3] (w.alloc (.cells #[.int .i64 x, .int .i64 y, .int .i64 u, .int .i64 v, .int .i64 p, .int .i64 q] t)) fun e w' => e = .returned (.bool (goodB x y && goodB u v && goodB p q)) ∧ Since (w.alloc (.cells #[.int .i64 x, .int .i64 y, .int .i64 u, .int .i64 v, .int .i64 p, .int .i64 q] t)) w' := by
  have h := ga_good _ 3 3 _ _ _ (rdp_three w b hb x y u v p q t) (fun j hj => by unfold three; split; exact h; split; exact h'; exact h'') (by decide)
  simpa [allG, three] using h
theorem good_near {x y : Int} (h : goodB x y = true) : Near x ∧ Near y ∧ x.natAbs ≤ 9007199254740991 ∧ y.natAbs ≤ 9007199254740991 := by
  have := goodB_iff.1 h
  unfold Near
  omega

/-- A block holds a point. -/
def PtAt (w : World) (b : Nat) (x y : Int) : Prop := w.cell? ⟨b, 0, none⟩ = some (.int .i64 x) ∧ w.cell? ⟨b, 1, none⟩ = some (.int .i64 y) ∧ b < w.heap.size
theorem PtAt.since {w w' : World} {b : Nat} {x y : Int} (h : PtAt w b x y) (k : Since w w') : PtAt w' b x y := ⟨(k.1 _ _ h.2.2).trans h.1, (k.1 _ _ h.2.2).trans h.2.1, k.2.2.1 _ h.2.2⟩
theorem PtAt.alloc {w : World} {b : Nat} {x y : Int} (h : PtAt w b x y) (o : Obj) : PtAt (w.alloc o) b x y := h.since ((Since.refl w).alloc o)
theorem pt_new (w : World) (b : Nat) (hb : b = w.heap.size) (x y : Int) (t : TypeId) : PtAt (w.alloc (.cells #[.int .i64 x, .int .i64 y] t)) b x y := by
  subst hb
  exact ⟨by rw [World.cell?_alloc_new]; rfl, by rw [World.cell?_alloc_new]; rfl, by simp⟩
/-- A block holds nought, and may be written. -/
def Zero2 (w : World) (b : Nat) : Prop := PtAt w b 0 0 ∧ ∀ j, w.frozen? ⟨b, j, none⟩ = false
theorem zero2_new (w : World) (b : Nat) (hb : b = w.heap.size) (t : TypeId) : Zero2 (w.alloc (.cells #[.int .i64 0, .int .i64 0] t)) b := by
  refine ⟨pt_new w b hb 0 0 t, fun j => ?_⟩
  subst hb
  rw [frozen?_alloc_cells]
  simp [World.frozen?]
theorem Zero2.since {w w' : World} {b : Nat} (h : Zero2 w b) (k : Since w w') : Zero2 w' b := ⟨h.1.since k, fun j => (k.2.1 _ _ h.1.2.2).trans (h.2 j)⟩
theorem Zero2.alloc {w : World} {b : Nat} (h : Zero2 w b) (o : Obj) : Zero2 (w.alloc o) b := h.since ((Since.refl w).alloc o)
def crossI (x y u v : Int) : Int := x * v - y * u
def dotI (x y u v : Int) : Int := x * u + y * v
def okE (b : Bool) : Int := if b then 0 else 6
def timesX (x y u v : Int) : Int := x * u - y * v
def timesY (x y u v : Int) : Int := x * v + y * u
end Go.Proofs.Ytckochcocflleaa
