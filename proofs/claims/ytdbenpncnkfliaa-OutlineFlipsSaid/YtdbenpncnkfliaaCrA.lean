/-
  Layer 15: lines in memory; 'between', 'apart', 'vector', 'product', 'On', walked.
-/
import Derived.Test.YtdbenpncnkfliaaGaD
namespace Go.Proofs.Ytdbenpncnkfliaa
open Go.RowKit
set_option linter.unusedVariables false

/-- A line's numbers. -/
structure Ln where
  (ax ay bx bz : Int)
def Ln.v (l : Ln) : Value := .agg #[.int .i64 l.ax, .int .i64 l.ay, .int .i64 l.bx, .int .i64 l.bz]
def Ln.wf (l : Ln) : Prop := InP l.ax l.ay ∧ InP l.bx l.bz
def LnAt (w : World) (b : Nat) (l : Ln) : Prop := w.cell? ⟨b, 0, none⟩ = some (.int .i64 l.ax) ∧ w.cell? ⟨b, 1, none⟩ = some (.int .i64 l.ay) ∧ w.cell? ⟨b, 2, none⟩ = some (.int .i64 l.bx) ∧ w.cell? ⟨b, 3, none⟩ = some (.int .i64 l.bz) ∧ b < w.heap.size
section
variable {w w' : World} {b : Nat} {l : Ln}
theorem LnAt.since (h : LnAt w b l) (k : Since w w') : LnAt w' b l := by
  obtain ⟨h1, h2, h3, h4, h5⟩ := h
  exact ⟨(k.1 _ _ h5).trans h1, (k.1 _ _ h5).trans h2, (k.1 _ _ h5).trans h3, (k.1 _ _ h5).trans h4, k.2.2.1 _ h5⟩
theorem LnAt.alloc (h : LnAt w b l) (o : Obj) : LnAt (w.alloc o) b l := h.since ((Since.refl w).alloc o)
theorem LnAt.drew (h : LnAt w b l) : LnAt w.drew b l := h
theorem ln_new (w : World) (b : Nat) (hb : b = w.heap.size) (l : Ln) (t : TypeId) : LnAt (w.alloc (.cells #[.int .i64 l.ax, .int .i64 l.ay, .int .i64 l.bx, .int .i64 l.bz] t)) b l := by
  subst hb
  refine ⟨?_, ?_, ?_, ?_, by simp⟩ <;> (rw [World.cell?_alloc_new]; rfl)
end
def lo2 (a b : Int) : Int := if b < a then b else a
def hi2 (a b : Int) : Int := if a < b then b else a
def btw (a n b : Int) : Bool := decide (lo2 a b ≤ n) && decide (n ≤ hi2 a b)
def aprt (a b c d : Int) : Bool := decide (hi2 a b < lo2 c d) || decide (hi2 c d < lo2 a b)
theorem min2_run : ∀ (A B : Int) (w : World), (Builtin.min_ #[3, 3] 3 #[.int .i64 A, .int .i64 B]).run Try.prog w = .ok (.int .i64 (lo2 A B)) w := fun _ _ _ => rfl
theorem max2_run : ∀ (A B : Int) (w : World), (Builtin.max_ #[3, 3] 3 #[.int .i64 A, .int .i64 B]).run Try.prog w = .ok (.int .i64 (hi2 A B)) w := fun _ _ _ => rfl
end Go.Proofs.Ytdbenpncnkfliaa
