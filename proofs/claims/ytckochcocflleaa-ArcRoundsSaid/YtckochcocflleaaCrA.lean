/-
  Layer 15: lines in memory; 'between', 'apart', 'vector', 'product', 'On', walked.
-/
import Derived.Test.YtckochcocflleaaGaD
namespace Go.Proofs.Ytckochcocflleaa
open Go.RowKit
set_option linter.unusedVariables false

/-- A line's numbers. -/
structure Ln where
  (ax ay bx bz : Int)
def Ln.v (l : Ln) : Value := .agg #[.int .i64 l.ax, .int .i64 l.ay, .int .i64 l.bx, .int .i64 l.bz]
def Ln.wf (l : Ln) : Prop := InP l.ax l.ay ∧ InP l.bx l.bz
def LnAt (w : World) (b : Nat) (l : Ln) : Prop := w.cell? ⟨b, 0, none⟩ = some (.int .i64 l.ax) ∧ w.cell? ⟨b, 1, none⟩ = some (.int .i64 l.ay) ∧ w.cell? ⟨b, 2, none⟩ = some (.int .i64 l.bx) ∧ w.cell? ⟨b, 3, none⟩ = some (.int .i64 l.bz) ∧ b < w.heap.size
section
variable {w w' : World} {b : Nat} {l : Ln}
theorem LnAt.since (h : LnAt w b l) (k : Since w w') : LnAt w' b l := by
  obtain ⟨h1, h2, h3, h4, h5⟩ := h
  exact ⟨(k.1 _ _ h5).trans h1, (k.1 _ _ h5).trans h2, (k.1 _ _ h5).trans h3, (k.1 _ _ h5).trans h4, k.2.2.1 _ h5⟩
theorem LnAt.alloc (h : LnAt w b l) (o : Obj) : LnAt (w.alloc o) b l := h.since ((Since.refl w).alloc o)
theorem LnAt.drew (h : LnAt w b l) : LnAt w.drew b l := h
theorem ln_new (w : World) (b : Nat) (hb : b = w.heap.size) (l : Ln) (t : TypeId) : LnAt (w.alloc (.cells #[.int .i64 l.ax, .int .i64 l.ay, .int .i64 l.bx, .int .i64 l.bz] t)) b l := by
  subst hb
  refine ⟨?_, ?_, ?_, ?_, by simp⟩ <;> (rw [World.cell?_alloc_new]; rfl)
end
def lo2 (a b : Int) : Int := if b < a then b else a
def hi2 (a b : Int) : Int := if a < b then b else a
def btw (a n b : Int) : Bool := decide (lo2 a b ≤ n) && decide (n ≤ hi2 a b)
def aprt (a b c d : Int) : Bool := decide (hi2 a b < lo2 c d) || decide (hi2 c d < lo2 a b)
theorem min2_run : ∀ (A B : Int) (w : World), (Builtin.min_ #[3, 3] 3 #[.int .i64 A, .int .i64 B]).run Try.prog w = .ok (.int .i64 (lo2 A B)) w := fun _ _ _ => rfl
theorem max2_run : ∀ (A B : Int) (w : World), (Builtin.max_ #[3, 3] 3 #[.int .i64 A, .int .i64 B]).run Try.prog w = .ok (.int .i64 (hi2 A B)) w := fun _ _ _ => rfl
theorem cr_between (a n b : Int) (w : World) : Calls Try.prog 129 #[.int .i64 a, .int .i64 n, .int .i64 b] w fun e w' => e = .returned (.bool (btw a n b)) ∧ Since w w' := by
  have hmin := min2_run
  have hmax := max2_run
  unfold btw
  cases h1 : decide (lo2 a b ≤ n) <;> cases h2 : decide (n ≤ hi2 a b)
  all_goals
    go_enter Try.func129, Try.ntmps129
    go_wp2
    all_goals go_ret
    all_goals exact ⟨by first | rfl | simp, by (repeat (first | with_reducible (exact Since.refl _) | with_reducible assumption | with_reducible (refine Since.drew ?_) | with_reducible (refine Since.drewN ?_ _) | with_reducible (refine Since.alloc ?_ _) | (with_reducible (refine Since.setCell ?_ ?_ _); rotate_left; focus (first | (simp; done) | (simp; omega) | omega)) | (with_reducible (refine Since.trans ?_ (by with_reducible assumption)))))⟩
theorem cr_apart (a b c d : Int) (w : World) : Calls Try.prog 92 #[.int .i64 a, .int .i64 b, .int .i64 c, .int .i64 d] w fun e w' => e = .returned (.bool (aprt a b c d)) ∧ Since w w' := by
  have hmin := min2_run
  have hmax := max2_run
  unfold aprt
  cases h1 : decide (hi2 a b < lo2 c d) <;> cases h2 : decide (hi2 c d < lo2 a b)
  all_goals
    go_enter Try.func92, Try.ntmps92
    go_wp2
    all_goals go_ret
    all_goals exact ⟨by first | rfl | simp, by (repeat (first | with_reducible (exact Since.refl _) | with_reducible assumption | with_reducible (refine Since.drew ?_) | with_reducible (refine Since.drewN ?_ _) | with_reducible (refine Since.alloc ?_ _) | (with_reducible (refine Since.setCell ?_ ?_ _); rotate_left; focus (first | (simp; done) | (simp; omega) | omega)) | (with_reducible (refine Since.trans ?_ (by with_reducible assumption)))))⟩
theorem cr_vector (x y u v : Int) (h1 : IntKind.i64.wrap (u - x) = u - x) (h2 : IntKind.i64.wrap (v - y) = v - y) (w : World) :
    Calls Try.prog 94 #[Pt x y, Pt u v] w fun e w' => e = .returned (Pt (u - x) (v - y)) ∧ Since w w' := by
  unfold Pt
  go_enter Try.func94, Try.ntmps94
  go_wp2
  refine bodyPost_ret (by simp only [results, Try.results94]; go_simp) rfl ⟨rfl, ?_⟩
  (repeat (first | with_reducible (exact Since.refl _) | with_reducible assumption | with_reducible (refine Since.drew ?_) | with_reducible (refine Since.drewN ?_ _) | with_reducible (refine Since.alloc ?_ _) | (with_reducible (refine Since.setCell ?_ ?_ _); rotate_left; focus (first | (simp; done) | (simp; omega) | omega)) | (with_reducible (refine Since.trans ?_ (by with_reducible assumption)))))
theorem cr_product (x y u v : Int) (h1 : IntKind.i64.wrap (x * v) = x * v) (h2 : IntKind.i64.wrap (y * u) = y * u) (h3 : IntKind.i64.wrap (x * v - y * u) = x * v - y * u) (w : World) :
    Calls Try.prog 93 #[Pt x y, Pt u v] w fun e w' => e = .returned (.int .i64 (crossI x y u v)) ∧ Since w w' := by
  unfold Pt crossI
  go_enter Try.func93, Try.ntmps93
  go_wp2
  go_ret
  exact ⟨rfl, by (repeat (first | with_reducible (exact Since.refl _) | with_reducible assumption | with_reducible (refine Since.drew ?_) | with_reducible (refine Since.drewN ?_ _) | with_reducible (refine Since.alloc ?_ _) | (with_reducible (refine Since.setCell ?_ ?_ _); rotate_left; focus (first | (simp; done) | (simp; omega) | omega)) | (with_reducible (refine Since.trans ?_ (by with_reducible assumption)))))⟩
end Go.Proofs.Ytckochcocflleaa
