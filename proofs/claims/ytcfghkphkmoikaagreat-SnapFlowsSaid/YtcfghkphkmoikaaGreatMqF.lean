/-
  Texts of this seat, put together: each with its own head.
-/
import Derived.Test.YtcfghkphkmoikaaGreatMqG
import Derived.Test.YtcfghkphkmoikaaGreatMqH

/-
  Layer 14: lines as four numbers (pure: no walk).
-/
namespace Go.Proofs.YtcfghkphkmoikaaGreat
set_option maxRecDepth 100000
open Go.RowKit
set_option linter.unusedVariables false

/-- A line. -/
structure Lq where
  (ax ay bx bz : Int)
def lnL (l : Lq) : List Value := [.int .i64 l.ax, .int .i64 l.ay, .int .i64 l.bx, .int .i64 l.bz]
theorem lnL_len (p : Lq) : (lnL p).length = 4 := rfl
theorem lnL_one (p : Lq) : ∀ u ∈ lnL p, u.oneCell' = true := by
  intro u hu
  simp only [lnL, List.mem_cons, List.not_mem_nil, or_false] at hu
  rcases hu with rfl | rfl | rfl | rfl <;> rfl
end Go.Proofs.YtcfghkphkmoikaaGreat

/-
  Layer 14: the reference's 'Closed'.
-/
namespace Go.Proofs.YtcfghkphkmoikaaGreat
set_option maxRecDepth 100000
open Go.RowKit Go.ChangeShapes Go.WideShapes Go.Deep
set_option linter.unusedVariables false

/-- How many of the first k lines begin at a point, less those that end there. -/
def cntJ (L : List Lq) (p : Pq) : Nat → Int
  | 0 => 0
  | k + 1 => match L[k]? with
    | some y => cntJ L p k + (if y.ax = p.x ∧ y.ay = p.y then 1 else 0) - (if y.bx = p.x ∧ y.bz = p.y then 1 else 0)
    | none => cntJ L p k
theorem cntJ_in (L : List Lq) (p : Pq) : ∀ k : Nat, -(k : Int) ≤ cntJ L p k ∧ cntJ L p k ≤ k
  | 0 => by simp [cntJ]
  | k + 1 => by
    have ih := cntJ_in L p k
    simp only [cntJ]
    split
    · split <;> split <;> omega
    · omega
theorem cntJ_step (L : List Lq) (p : Pq) (k : Nat) (y : Lq) (h : L[k]? = some y) : cntJ L p (k + 1) = cntJ L p k + (if y.ax = p.x ∧ y.ay = p.y then 1 else 0) - (if y.bx = p.x ∧ y.bz = p.y then 1 else 0) := by simp only [cntJ, h]
def cntL (L : List Lq) (p : Pq) : Int := cntJ L p L.length
def chkL (L : List Lq) (x : Lq) : Bool := cntL L ⟨x.ax, x.ay⟩ == 0 && cntL L ⟨x.bx, x.bz⟩ == 0
def closedB (L : List Lq) : Bool := L.all (chkL L)
theorem closed_all (L : List Lq) (h : ∀ (j : Nat) (x : Lq), L[j]? = some x → chkL L x = true) : closedB L = true := by
  unfold closedB
  rw [List.all_eq_true]
  intro x hx
  obtain ⟨j, hj, rfl⟩ := List.getElem_of_mem hx
  exact h j _ (List.getElem?_eq_getElem hj)
theorem closed_not (L : List Lq) (j : Nat) (x : Lq) (hj : L[j]? = some x) (h : chkL L x = false) : closedB L = false := by
  unfold closedB
  rw [List.all_eq_false]
  exact ⟨x, List.mem_of_getElem? hj, by simp [h]⟩
/-- One count: the inner loop's round. -/
theorem cnt_cases (a b p q : Int) : (a = p ∧ b = q) ∨ (¬ (a = p ∧ b = q) ∧ a = p ∧ (b == q) = false ∧ b ≠ q) ∨ (¬ (a = p ∧ b = q) ∧ (a == p) = false ∧ a ≠ p) := by
  by_cases e1 : a = p <;> by_cases e2 : b = q <;> simp_all
end Go.Proofs.YtcfghkphkmoikaaGreat
