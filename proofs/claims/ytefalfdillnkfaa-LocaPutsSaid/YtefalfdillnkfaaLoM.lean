/-
  Layer 6: a slice of values of two whole numbers that came in.
-/
import Derived.Test.YtefalfdillnkfaaLoL
namespace Go.Proofs.Ytefalfdillnkfaa
open Go.RowKit Go.ChangeShapes Go.WideShapes Go.Deep
set_option linter.unusedVariables false
def numOf : Value → Int
  | .int _ a => a
  | _ => 0
section
variable {H : Type} {enc : TypeId × Value → H} {P : Program} {W : World}
theorem open_two {t e t0 : TypeId} {r : Reach} {b0 : Nat} {v : Value} {d : DataW H} {ps : List MemPlace} (ht : P.underlying t = some (.slice e)) (ce : P.cellsOf e = 2) (l0 : leafAt P 6 e 0 = some t0) (l1 : leafAt P 6 e 1 = some t0) (k0 : P.underlying t0 = some (.int .i64))
    (hval : Value.okWide P W r b0 t v) (h : DataW.Trod enc P W 0 (fun _ => true) true t v d ps) (hlt : ∀ x ∈ ps, x.block < W.heap.size) :
    ∃ (A : Option Addr) (n c : Nat) (X Y : Nat → Int), v = .slice A n c ∧ n ≤ c ∧ c ≤ maxLen ∧ Rd W W.heap.size A (n * 2) (MtV X Y) ∧ (∀ j, j < n → In64 (X j) ∧ In64 (Y j)) ∧ (c = 0 ∨ ∃ el sp, d = .slice el sp ∧ el.length + sp.length = c) := by
  obtain ⟨A, n, c, V, rfl, hnc, hcm, hr, hall, hz⟩ := open_flat ht ce (by omega) hval h hlt
  have each : ∀ i, i < n → (V (i * 2) = .int .i64 (numOf (V (i * 2))) ∧ In64 (numOf (V (i * 2)))) ∧ (V (i * 2 + 1) = .int .i64 (numOf (V (i * 2 + 1))) ∧ In64 (numOf (V (i * 2 + 1)))) := fun i hi => by
    obtain ⟨m, x, hx⟩ := hall i hi
    obtain ⟨u0, m0, y0, a1, a2, _⟩ := leaf_at 6 e t0 0 l0 m _ x hx
    obtain ⟨u1, m1, y1, b1, b2, _⟩ := leaf_at 6 e t0 1 l1 m _ x hx
    obtain ⟨p, ep, _, wp⟩ := DataW.trod_int k0 a2
    obtain ⟨q, eq, _, wq⟩ := DataW.trod_int k0 b2
    injection ep with ep
    injection eq with eq
    rw [tab_get, if_pos (by omega)] at a1 b1
    injection a1 with a1
    injection b1 with b1
    rw [Nat.add_zero] at a1
    subst ep; subst eq
    rw [a1, b1]
    exact ⟨⟨rfl, wf_i64 wp⟩, ⟨rfl, wf_i64 wq⟩⟩
  refine ⟨A, n, c, fun i => numOf (V (i * 2)), fun i => numOf (V (i * 2 + 1)), rfl, hnc, hcm, hr.congr (fun t ht => ?_), fun j hj => ⟨(each j hj).1.2, (each j hj).2.2⟩, hz⟩
  unfold MtV
  by_cases hp : t % 2 = 0
  · rw [if_pos hp]
    have e1 : t / 2 * 2 = t := by omega
    have := (each (t / 2) (by omega)).1.1
    rw [e1] at this
    show V t = Value.int .i64 (numOf (V (t / 2 * 2)))
    rw [e1]
    exact this
  · rw [if_neg hp]
    have e1 : t / 2 * 2 + 1 = t := by omega
    have := (each (t / 2) (by omega)).2.1
    rw [e1] at this
    show V t = Value.int .i64 (numOf (V (t / 2 * 2 + 1)))
    rw [e1]
    exact this
end
end Go.Proofs.Ytefalfdillnkfaa
