/-
  A slice of knots that came in.
-/
import Derived.Test.YtcjjcjpkmjbfkaaMhC
import Derived.Test.YtcjjcjpkmjbfkaaMhB
import Derived.Test.YtcjjcjpkmjbfkaaMhA
namespace Go.Proofs.Ytcjjcjpkmjbfkaa
open Go.RowKit Go.ChangeShapes Go.WideShapes Go.Deep
set_option linter.unusedVariables false
def numK : Value → Int
  | .int _ a => a
  | _ => 0
def boolK : Value → Bool
  | .bool a => a
  | _ => false
theorem in64_lit {a : Int} (h : (Lit.int .i64 a).wf = true) : In64 a := by
  have h : -9223372036854775808 ≤ a ∧ a ≤ 9223372036854775807 := by simpa [Lit.wf, IntKind.min, IntKind.max, IntKind.signed, IntKind.bits] using h
  unfold In64
  omega
section
variable {H : Type} {enc : TypeId × Value → H} {P : Program} {W : World}
theorem open_knots {t e t0 t2 : TypeId} {r : Reach} {b0 : Nat} {v : Value} {d : DataW H} {ps : List MemPlace} (ht : P.underlying t = some (.slice e)) (ce : P.cellsOf e = 3) (l0 : leafAt P 6 e 0 = some t0) (l1 : leafAt P 6 e 1 = some t0) (l2 : leafAt P 6 e 2 = some t2) (k0 : P.underlying t0 = some (.int .i64)) (k2 : P.underlying t2 = some .bool)
    (hval : Value.okWide P W r b0 t v) (h : DataW.Trod enc P W 0 (fun _ => true) true t v d ps) (hlt : ∀ x ∈ ps, x.block < W.heap.size) :
    ∃ (A : Option Addr) (n c : Nat) (X Y : Nat → Int) (O : Nat → Bool), v = .slice A n c ∧ n ≤ c ∧ c ≤ maxLen ∧ RdK W W.heap.size A n X Y O ∧ (∀ j, j < n → InP (X j) (Y j)) ∧ (c = 0 ∨ ∃ el sp, d = .slice el sp ∧ el.length + sp.length = c) := by
  obtain ⟨A, n, c, V, rfl, hnc, hcm, hr, hall, hz⟩ := open_flat ht ce (by omega) hval h hlt
  have each : ∀ i, i < n → (V (i * 3) = .int .i64 (numK (V (i * 3))) ∧ In64 (numK (V (i * 3)))) ∧ (V (i * 3 + 1) = .int .i64 (numK (V (i * 3 + 1))) ∧ In64 (numK (V (i * 3 + 1)))) ∧ V (i * 3 + 2) = .bool (boolK (V (i * 3 + 2))) := fun i hi => by
    obtain ⟨m, x, hx⟩ := hall i hi
    obtain ⟨u0, m0, y0, a1, a2, _⟩ := leaf_at 6 e t0 0 l0 m _ x hx
    obtain ⟨u1, m1, y1, b1, b2, _⟩ := leaf_at 6 e t0 1 l1 m _ x hx
    obtain ⟨u2, m2, y2, c1, c2, _⟩ := leaf_at 6 e t2 2 l2 m _ x hx
    obtain ⟨p, ep, _, wp⟩ := DataW.trod_int k0 a2
    obtain ⟨q, eq, _, wq⟩ := DataW.trod_int k0 b2
    obtain ⟨s, es, _⟩ := DataW.trod_bool k2 c2
    injection ep with ep
    injection eq with eq
    injection es with es
    rw [tab_get, if_pos (by omega)] at a1 b1 c1
    injection a1 with a1
    injection b1 with b1
    injection c1 with c1
    rw [Nat.add_zero] at a1
    subst ep; subst eq; subst es
    rw [a1, b1, c1]
    exact ⟨⟨rfl, in64_lit wp⟩, ⟨rfl, in64_lit wq⟩, rfl⟩
  refine ⟨A, n, c, fun i => numK (V (i * 3)), fun i => numK (V (i * 3 + 1)), fun i => boolK (V (i * 3 + 2)), rfl, hnc, hcm, fun hn => ?_, fun j hj => ⟨(each j hj).1.2, (each j hj).2.1.2⟩, hz⟩
  obtain ⟨b, o, rfl, hb, hc⟩ := hr (by omega)
  refine ⟨b, o, rfl, hb, fun j hj => ?_⟩
  obtain ⟨⟨e1, _⟩, ⟨e2, _⟩, e3⟩ := each j hj
  exact ⟨(hc (j * 3) (by omega)).trans (by rw [← e1]), by rw [Nat.add_assoc]; exact (hc (j * 3 + 1) (by omega)).trans (by rw [← e2]), by rw [Nat.add_assoc]; exact (hc (j * 3 + 2) (by omega)).trans (by rw [← e3])⟩
end
end Go.Proofs.Ytcjjcjpkmjbfkaa
