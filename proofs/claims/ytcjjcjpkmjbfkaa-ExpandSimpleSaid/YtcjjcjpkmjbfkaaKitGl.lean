/-
  A glyph that came in: an outline and bytes in one struct.
-/
import Derived.Test.YtcjjcjpkmjbfkaaKitOP
import Derived.Test.YtcjjcjpkmjbfkaaMhA
import Derived.Lib.SmallJoins
namespace Go.Proofs.Ytcjjcjpkmjbfkaa
open Go.RowKit Go.ChangeShapes Go.WideShapes Go.Deep Go.Joins
set_option linter.unusedVariables false
section
variable {H : Type} {enc : TypeId × Value → H} {P : Program} {W : World}
theorem shape_slice {t e : TypeId} {v : Value} {n : Nat} {y : DataW H × List MemPlace} (ht : P.underlying t = some (.slice e)) (h : DataW.trod enc P W 0 (fun _ => true) true n t [v] = some y) : ∃ A m c, v = .slice A m c := by
  rcases open_slice ht h with ⟨h1, _⟩ | ⟨a', len', cap', _, _, _, _, h1, _⟩
  · simp at h1; exact ⟨_, _, _, h1⟩
  · simp at h1; exact ⟨_, _, _, h1⟩
theorem trod_one {t : TypeId} {v : Value} {n : Nat} {y : DataW H × List MemPlace} {A : Option Addr} {m c : Nat} (hv : v = .slice A m c) (h : DataW.trod enc P W 0 (fun _ => true) true n t [v] = some y) : DataW.Trod enc P W 0 (fun _ => true) true t v y.1 y.2 := ⟨n, by subst hv; exact h⟩
theorem open_rd2 {t e : TypeId} {k : IntKind} {v : Value} {d : DataW H} {ps : List MemPlace} (ht : P.underlying t = some (.slice e)) (he : P.underlying e = some (.int k)) (hc : P.cellsOf e = 1)
    (hval : ∃ A n c, v = .slice A n c) (h : DataW.Trod enc P W 0 (fun _ => true) true t v d ps) (hlt : ∀ x ∈ ps, x.block < W.heap.size) :
    ∃ A n c f, v = .slice A n c ∧ n ≤ c ∧ c ≤ maxLen ∧ Rd W W.heap.size A n (IntRow k f) ∧ (∀ j, j < n → (Lit.int k (f j)).wf = true) ∧ (c = 0 ∨ ∃ el sp, d = .slice el sp ∧ el.length + sp.length = c) := by
  obtain ⟨A, n, c, rfl⟩ := hval
  obtain ⟨fuel, hf⟩ := h
  rcases open_ints ht he hc hf with ⟨hcs, hx⟩ | ⟨a, len, cap, zs, hcs, _, hl, hm, hz, hx, hcell, hwz⟩
  · simp [Value.cells] at hcs
    obtain ⟨rfl, rfl, rfl⟩ := hcs
    exact ⟨none, 0, 0, fun _ => 0, rfl, Nat.le_refl _, Nat.zero_le _, Rd.zero, fun j hj => absurd hj (by omega), .inl rfl⟩
  · simp [Value.cells] at hcs
    obtain ⟨rfl, rfl, rfl⟩ := hcs
    simp only [if_true] at hz
    simp only [Prod.mk.injEq] at hx
    obtain ⟨rfl, rfl⟩ := hx
    refine ⟨some a, n, c, fun j => zs.getD j 0, rfl, hl, hm, fun hn => ?_, fun j hj => ?_, .inr ⟨_, _, rfl, ?_⟩⟩
    · have hspot : a.spot = none := by
        have h0 := hcell 0 (by omega)
        cases hsp : a.spot with
        | none => rfl
        | some s =>
          have e : (a.add 0).spot = some s := by unfold Addr.add; split <;> simp_all
          simp only [World.cell?] at h0
          split at h0
          · simp [e] at h0
          · cases h0
      obtain ⟨b, o, s⟩ := a
      simp only at hspot
      subst hspot
      refine ⟨b, o, rfl, hlt (.cell b (o + 0)) (MemPlace.mem_row.2 ⟨0, by omega, rfl⟩), fun j hj => ?_⟩
      have := hcell j (by omega)
      rw [← add_plain]
      exact this
    · have hj' : j < zs.length := by omega
      have : zs.getD j 0 = zs[j] := by simp [List.getD, hj']
      show (Lit.int k (zs.getD j 0)).wf = true
      rw [this]
      exact hwz _ (List.getElem_mem hj')
    · simp [lits]; omega
theorem open_glyph {t to_ te tq tb tu t0 t2 : TypeId} {f0 f1 : Field} {r : Reach} {b0 : Nat} {v : Value} {d : DataW H} {ps : List MemPlace} (hs : P.underlying t = some (.struct #[f0, f1])) (hone : oneCellFields P #[f0, f1] = true) (hC : P.cellsOf t = 2)
    (e0 : f0.type = to_) (e1 : f1.type = tb) (ho : P.underlying to_ = some (.slice te)) (he : P.underlying te = some (.slice tq)) (ce : P.cellsOf te = 1) (cq : P.cellsOf tq = 3) (l0 : leafAt P 6 tq 0 = some t0) (l1 : leafAt P 6 tq 1 = some t0) (l2 : leafAt P 6 tq 2 = some t2) (k0 : P.underlying t0 = some (.int .i64)) (k2 : P.underlying t2 = some .bool)
    (hb : P.underlying tb = some (.slice tu)) (hu : P.underlying tu = some (.int .u8)) (cu : P.cellsOf tu = 1)
    (hval : Value.okWide P W r b0 t v) (h : DataW.Trod enc P W 0 (fun _ => true) true t v d ps) (hlt : ∀ x ∈ ps, x.block < W.heap.size) :
    ∃ (A : Option Addr) (c : Nat) (LL : List (List Kt)) (B : Option Addr) (m k : Nat) (f : Nat → Int), v = .agg #[.slice A LL.length c, .slice B m k] ∧ LL.length ≤ maxLen ∧ RdOL W W.heap.size A LL ∧ (∀ L, L ∈ LL → L.length ≤ maxLen) ∧ (∀ L, L ∈ LL → ∀ x, x ∈ L → InP x.x x.y) ∧
      m ≤ k ∧ k ≤ maxLen ∧ Rd W W.heap.size B m (IntRow .u8 f) ∧ (∀ j, j < m → (Lit.int .u8 (f j)).wf = true) := by
  obtain ⟨v0, v1, y0, y1, n, rfl, rfl, rfl, h0, h1⟩ := open_agg2 hs hone hC hval h
  rw [e0] at h0
  rw [e1] at h1
  obtain ⟨A0, m0, c0, hv0⟩ := shape_slice ho h0
  obtain ⟨A1, m1, c1, hv1⟩ := shape_slice hb h1
  obtain ⟨A, c, LL, rfl, a2, a3, a4, a5⟩ := open_outline2 ho he ce cq l0 l1 l2 k0 k2 ⟨_, _, _, hv0⟩ (trod_one hv0 h0) (fun x hx => hlt x (List.mem_append_left _ hx))
  obtain ⟨B, m, k, f, rfl, b2, b3, b4, b5, _⟩ := open_rd2 hb hu cu ⟨_, _, _, hv1⟩ (trod_one hv1 h1) (fun x hx => hlt x (List.mem_append_right _ hx))
  exact ⟨A, c, LL, B, m, k, f, rfl, a2, a3, a4, a5, b2, b3, b4, b5⟩
end
end Go.Proofs.Ytcjjcjpkmjbfkaa
