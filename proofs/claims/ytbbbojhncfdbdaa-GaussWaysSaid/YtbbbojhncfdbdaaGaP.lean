/-
  Layer 10: a slice of arrays of two whole numbers that came in ([][2]int32).
-/
import Derived.Test.YtbbbojhncfdbdaaGaM
import Derived.OpenShut
namespace Go.Proofs.Ytbbbojhncfdbdaa
open Go.RowKit Go.ChangeShapes Go.WideShapes Go.Deep
set_option linter.unusedVariables false

/-- A slice's n pairs of numbers of kind k, in a block below B (nil and empty let in). -/
def RdK (k : IntKind) (w : World) (B : Nat) (A : Option Addr) (n : Nat) (X Y : Nat → Int) : Prop :=
  0 < n → ∃ b o, A = some ⟨b, o, none⟩ ∧ b < B ∧ ∀ j, j < n → w.cell? ⟨b, o + j * 2, none⟩ = some (.int k (X j)) ∧ w.cell? ⟨b, o + j * 2 + 1, none⟩ = some (.int k (Y j))
section
variable {k : IntKind} {w w' : World} {B B' n : Nat} {A : Option Addr} {X Y : Nat → Int}
theorem RdK.zero : RdK k w B A 0 X Y := fun h => absurd h (by omega)
theorem RdK.on (h : RdK k w w.heap.size A n X Y) (s : Since w w') : RdK k w' w'.heap.size A n X Y := fun hn => by
  obtain ⟨b, o, rfl, hb, hc⟩ := h hn
  exact ⟨b, o, rfl, Nat.lt_of_lt_of_le hb s.below.size, fun j hj => ⟨(s.1 _ _ hb).trans (hc j hj).1, (s.1 _ _ hb).trans (hc j hj).2⟩⟩
end
section
variable {H : Type} {enc : TypeId × Value → H} {P : Program} {W : World}
theorem open_pairs {k : IntKind} {t e q : TypeId} {r : Reach} {b0 : Nat} {v : Value} {d : DataW H} {ps : List MemPlace} (ht : P.underlying t = some (.slice e)) (he : P.underlying e = some (.array 2 q)) (hq : P.underlying q = some (.int k))
    (ce : P.cellsOf e = 2) (cq : P.cellsOf q = 1)
    (hval : Value.okWide P W r b0 t v) (h : DataW.Trod enc P W 0 (fun _ => true) true t v d ps) (hlt : ∀ x ∈ ps, x.block < W.heap.size) :
    ∃ A n c X Y, v = .slice A n c ∧ n ≤ c ∧ c ≤ maxLen ∧ RdK k W W.heap.size A n X Y ∧ (∀ j, j < n → (Lit.int k (X j)).wf = true ∧ (Lit.int k (Y j)).wf = true) ∧ (c = 0 ∨ ∃ el sp, d = .slice el sp ∧ el.length + sp.length = c) := by
  obtain ⟨A, n, c, rfl⟩ := okWide_slice ht hval
  obtain ⟨fuel, hf⟩ := h
  rcases open_slice ht hf with ⟨hcs, hx⟩ | ⟨a, len, cap, m, z, D, Pl, hcs, _, hl, hm, hmm, hx, hall⟩
  · simp [Value.cells] at hcs
    obtain ⟨rfl, rfl, rfl⟩ := hcs
    exact ⟨none, 0, 0, fun _ => 0, fun _ => 0, rfl, Nat.le_refl _, Nat.zero_le _, RdK.zero, fun j hj => absurd hj (by omega), .inl rfl⟩
  · simp [Value.cells] at hcs
    obtain ⟨rfl, rfl, rfl⟩ := hcs
    simp only [if_true] at hmm
    subst hmm
    simp only [Prod.mk.injEq] at hx
    obtain ⟨rfl, rfl⟩ := hx
    have each : ∀ j, j < m → ∃ q : Int × Int, W.cell? (a.add (j * 2)) = some (.int k q.1) ∧ W.cell? (a.add (j * 2 + 1)) = some (.int k q.2) ∧ (Lit.int k q.1).wf = true ∧ (Lit.int k q.2).wf = true := by
      intro j hj
      obtain ⟨cs', g1, g2⟩ := hall j hj
      rw [ce] at g1
      obtain ⟨_, hlen, hcell⟩ := World.cells?_some g1
      obtain ⟨xs, m', _, _, _, hxl, hf'⟩ := DataW.trod_array he g2
      match xs, hxl, cs', hlen with
      | [y0, y1], _, [v0, v1], _ =>
        have e0 := hf' 0 (by omega)
        have e1 := hf' 1 (by omega)
        simp [cq] at e0 e1
        obtain ⟨x, hx0, _, wx⟩ := DataW.trod_int hq e0
        obtain ⟨y, hy0, _, wy⟩ := DataW.trod_int hq e1
        simp only [List.cons.injEq, and_true] at hx0 hy0
        subst hx0 hy0
        have c0 := hcell 0 (by omega)
        have c1 := hcell 1 (by omega)
        rw [add_add] at c0 c1
        exact ⟨(x, y), by simpa using c0, by simpa using c1, wx, wy⟩
    obtain ⟨q, hq⟩ := choose_lt each
    refine ⟨some a, n, m, fun j => (q j).1, fun j => (q j).2, rfl, hl, hm, fun hn => ?_, fun j hj => (hq j (by omega)).2.2, .inr ⟨_, _, rfl, ?_⟩⟩
    · have hspot : a.spot = none := by
        have h0 := (hq 0 (by omega)).1
        cases hsp : a.spot with
        | none => rfl
        | some s =>
          have e : (a.add (0 * 2)).spot = some s := by unfold Addr.add; split <;> simp_all
          simp only [World.cell?] at h0
          split at h0
          · simp [e] at h0
          · cases h0
      obtain ⟨b, o, s⟩ := a
      simp only at hspot
      subst hspot
      refine ⟨b, o, rfl, hlt (.cell b (o + 0)) (List.mem_append_left _ (MemPlace.mem_row.2 ⟨0, by rw [ce]; omega, rfl⟩)), fun j hj => ?_⟩
      obtain ⟨h1, h2, _⟩ := hq j (by omega)
      rw [Nat.add_assoc, ← add_plain, ← add_plain]
      exact ⟨h1, h2⟩
    · simp; omega
end
end Go.Proofs.Ytbbbojhncfdbdaa
