/-
  Layer 11: the law OutlineLifts, walked.
-/
import Derived.Test.YtdbenpncnkfliaaOuLr
import Derived.Test.YtdbenpncnkfliaaOuY
import Derived.Test.YtdbenpncnkfliaaOuJ
namespace Go.Proofs.Ytdbenpncnkfliaa
open Go.RowKit Go.ChangeShapes Go.WideShapes Go.Deep
set_option linter.unusedVariables false

theorem cellsK_setX : ∀ (L : List Kt) (i : Nat) (x : Int), ∃ M : List Kt, M.length = L.length ∧ (cellsG knL L).set (i * 3) (.int .i64 x) = cellsG knL M
  | [], i, x => ⟨[], rfl, by simp [cellsG]⟩
  | k :: L, 0, x => ⟨⟨x, k.y, k.o⟩ :: L, rfl, by simp [cellsG, knL]⟩
  | k :: L, i + 1, x => by
    obtain ⟨M, h1, h2⟩ := cellsK_setX L i x
    refine ⟨k :: M, by simp [h1], ?_⟩
    have e0 : cellsG knL (k :: L) = knL k ++ cellsG knL L := by simp [cellsG]
    have e1 : cellsG knL (k :: M) = knL k ++ cellsG knL M := by simp [cellsG]
    have el : (knL k).length = 3 := rfl
    rw [e0, e1, ← h2, show (i + 1) * 3 = (knL k).length + i * 3 by rw [el]; omega, set_app]
/-- An outline that a call has made, whatever its knots are by now. -/
def WrO (w : World) (base : Nat) (v : Value) (LL : List (List Kt)) : Prop :=
  ∃ hs : List Hd, hs.length = LL.length ∧ OwnG 23 1 hdL w base v hs ∧ ∀ (j : Nat) h L, hs[j]? = some h → LL[j]? = some L → ∃ M, M.length = L.length ∧ OwnK w base (.slice h.A h.n h.c) M
theorem OwnO.wr {w : World} {base : Nat} {v : Value} {LL : List (List Kt)} (h : OwnO w base v LL) : WrO w base v LL := by
  obtain ⟨hs, hl, ho, hK⟩ := h
  exact ⟨hs, hl, ho, fun j x L h1 h2 => ⟨L, rfl, hK j x L h1 h2⟩⟩
theorem WrO.since {w w' : World} {base : Nat} {v : Value} {LL : List (List Kt)} (h : WrO w base v LL) (k : Since w w') : WrO w' base v LL := by
  obtain ⟨hs, hl, ho, hK⟩ := h
  refine ⟨hs, hl, ho.since k, fun j x L h1 h2 => ?_⟩
  obtain ⟨M, e, hM⟩ := hK j x L h1 h2
  exact ⟨M, e, OwnG.since hM k⟩
theorem own_setX {w : World} {base q : Nat} {v : Value} {L : List Kt} (h : OwnK w base v L) (hq : v.ownBlock = some q) (i : Nat) (x : Int) : ∃ M, M.length = L.length ∧ OwnK (w.setCell ⟨q, i * 3, none⟩ (.int .i64 x)) base v M := by
  obtain ⟨A, c, rfl, _, _⟩ := OwnG.rd (by omega) knL_len h
  obtain ⟨M, h1, h2⟩ := cellsK_setX L i x
  rcases h.2 with ⟨h0, _⟩ | ⟨g, cap, cur, h0, _⟩
  · injection h0 with h0
    subst h0
    cases hq
  · injection h0 with h0
    subst h0
    have e : g = q := by injection hq
    subst e
    have h3 := (World.ownsRow.stored h (i * 3) (.int .i64 x)).1
    rw [h2] at h3
    refine ⟨M, h1, ?_⟩
    unfold OwnK OwnG
    rw [h1]
    exact h3
theorem WrO.put {w : World} {base q : Nat} {v vr : Value} {LL : List (List Kt)} {R : List Kt} (h : WrO w base v LL) (hr : OwnK w base vr R) (hq : vr.ownBlock = some q) (i : Nat) (x : Int) : WrO (w.setCell ⟨q, i * 3, none⟩ (.int .i64 x)) base v LL := by
  obtain ⟨hs, hl, ho, hK⟩ := h
  have hne : 39 ≠ 23 := by decide
  have hkb : KeepBut q w (w.setCell ⟨q, i * 3, none⟩ (.int .i64 x)) := (KeepBut.refl q w).set _ _
  refine ⟨hs, hl, OwnG.but ho hkb (own_apart hr ho hne hq), fun j y L h1 h2 => ?_⟩
  obtain ⟨M, e, hM⟩ := hK j y L h1 h2
  by_cases hb : (Value.slice y.A y.n y.c).ownBlock = some q
  · obtain ⟨M', e', hM'⟩ := own_setX hM hb i x
    exact ⟨M', e'.trans e, hM'⟩
  · exact ⟨M, e, OwnG.but hM hkb hb⟩
/-- A contour of it: its header's cell, and a knot's first cell. -/
theorem WrO.row {w : World} {base : Nat} {v : Value} {LL : List (List Kt)} (h : WrO w base v LL) {j : Nat} {L : List Kt} (hj : LL[j]? = some L) : ∃ g c A' c', v = .slice (some ⟨g, 0, none⟩) LL.length c ∧ g < w.heap.size ∧ w.cell? ⟨g, j, none⟩ = some (.slice A' L.length c') ∧
    ∀ i, i < L.length → ∃ q x M, A' = some ⟨q, 0, none⟩ ∧ base ≤ q ∧ q < w.heap.size ∧ g ≠ q ∧ w.cell? ⟨q, i * 3, none⟩ = some (.int .i64 x) ∧ w.frozen? ⟨q, i * 3, none⟩ = false ∧ OwnK w base (.slice A' L.length c') M := by
  obtain ⟨hs, hl, ho, hK⟩ := h
  have hne : 23 ≠ 39 := by decide
  have hjl : j < LL.length := by
    rcases Nat.lt_or_ge j LL.length with h | h
    · exact h
    · rw [List.getElem?_eq_none h] at hj; cases hj
  have h1 : hs[j]? = some hs[j] := List.getElem?_eq_getElem (by omega)
  obtain ⟨M, e, hM⟩ := hK j _ L h1 hj
  generalize hs[j] = x at *
  obtain ⟨A, c, rfl, _, hr⟩ := OwnG.rd (by omega) hdL_len ho
  rcases ho.2 with ⟨h0, h0'⟩ | ⟨g, cap, cur, h0, _⟩
  · omega
  · injection h0 with h0 h0a h0b
    subst h0
    obtain ⟨b, o, e1, hb, hc⟩ := hr (by omega)
    injection e1 with e1
    injection e1 with e1 e2
    subst e1 e2
    obtain ⟨A2, c2, e3, _, hr2⟩ := OwnG.rd (by omega) knL_len hM
    injection e3 with e3 e4 e5
    have h3 := hc j x h1 0 (by omega)
    rw [Nat.zero_add, Nat.mul_one, Nat.add_zero] at h3
    refine ⟨g, c, x.A, x.c, by rw [hl], hb, by rw [h3, ← e, ← e4]; rfl, fun i hi => ?_⟩
    obtain ⟨q, o2, e6, hq, hc2⟩ := hr2 (by omega)
    rcases hM.2 with ⟨h7, h7'⟩ | ⟨g', cap', cur', h7, hb', _⟩
    · omega
    · injection h7 with h7 h7a h7b
      rw [e3, e6] at h7
      injection h7 with h7
      injection h7 with h7 h8
      subst h7 h8
      have h9 := hc2 i _ (List.getElem?_eq_getElem (by omega)) 0 (by omega)
      rw [Nat.zero_add, Nat.add_zero] at h9
      have hM' : OwnK w base (.slice x.A L.length x.c) M := by rw [← e, ← e4]; exact hM
      have hA : x.A = some ⟨q, 0, none⟩ := by rw [e3, e6]
      have hor : w.ownsRow base 39 3 (.slice (some ⟨q, 0, none⟩) M.length x.c) M.length (cellsG knL M) := by
        have := hM
        unfold OwnK OwnG at this
        rw [hA, e4] at this
        exact this
      refine ⟨q, M[i].x, M, hA, hb', hq, fun eg => own_apart ho hM hne (q := g) rfl (by rw [hA, eg]; rfl), h9, World.ownsRow.frozenAt hor _, hM'⟩
end Go.Proofs.Ytdbenpncnkfliaa
