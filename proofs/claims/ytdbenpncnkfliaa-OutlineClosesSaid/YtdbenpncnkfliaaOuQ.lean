/-
  Layer 11: a contour's pieces close, and have all knots on the curve as ends: as lists.
-/
import Derived.Test.YtdbenpncnkfliaaOuG
namespace Go.Proofs.Ytdbenpncnkfliaa
open Go.RowKit
set_option linter.unusedVariables false

/-- Pieces that lead from one place to another. -/
def chain : (Int × Int) → List Sg → (Int × Int) → Prop
  | s, [], h => s = h
  | s, a :: r, h => (a.ax, a.ay) = s ∧ chain (a.bx, a.bz) r h
theorem chain_snoc (a : Sg) : ∀ (L : List Sg) (s : Int × Int), chain s L (a.ax, a.ay) → chain s (L ++ [a]) (a.bx, a.bz)
  | [], s, h => by
    show (a.ax, a.ay) = s ∧ (a.bx, a.bz) = (a.bx, a.bz)
    exact ⟨h.symm, rfl⟩
  | b :: r, s, h => ⟨h.1, chain_snoc a r _ h.2⟩
theorem chain_add {L : List Sg} {s : Int × Int} (a : Sg) (h : chain s L (a.ax, a.ay)) : chain s (addS L a) (a.bx, a.bz) := by
  unfold addS
  cases ho : sgOk a with
  | true => rw [if_pos rfl]; exact chain_snoc a L s h
  | false =>
    rw [if_neg (by simp)]
    unfold sgOk at ho
    have e : a.ax = a.bx ∧ a.ay = a.bz := by
      by_cases e1 : a.ax = a.bx <;> by_cases e2 : a.ay = a.bz <;> simp_all
    rw [← e.1, ← e.2]
    exact h
theorem chain_mid : ∀ (L : List Sg) (s h : Int × Int), chain s L h → ∀ i a b, L[i]? = some a → L[i + 1]? = some b → (a.bx, a.bz) = (b.ax, b.ay)
  | [], s, h, hc, i, a, b, ha, hb => by simp at ha
  | [x], s, h, hc, i, a, b, ha, hb => by simp at hb
  | x :: y :: r, s, h, hc, 0, a, b, ha, hb => by
    simp only [List.getElem?_cons_zero, Option.some.injEq, List.getElem?_cons_succ] at ha hb
    subst ha hb
    exact hc.2.1.symm
  | x :: y :: r, s, h, hc, i + 1, a, b, ha, hb => by
    rw [List.getElem?_cons_succ] at ha hb
    exact chain_mid (y :: r) _ _ hc.2 i a b ha hb
theorem chain_first {L : List Sg} {s h : Int × Int} (hc : chain s L h) {a : Sg} (ha : L[0]? = some a) : (a.ax, a.ay) = s := by
  cases L with
  | nil => simp at ha
  | cons x r => simp only [List.getElem?_cons_zero, Option.some.injEq] at ha; subst ha; exact hc.1
theorem chain_last : ∀ (L : List Sg) (s h : Int × Int), chain s L h → ∀ a, L[L.length - 1]? = some a → (a.bx, a.bz) = h
  | [], s, h, hc, a, ha => by simp at ha
  | [x], s, h, hc, a, ha => by
    simp only [List.length_cons, List.length_nil, Nat.zero_add, Nat.sub_self, List.getElem?_cons_zero, Option.some.injEq] at ha
    subst ha
    exact hc.2
  | x :: y :: r, s, h, hc, a, ha => by
    refine chain_last (y :: r) _ _ hc.2 a ?_
    rw [← ha]
    simp
/-- Pieces that close: the next one's beginning. -/
theorem chain_closes {L : List Sg} {s : Int × Int} (hc : chain s L s) {i : Nat} {a b : Sg} (ha : L[i]? = some a) (hb : L[(i + 1) % L.length]? = some b) : (a.bx, a.bz) = (b.ax, b.ay) := by
  have hi : i < L.length := by
    rcases Nat.lt_or_ge i L.length with h | h
    · exact h
    · rw [List.getElem?_eq_none h] at ha; cases ha
  by_cases e : i + 1 < L.length
  · rw [Nat.mod_eq_of_lt e] at hb
    exact chain_mid L s s hc i a b ha hb
  · have e2 : i + 1 = L.length := by omega
    rw [e2, Nat.mod_self] at hb
    have e3 : i = L.length - 1 := by omega
    rw [e3] at ha
    rw [chain_last L s s hc a ha, chain_first hc hb]
/-- No piece is a point alone, none that is straight has a control point. -/
def fine (a : Sg) : Bool := sgOk a && (a.k || (a.cx == 0 && a.cy == 0))
theorem fine_add {L : List Sg} (h : ∀ a, a ∈ L → fine a = true) {x : Sg} (hx : x.k = true ∨ (x.cx = 0 ∧ x.cy = 0)) : ∀ a, a ∈ addS L x → fine a = true := by
  unfold addS
  intro a ha
  split at ha
  · rename_i ho
    rw [List.mem_append] at ha
    rcases ha with ha | ha
    · exact h a ha
    · simp only [List.mem_cons, List.not_mem_nil, or_false] at ha
      subst ha
      unfold fine
      rw [ho]
      rcases hx with hx | ⟨h1, h2⟩
      · simp [hx]
      · simp [h1, h2]
  · exact h a ha
section
variable (f n : Nat) (X Y : Nat → Int) (O : Nat → Bool) (st : Int × Int)
theorem run_chain : ∀ i, chain st (runS f n X Y O st i).2 (runS f n X Y O st i).1 ∧ (∀ a, a ∈ (runS f n X Y O st i).2 → fine a = true)
  | 0 => ⟨rfl, fun a h => by simp [runS] at h⟩
  | i + 1 => by
    obtain ⟨h1, h2⟩ := run_chain i
    show chain st (stepS f n X Y O (runS f n X Y O st i).1 (runS f n X Y O st i).2 i).2 (stepS f n X Y O (runS f n X Y O st i).1 (runS f n X Y O st i).2 i).1 ∧ ∀ a, a ∈ (stepS f n X Y O (runS f n X Y O st i).1 (runS f n X Y O st i).2 i).2 → fine a = true
    generalize runS f n X Y O st i = R at *
    obtain ⟨⟨hx, hy⟩, L⟩ := R
    unfold stepS
    simp only at h1 h2 ⊢
    split <;> split
    · exact ⟨chain_add ⟨hx, hy, 0, 0, X ((f + i + 1) % n), Y ((f + i + 1) % n), false⟩ h1, fine_add h2 (.inr ⟨rfl, rfl⟩)⟩
    · exact ⟨h1, h2⟩
    · exact ⟨chain_add ⟨hx, hy, X ((f + i) % n), Y ((f + i) % n), X ((f + i + 1) % n), Y ((f + i + 1) % n), true⟩ h1, fine_add h2 (.inl rfl)⟩
    · exact ⟨chain_add ⟨hx, hy, X ((f + i) % n), Y ((f + i) % n), mid (X ((f + i) % n)) (X ((f + i + 1) % n)), mid (Y ((f + i) % n)) (Y ((f + i + 1) % n)), true⟩ h1, fine_add h2 (.inl rfl)⟩
/-- What is there stays there, at the list's beginning. -/
theorem run_pre : ∀ i d, ∃ M, (runS f n X Y O st (i + d)).2 = (runS f n X Y O st i).2 ++ M
  | i, 0 => ⟨[], by simp⟩
  | i, d + 1 => by
    obtain ⟨M, hM⟩ := run_pre i d
    have hs : ∀ s, ∃ M', addS (runS f n X Y O st (i + d)).2 s = (runS f n X Y O st i).2 ++ M' := fun s => by
      unfold addS
      split
      · exact ⟨M ++ [s], by rw [hM, List.append_assoc]⟩
      · exact ⟨M, hM⟩
    show ∃ M', (stepS f n X Y O (runS f n X Y O st (i + d)).1 (runS f n X Y O st (i + d)).2 (i + d)).2 = _ ++ M'
    unfold stepS
    split <;> split
    · exact hs _
    · exact ⟨M, hM⟩
    · exact hs _
    · exact hs _
end
/-- Where the way is behind a step to a knot on the curve. -/
theorem step_on (f n : Nat) (X Y : Nat → Int) (O : Nat → Bool) (h : Int × Int) (L : List Sg) (i : Nat) (ho : O ((f + i + 1) % n) = true) : (stepS f n X Y O h L i).1 = (X ((f + i + 1) % n), Y ((f + i + 1) % n)) := by
  unfold stepS
  rw [ho]
  split <;> rfl
theorem run_end (n : Nat) (X Y : Nat → Int) (O : Nat → Bool) (hn : 0 < n) : (runS (frs n O) n X Y O (startS n X Y O) n).1 = startS n X Y O := by
  obtain ⟨m, rfl⟩ : ∃ m, n = m + 1 := ⟨n - 1, by omega⟩
  have hfo := firstOn_is O (m + 1)
  have hf : frs (m + 1) O < m + 1 := by unfold frs; split <;> omega
  have em : (frs (m + 1) O + m + 1) % (m + 1) = frs (m + 1) O := by rw [Nat.add_assoc, Nat.add_mod_right, Nat.mod_eq_of_lt hf]
  show (stepS (frs (m + 1) O) (m + 1) X Y O (runS (frs (m + 1) O) (m + 1) X Y O (startS (m + 1) X Y O) m).1 (runS (frs (m + 1) O) (m + 1) X Y O (startS (m + 1) X Y O) m).2 m).1 = _
  by_cases hlt : firstOn O (m + 1) < m + 1
  · have ef : frs (m + 1) O = firstOn O (m + 1) := by unfold frs; rw [if_pos hlt]
    have eo : O (frs (m + 1) O) = true := by rw [ef]; exact hfo.2.2 hlt
    rw [step_on _ _ _ _ _ _ _ _ (by rw [em]; exact eo), em, ef]
    unfold startS
    rw [if_pos hlt]
  · have ef : frs (m + 1) O = 0 := by unfold frs; rw [if_neg hlt]
    have eo : O 0 = false := hfo.2.1 0 (by omega)
    have el : (frs (m + 1) O + m) % (m + 1) = m := by rw [ef, Nat.zero_add, Nat.mod_eq_of_lt (by omega)]
    have eo' : O m = false := hfo.2.1 m (by omega)
    unfold stepS startS
    rw [el, em, ef, eo, eo', if_neg hlt]
    rfl
/-- The pieces close. -/
theorem segs_chain (n : Nat) (X Y : Nat → Int) (O : Nat → Bool) : chain (startS n X Y O) (segsL n X Y O) (startS n X Y O) ∧ ∀ a, a ∈ segsL n X Y O → fine a = true := by
  unfold segsL
  split
  · exact ⟨rfl, fun a h => by cases h⟩
  · have h := run_chain (frs n O) n X Y O (startS n X Y O) n
    rw [run_end n X Y O (by omega)] at h
    exact h
theorem chain_has : ∀ (L M : List Sg) (s h : Int × Int), chain s (L ++ M) s → chain s L h → L ++ M ≠ [] → ∃ a, a ∈ L ++ M ∧ (a.ax, a.ay) = h := by
  intro L M s h hc hl hne
  have hlen : 0 < (L ++ M).length := by
    cases hL : L ++ M with
    | nil => exact absurd hL hne
    | cons a r => simp
  cases L with
  | nil =>
    rw [List.nil_append] at *
    have e : s = h := hl
    subst e
    exact ⟨M[0], List.getElem_mem _, chain_first hc (List.getElem?_eq_getElem hlen)⟩
  | cons x r =>
    generalize hLL : x :: r = L at *
    have hl0 : 0 < L.length := by rw [← hLL]; simp
    have hj : L.length - 1 < (L ++ M).length := by rw [List.length_append]; omega
    have e1 : (L ++ M)[L.length - 1]? = some L[L.length - 1] := by rw [List.getElem?_append_left (by omega), List.getElem?_eq_getElem]
    have e2 := chain_last L s h hl _ (List.getElem?_eq_getElem (by omega))
    have hb : (L.length - 1 + 1) % (L ++ M).length < (L ++ M).length := Nat.mod_lt _ hlen
    have e3 := chain_closes hc e1 (List.getElem?_eq_getElem hb)
    exact ⟨_, List.getElem_mem hb, by rw [← e3, e2]⟩
/-- Each knot on the curve is a piece's beginning, if there is a piece. -/
theorem segs_ends (n : Nat) (X Y : Nat → Int) (O : Nat → Bool) {j : Nat} (hj : j < n) (ho : O j = true) (hne : segsL n X Y O ≠ []) : ∃ a, a ∈ segsL n X Y O ∧ a.ax = X j ∧ a.ay = Y j := by
  have hn : 0 < n := by omega
  have hf : frs n O < n := by unfold frs; split <;> omega
  have hc := (segs_chain n X Y O).1
  -- the step that comes to the knot
  obtain ⟨i, hi, hij⟩ : ∃ i, i < n ∧ (frs n O + i + 1) % n = j := by
    by_cases h : frs n O + 1 ≤ j
    · exact ⟨j - frs n O - 1, by omega, by rw [show frs n O + (j - frs n O - 1) + 1 = j by omega, Nat.mod_eq_of_lt hj]⟩
    · exact ⟨n + j - frs n O - 1, by omega, by rw [show frs n O + (n + j - frs n O - 1) + 1 = j + n by omega, Nat.add_mod_right, Nat.mod_eq_of_lt hj]⟩
  have hs : (runS (frs n O) n X Y O (startS n X Y O) (i + 1)).1 = (X j, Y j) := by
    have h := step_on (frs n O) n X Y O (runS (frs n O) n X Y O (startS n X Y O) i).1 (runS (frs n O) n X Y O (startS n X Y O) i).2 i (by rw [hij]; exact ho)
    rw [hij] at h
    exact h
  have hl := (run_chain (frs n O) n X Y O (startS n X Y O) (i + 1)).1
  obtain ⟨M, hM⟩ := run_pre (frs n O) n X Y O (startS n X Y O) (i + 1) (n - (i + 1))
  rw [show i + 1 + (n - (i + 1)) = n by omega] at hM
  have hL : segsL n X Y O = (runS (frs n O) n X Y O (startS n X Y O) (i + 1)).2 ++ M := by unfold segsL; rw [if_neg (by omega), hM]
  rw [hs] at hl
  rw [hL] at hc hne ⊢
  obtain ⟨a, ha, e⟩ := chain_has _ M _ _ hc hl hne
  injection e with e1 e2
  exact ⟨a, ha, e1, e2⟩
end Go.Proofs.Ytdbenpncnkfliaa
