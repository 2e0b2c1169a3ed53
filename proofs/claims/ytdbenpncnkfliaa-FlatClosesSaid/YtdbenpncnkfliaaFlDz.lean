/-
  Texts of this seat, put together: each with its own head.
-/
import Derived.Test.YtdbenpncnkfliaaFlCz

/-
  Layer 11: a contour's pieces close, and have all knots on the curve as ends: as lists.
-/
namespace Go.Proofs.Ytdbenpncnkfliaa
open Go.RowKit
set_option linter.unusedVariables false

/-- Pieces that lead from one place to another. -/
def chain : (Int × Int) → List Sg → (Int × Int) → Prop
  | s, [], h => s = h
  | s, a :: r, h => (a.ax, a.ay) = s ∧ chain (a.bx, a.bz) r h
theorem chain_snoc (a : Sg) : ∀ (L : List Sg) (s : Int × Int), chain s L (a.ax, a.ay) → chain s (L ++ [a]) (a.bx, a.bz)
  | [], s, h => by
    show (a.ax, a.ay) = s ∧ (a.bx, a.bz) = (a.bx, a.bz)
    exact ⟨h.symm, rfl⟩
  | b :: r, s, h => ⟨h.1, chain_snoc a r _ h.2⟩
theorem chain_add {L : List Sg} {s : Int × Int} (a : Sg) (h : chain s L (a.ax, a.ay)) : chain s (addS L a) (a.bx, a.bz) := by
  unfold addS
  cases ho : sgOk a with
  | true => rw [if_pos rfl]; exact chain_snoc a L s h
  | false =>
    rw [if_neg (by simp)]
    unfold sgOk at ho
    have e : a.ax = a.bx ∧ a.ay = a.bz := by
      by_cases e1 : a.ax = a.bx <;> by_cases e2 : a.ay = a.bz <;> simp_all
    rw [← e.1, ← e.2]
    exact h
theorem chain_mid : ∀ (L : List Sg) (s h : Int × Int), chain s L h → ∀ i a b, L[i]? = some a → L[i + 1]? = some b → (a.bx, a.bz) = (b.ax, b.ay)
  | [], s, h, hc, i, a, b, ha, hb => by simp at ha
  | [x], s, h, hc, i, a, b, ha, hb => by simp at hb
  | x :: y :: r, s, h, hc, 0, a, b, ha, hb => by
    simp only [List.getElem?_cons_zero, Option.some.injEq, List.getElem?_cons_succ] at ha hb
    subst ha hb
    exact hc.2.1.symm
  | x :: y :: r, s, h, hc, i + 1, a, b, ha, hb => by
    rw [List.getElem?_cons_succ] at ha hb
    exact chain_mid (y :: r) _ _ hc.2 i a b ha hb
theorem chain_first {L : List Sg} {s h : Int × Int} (hc : chain s L h) {a : Sg} (ha : L[0]? = some a) : (a.ax, a.ay) = s := by
  cases L with
  | nil => simp at ha
  | cons x r => simp only [List.getElem?_cons_zero, Option.some.injEq] at ha; subst ha; exact hc.1
theorem chain_last : ∀ (L : List Sg) (s h : Int × Int), chain s L h → ∀ a, L[L.length - 1]? = some a → (a.bx, a.bz) = h
  | [], s, h, hc, a, ha => by simp at ha
  | [x], s, h, hc, a, ha => by
    simp only [List.length_cons, List.length_nil, Nat.zero_add, Nat.sub_self, List.getElem?_cons_zero, Option.some.injEq] at ha
    subst ha
    exact hc.2
  | x :: y :: r, s, h, hc, a, ha => by
    refine chain_last (y :: r) _ _ hc.2 a ?_
    rw [← ha]
    simp
/-- Pieces that close: the next one's beginning. -/
theorem chain_closes {L : List Sg} {s : Int × Int} (hc : chain s L s) {i : Nat} {a b : Sg} (ha : L[i]? = some a) (hb : L[(i + 1) % L.length]? = some b) : (a.bx, a.bz) = (b.ax, b.ay) := by
  have hi : i < L.length := by
    rcases Nat.lt_or_ge i L.length with h | h
    · exact h
    · rw [List.getElem?_eq_none h] at ha; cases ha
  by_cases e : i + 1 < L.length
  · rw [Nat.mod_eq_of_lt e] at hb
    exact chain_mid L s s hc i a b ha hb
  · have e2 : i + 1 = L.length := by omega
    rw [e2, Nat.mod_self] at hb
    have e3 : i = L.length - 1 := by omega
    rw [e3] at ha
    rw [chain_last L s s hc a ha, chain_first hc hb]
/-- No piece is a point alone, none that is straight has a control point. -/
def fine (a : Sg) : Bool := sgOk a && (a.k || (a.cx == 0 && a.cy == 0))
theorem fine_add {L : List Sg} (h : ∀ a, a ∈ L → fine a = true) {x : Sg} (hx : x.k = true ∨ (x.cx = 0 ∧ x.cy = 0)) : ∀ a, a ∈ addS L x → fine a = true := by
  unfold addS
  intro a ha
  split at ha
  · rename_i ho
    rw [List.mem_append] at ha
    rcases ha with ha | ha
    · exact h a ha
    · simp only [List.mem_cons, List.not_mem_nil, or_false] at ha
      subst ha
      unfold fine
      rw [ho]
      rcases hx with hx | ⟨h1, h2⟩
      · simp [hx]
      · simp [h1, h2]
  · exact h a ha
section
variable (f n : Nat) (X Y : Nat → Int) (O : Nat → Bool) (st : Int × Int)
theorem run_chain : ∀ i, chain st (runS f n X Y O st i).2 (runS f n X Y O st i).1 ∧ (∀ a, a ∈ (runS f n X Y O st i).2 → fine a = true)
  | 0 => ⟨rfl, fun a h => by simp [runS] at h⟩
  | i + 1 => by
    obtain ⟨h1, h2⟩ := run_chain i
    show chain st (stepS f n X Y O (runS f n X Y O st i).1 (runS f n X Y O st i).2 i).2 (stepS f n X Y O (runS f n X Y O st i).1 (runS f n X Y O st i).2 i).1 ∧ ∀ a, a ∈ (stepS f n X Y O (runS f n X Y O st i).1 (runS f n X Y O st i).2 i).2 → fine a = true
    generalize runS f n X Y O st i = R at *
    obtain ⟨⟨hx, hy⟩, L⟩ := R
    unfold stepS
    simp only at h1 h2 ⊢
    split <;> split
    · exact ⟨chain_add ⟨hx, hy, 0, 0, X ((f + i + 1) % n), Y ((f + i + 1) % n), false⟩ h1, fine_add h2 (.inr ⟨rfl, rfl⟩)⟩
    · exact ⟨h1, h2⟩
    · exact ⟨chain_add ⟨hx, hy, X ((f + i) % n), Y ((f + i) % n), X ((f + i + 1) % n), Y ((f + i + 1) % n), true⟩ h1, fine_add h2 (.inl rfl)⟩
    · exact ⟨chain_add ⟨hx, hy, X ((f + i) % n), Y ((f + i) % n), mid (X ((f + i) % n)) (X ((f + i + 1) % n)), mid (Y ((f + i) % n)) (Y ((f + i + 1) % n)), true⟩ h1, fine_add h2 (.inl rfl)⟩
/-- What is there stays there, at the list's beginning. -/
theorem run_pre : ∀ i d, ∃ M, (runS f n X Y O st (i + d)).2 = (runS f n X Y O st i).2 ++ M
  | i, 0 => ⟨[], by simp⟩
  | i, d + 1 => by
    obtain ⟨M, hM⟩ := run_pre i d
    have hs : ∀ s, ∃ M', addS (runS f n X Y O st (i + d)).2 s = (runS f n X Y O st i).2 ++ M' := fun s => by
      unfold addS
      split
      · exact ⟨M ++ [s], by rw [hM, List.append_assoc]⟩
      · exact ⟨M, hM⟩
    show ∃ M', (stepS f n X Y O (runS f n X Y O st (i + d)).1 (runS f n X Y O st (i + d)).2 (i + d)).2 = _ ++ M'
    unfold stepS
    split <;> split
    · exact hs _
    · exact ⟨M, hM⟩
    · exact hs _
    · exact hs _
end
/-- Where the way is behind a step to a knot on the curve. -/
theorem step_on (f n : Nat) (X Y : Nat → Int) (O : Nat → Bool) (h : Int × Int) (L : List Sg) (i : Nat) (ho : O ((f + i + 1) % n) = true) : (stepS f n X Y O h L i).1 = (X ((f + i + 1) % n), Y ((f + i + 1) % n)) := by
  unfold stepS
  rw [ho]
  split <;> rfl
theorem run_end (n : Nat) (X Y : Nat → Int) (O : Nat → Bool) (hn : 0 < n) : (runS (frs n O) n X Y O (startS n X Y O) n).1 = startS n X Y O := by
  obtain ⟨m, rfl⟩ : ∃ m, n = m + 1 := ⟨n - 1, by omega⟩
  have hfo := firstOn_is O (m + 1)
  have hf : frs (m + 1) O < m + 1 := by unfold frs; split <;> omega
  have em : (frs (m + 1) O + m + 1) % (m + 1) = frs (m + 1) O := by rw [Nat.add_assoc, Nat.add_mod_right, Nat.mod_eq_of_lt hf]
  show (stepS (frs (m + 1) O) (m + 1) X Y O (runS (frs (m + 1) O) (m + 1) X Y O (startS (m + 1) X Y O) m).1 (runS (frs (m + 1) O) (m + 1) X Y O (startS (m + 1) X Y O) m).2 m).1 = _
  by_cases hlt : firstOn O (m + 1) < m + 1
  · have ef : frs (m + 1) O = firstOn O (m + 1) := by unfold frs; rw [if_pos hlt]
    have eo : O (frs (m + 1) O) = true := by rw [ef]; exact hfo.2.2 hlt
    rw [step_on _ _ _ _ _ _ _ _ (by rw [em]; exact eo), em, ef]
    unfold startS
    rw [if_pos hlt]
  · have ef : frs (m + 1) O = 0 := by unfold frs; rw [if_neg hlt]
    have eo : O 0 = false := hfo.2.1 0 (by omega)
    have el : (frs (m + 1) O + m) % (m + 1) = m := by rw [ef, Nat.zero_add, Nat.mod_eq_of_lt (by omega)]
    have eo' : O m = false := hfo.2.1 m (by omega)
    unfold stepS startS
    rw [el, em, ef, eo, eo', if_neg hlt]
    rfl
/-- The pieces close. -/
theorem segs_chain (n : Nat) (X Y : Nat → Int) (O : Nat → Bool) : chain (startS n X Y O) (segsL n X Y O) (startS n X Y O) ∧ ∀ a, a ∈ segsL n X Y O → fine a = true := by
  unfold segsL
  split
  · exact ⟨rfl, fun a h => by cases h⟩
  · have h := run_chain (frs n O) n X Y O (startS n X Y O) n
    rw [run_end n X Y O (by omega)] at h
    exact h
theorem chain_has : ∀ (L M : List Sg) (s h : Int × Int), chain s (L ++ M) s → chain s L h → L ++ M ≠ [] → ∃ a, a ∈ L ++ M ∧ (a.ax, a.ay) = h := by
  intro L M s h hc hl hne
  have hlen : 0 < (L ++ M).length := by
    cases hL : L ++ M with
    | nil => exact absurd hL hne
    | cons a r => simp
  cases L with
  | nil =>
    rw [List.nil_append] at *
    have e : s = h := hl
    subst e
    exact ⟨M[0], List.getElem_mem _, chain_first hc (List.getElem?_eq_getElem hlen)⟩
  | cons x r =>
    generalize hLL : x :: r = L at *
    have hl0 : 0 < L.length := by rw [← hLL]; simp
    have hj : L.length - 1 < (L ++ M).length := by rw [List.length_append]; omega
    have e1 : (L ++ M)[L.length - 1]? = some L[L.length - 1] := by rw [List.getElem?_append_left (by omega), List.getElem?_eq_getElem]
    have e2 := chain_last L s h hl _ (List.getElem?_eq_getElem (by omega))
    have hb : (L.length - 1 + 1) % (L ++ M).length < (L ++ M).length := Nat.mod_lt _ hlen
    have e3 := chain_closes hc e1 (List.getElem?_eq_getElem hb)
    exact ⟨_, List.getElem_mem hb, by rw [← e3, e2]⟩
/-- Each knot on the curve is a piece's beginning, if there is a piece. -/
theorem segs_ends (n : Nat) (X Y : Nat → Int) (O : Nat → Bool) {j : Nat} (hj : j < n) (ho : O j = true) (hne : segsL n X Y O ≠ []) : ∃ a, a ∈ segsL n X Y O ∧ a.ax = X j ∧ a.ay = Y j := by
  have hn : 0 < n := by omega
  have hf : frs n O < n := by unfold frs; split <;> omega
  have hc := (segs_chain n X Y O).1
  -- the step that comes to the knot
  obtain ⟨i, hi, hij⟩ : ∃ i, i < n ∧ (frs n O + i + 1) % n = j := by
    by_cases h : frs n O + 1 ≤ j
    · exact ⟨j - frs n O - 1, by omega, by rw [show frs n O + (j - frs n O - 1) + 1 = j by omega, Nat.mod_eq_of_lt hj]⟩
    · exact ⟨n + j - frs n O - 1, by omega, by rw [show frs n O + (n + j - frs n O - 1) + 1 = j + n by omega, Nat.add_mod_right, Nat.mod_eq_of_lt hj]⟩
  have hs : (runS (frs n O) n X Y O (startS n X Y O) (i + 1)).1 = (X j, Y j) := by
    have h := step_on (frs n O) n X Y O (runS (frs n O) n X Y O (startS n X Y O) i).1 (runS (frs n O) n X Y O (startS n X Y O) i).2 i (by rw [hij]; exact ho)
    rw [hij] at h
    exact h
  have hl := (run_chain (frs n O) n X Y O (startS n X Y O) (i + 1)).1
  obtain ⟨M, hM⟩ := run_pre (frs n O) n X Y O (startS n X Y O) (i + 1) (n - (i + 1))
  rw [show i + 1 + (n - (i + 1)) = n by omega] at hM
  have hL : segsL n X Y O = (runS (frs n O) n X Y O (startS n X Y O) (i + 1)).2 ++ M := by unfold segsL; rw [if_neg (by omega), hM]
  rw [hs] at hl
  rw [hL] at hc hne ⊢
  obtain ⟨a, ha, e⟩ := chain_has _ M _ _ hc hl hne
  injection e with e1 e2
  exact ⟨a, ha, e1, e2⟩
end Go.Proofs.Ytdbenpncnkfliaa

/-
  Layer 14: a piece gone the other way has the same lines, gone the other way; lines close.
-/
namespace Go.Proofs.Ytdbenpncnkfliaa
open Go.RowKit Go.ChangeShapes Go.WideShapes Go.Deep
set_option linter.unusedVariables false

def flipL (l : Lq) : Lq := ⟨l.bx, l.bz, l.ax, l.ay⟩
/-- The line between two points, if they differ. -/
def lineO (p q : Pq) : Option Lq := if p.x == q.x && p.y == q.y then none else some ⟨p.x, p.y, q.x, q.y⟩
theorem lineO_flip (p q : Pq) : lineO q p = (lineO p q).map flipL := by
  unfold lineO
  have e : (q.x == p.x && q.y == p.y) = (p.x == q.x && p.y == q.y) := by
    rw [Bool.eq_iff_iff]
    simp only [Bool.and_eq_true, beq_iff_eq]
    exact ⟨fun h => ⟨h.1.symm, h.2.symm⟩, fun h => ⟨h.1.symm, h.2.symm⟩⟩
  rw [e]
  split <;> rfl
theorem way_range (s : Sg) : ∀ k, lnsP (ptsN s (stN s) (k + 1)) = (List.range k).filterMap fun i => lineO (rndP s (stN s) i) (rndP s (stN s) (i + 1))
  | 0 => by simp [ptsN, addP, lnsP]
  | k + 1 => by
    have ih := way_range s k
    have h1 := way_pts s [] k
    have h2 := way_pts s [] (k + 1)
    have e : wayPN s [] (k + 1 + 1) = (addL (wayPN s [] (k + 1)).1 (wayPN s [] (k + 1)).2 (rndP s (stN s) (k + 1)), rndP s (stN s) (k + 1)) := rfl
    rw [h1.1] at e
    rw [h2.1] at e
    have e2 := congrArg Prod.fst e
    simp only [List.nil_append] at e2
    rw [e2, List.range_succ, List.filterMap_append, ← ih]
    unfold addL
    simp only [List.filterMap_cons, List.filterMap_nil, lineO]
    split
    · simp
    · rfl
def lnsS (s : Sg) : List Lq := lnsP (ptsOf s)
theorem lnsS_range (s : Sg) : lnsS s = (List.range (2 ^ stN s)).filterMap fun i => lineO (rndP s (stN s) i) (rndP s (stN s) (i + 1)) := way_range s _
theorem inR_flip (s : Sg) : inR (flipS s) = inR s := by
  unfold inR flipS
  simp only
  rw [Bool.and_comm (goodB s.bx s.bz)]
theorem ben_back (a c b : Int) : ben b c a = ben a c b := by unfold ben; rw [show b - 2 * c + a = a - 2 * c + b by omega]
theorem stN_flip (s : Sg) : stN (flipS s) = stN s := by
  unfold stN bendI
  rw [inR_flip]
  unfold flipS
  simp only [ben_back]
theorem crv_back (A C B i j : Int) : curveI B C A i j = curveI A C B j i := by unfold curveI; grind
theorem lin_back (A B i j p : Int) : lineI B A i j p = lineI A B j i p := by unfold lineI; rw [Int.add_comm]
theorem rnd_flip (s : Sg) (n k : Nat) (hk : k ≤ 2 ^ n) : rndP (flipS s) n k = rndP s n (2 ^ n - k) := by
  have e2 : (2 : Int) ^ n = ((2 ^ n : Nat) : Int) := by simp
  have e3 : ((2 ^ n - k : Nat) : Int) = ((2 ^ n : Nat) : Int) - k := by omega
  have hx : ∀ A C B : Int, atI (flipS s) B C A k n = atI s A C B ((2 ^ n - k : Nat) : Int) n := fun A C B => by
    unfold atI
    have : (flipS s).k = s.k := rfl
    rw [this, Int.toNat_natCast, e2, e3, show ((2 ^ n : Nat) : Int) - (((2 ^ n : Nat) : Int) - k) = (k : Int) by omega, crv_back, lin_back]
  unfold rndP
  have h1 : atX (flipS s) k n = atX s ((2 ^ n - k : Nat) : Int) n := hx s.ax s.cx s.bx
  have h2 : atY (flipS s) k n = atY s ((2 ^ n - k : Nat) : Int) n := hx s.ay s.cy s.bz
  rw [h1, h2]
theorem filterMap_congr' {α β : Type} {f g : α → Option β} : ∀ {l : List α}, (∀ a ∈ l, f a = g a) → l.filterMap f = l.filterMap g
  | [], _ => rfl
  | a :: l, h => by
    rw [List.filterMap_cons, List.filterMap_cons, h a (by simp), filterMap_congr' (fun b hb => h b (by simp [hb]))]
theorem lnsS_flip (s : Sg) : (lnsS (flipS s)).Perm ((lnsS s).map flipL) := by
  rw [lnsS_range, lnsS_range, stN_flip]
  generalize hn : stN s = n
  generalize hm : 2 ^ n = m
  have e1 : (List.range m).filterMap (fun i => lineO (rndP (flipS s) n i) (rndP (flipS s) n (i + 1))) = ((List.range m).map (fun j => m - 1 - j)).filterMap fun j => (lineO (rndP s n j) (rndP s n (j + 1))).map flipL := by
    rw [List.filterMap_map]
    refine filterMap_congr' fun i hi => ?_
    have hi' : i < m := by simpa using hi
    rw [rnd_flip s n i (by omega), rnd_flip s n (i + 1) (by omega), hm]
    show _ = (lineO (rndP s n (m - 1 - i)) (rndP s n (m - 1 - i + 1))).map flipL
    rw [← lineO_flip, show m - 1 - i + 1 = m - i by omega, show m - (i + 1) = m - 1 - i by omega]
  rw [e1, List.map_filterMap]
  exact (rev_perm m).filterMap _
theorem flatMap_perm {α β : Type} {f g : α → List β} : ∀ (l : List α), (∀ a ∈ l, (f a).Perm (g a)) → (l.flatMap f).Perm (l.flatMap g)
  | [], _ => List.Perm.refl _
  | a :: l, h => by
    rw [List.flatMap_cons, List.flatMap_cons]
    exact (h a (by simp)).append (flatMap_perm l (fun b hb => h b (by simp [hb])))
theorem perm_flatMap {α β : Type} (f : α → List β) {l l' : List α} (h : l.Perm l') : (l.flatMap f).Perm (l'.flatMap f) := by
  induction h with
  | nil => exact List.Perm.refl _
  | cons a _ ih => rw [List.flatMap_cons, List.flatMap_cons]; exact ih.append_left _
  | swap a b l =>
    simp only [List.flatMap_cons]
    rw [← List.append_assoc, ← List.append_assoc]
    exact List.Perm.append_right _ List.perm_append_comm
  | trans _ _ h1 h2 => exact h1.trans h2
theorem allL_flip (S : List Sg) : (allL (S.map flipS)).Perm ((allL S).map flipL) := by
  unfold allL
  rw [List.flatMap_map, List.map_flatMap]
  exact flatMap_perm S fun s _ => lnsS_flip s
theorem sgs_rev (L : List Kt) : (sgsK L.reverse).Perm ((sgsK L).map flipS) := by
  have h := segs_rev L.reverse
  rw [List.reverse_reverse] at h
  have e : fb true = flipS := by funext s; rfl
  rw [e] at h
  unfold sgsK
  rw [List.length_reverse] at h ⊢
  exact h
theorem allL_sgsO (LL : List (List Kt)) : allL (sgsO LL) = LL.flatMap fun L => allL (sgsK L) := by
  unfold sgsO allL
  rw [List.flatMap_assoc]
theorem lines_flip (LL : List (List Kt)) : (allL (sgsO (LL.map List.reverse))).Perm ((allL (sgsO LL)).map flipL) := by
  rw [allL_sgsO, allL_sgsO, List.flatMap_map, List.map_flatMap]
  refine flatMap_perm LL fun L _ => ?_
  refine List.Perm.trans (perm_flatMap (fun s => lnsP (ptsOf s)) (sgs_rev L)) ?_
  exact allL_flip (sgsK L)
theorem sum_rev (LL : List (List Kt)) : sumL (LL.map List.reverse) = sumL LL := by
  unfold sumL
  rw [List.map_map]
  congr 1
  refine List.map_congr_left fun L _ => ?_
  simp
theorem good_rev (LL : List (List Kt)) : (LL.map List.reverse).all goodK = LL.all goodK := by
  rw [List.all_map]
  congr 1
  funext L
  unfold goodK
  simp
theorem linesE_flip (LL : List (List Kt)) : linesE (LL.map List.reverse) = linesE LL := by
  unfold linesE
  rw [sum_rev, good_rev, (lines_flip LL).length_eq, List.length_map]
theorem linesL_flip (LL : List (List Kt)) : (linesL (LL.map List.reverse)).Perm ((linesL LL).map flipL) := by
  unfold linesL
  rw [linesE_flip]
  split
  · exact lines_flip LL
  · exact List.Perm.refl _
/-- What a line counts at a point. -/
def wtL (p : Pq) (y : Lq) : Int := (if y.ax = p.x ∧ y.ay = p.y then 1 else 0) - (if y.bx = p.x ∧ y.bz = p.y then 1 else 0)
def sumW (p : Pq) (L : List Lq) : Int := (L.map (wtL p)).sum
theorem sumW_append (p : Pq) (L M : List Lq) : sumW p (L ++ M) = sumW p L + sumW p M := by unfold sumW; rw [List.map_append, List.sum_append]
theorem cntJ_sum (L : List Lq) (p : Pq) : ∀ k, k ≤ L.length → cntJ L p k = sumW p (L.take k)
  | 0, _ => by simp [cntJ, sumW]
  | k + 1, h => by
    have hk : k < L.length := h
    have e : L[k]? = some L[k] := List.getElem?_eq_getElem hk
    rw [cntJ_step L p k _ e, cntJ_sum L p k (by omega), List.take_succ_eq_append_getElem hk, sumW_append]
    unfold sumW wtL
    simp
    omega
theorem cntL_sum (L : List Lq) (p : Pq) : cntL L p = sumW p L := by
  unfold cntL
  rw [cntJ_sum L p _ (Nat.le_refl _), List.take_length]
def atP (p q : Pq) : Int := if q.x = p.x ∧ q.y = p.y then 1 else 0
theorem sum_lns (p : Pq) : ∀ (P : List Pq) (a z : Pq), P.head? = some a → P.getLast? = some z → sumW p (lnsP P) = atP p a - atP p z
  | [], a, z, h, _ => by simp at h
  | [x], a, z, h, h' => by
    simp at h h'
    subst h h'
    simp [lnsP, sumW]
  | x :: y :: r, a, z, h, h' => by
    simp only [List.head?_cons, Option.some.injEq] at h
    subst h
    have ih := sum_lns p (y :: r) y z rfl (by rw [← h', List.getLast?_cons_cons])
    have e : sumW p (lnsP (x :: y :: r)) = wtL p ⟨x.x, x.y, y.x, y.y⟩ + sumW p (lnsP (y :: r)) := by simp [lnsP, sumW]
    rw [e, ih]
    unfold wtL atP
    simp only
    omega
theorem addP_head {L : List Pq} {p a : Pq} (h : L.head? = some a) : (addP L p).head? = some a := by
  rw [addP_eq]
  split
  · cases L with
    | nil => simp at h
    | cons x r => simpa using h
  · exact h
theorem pts_head (s : Sg) : ∀ k, (ptsN s (stN s) (k + 1)).head? = some ⟨s.ax, s.ay⟩
  | 0 => by
    have h := rnd0 s (stN s) (stN_le s)
    simp [ptsN, addP, h]
  | k + 1 => addP_head (pts_head s k)
theorem sum_lnsS (p : Pq) (s : Sg) : sumW p (lnsP (ptsOf s)) = atP p ⟨s.ax, s.ay⟩ - atP p ⟨s.bx, s.bz⟩ := by
  refine sum_lns p (ptsOf s) _ _ (pts_head s _) ?_
  unfold ptsOf
  rw [(way_pts s [] _).2, rndE s _ (stN_le s)]
theorem sum_chain (p : Pq) : ∀ (S : List Sg) (a z : Int × Int), chain a S z → sumW p (allL S) = atP p ⟨a.1, a.2⟩ - atP p ⟨z.1, z.2⟩
  | [], a, z, h => by
    have h : a = z := h
    subst h
    simp [allL, sumW]
  | s :: S, a, z, h => by
    obtain ⟨h1, h2⟩ := h
    rw [allL_cons, sumW_append, sum_lnsS, sum_chain p S _ z h2]
    subst h1
    simp only
    omega
theorem sum_sgsK (p : Pq) (L : List Kt) : sumW p (allL (sgsK L)) = 0 := by
  have h := (segs_chain L.length (fxL L) (fyL L) (foL L)).1
  have := sum_chain p (sgsK L) _ _ h
  omega
theorem sum_sgsO (p : Pq) : ∀ LL : List (List Kt), sumW p (allL (sgsO LL)) = 0
  | [] => by simp [sgsO, allL, sumW]
  | L :: LL => by
    have e : sgsO (L :: LL) = sgsK L ++ sgsO LL := by simp [sgsO]
    rw [e, allL_append, sumW_append, sum_sgsK, sum_sgsO p LL]
    omega
/-- An outline's lines are closed. -/
theorem lines_closed (LL : List (List Kt)) : closedB (linesL LL) = true := by
  refine closed_all _ fun j x hx => ?_
  have h : ∀ p, cntL (linesL LL) p = 0 := fun p => by
    rw [cntL_sum]
    unfold linesL
    split
    · exact sum_sgsO p LL
    · rfl
  unfold chkL
  simp [h]
/-- Each of them lies between what its knots lie between, and is no point alone. -/
theorem lines_in (LL : List (List Kt)) (x0 y0 x1 y1 : Int) (h : ∀ L ∈ LL, ∀ k ∈ L, (x0 ≤ k.x ∧ k.x ≤ x1) ∧ (y0 ≤ k.y ∧ k.y ≤ y1)) : ∀ l ∈ linesL LL, ((x0 ≤ l.ax ∧ l.ax ≤ x1) ∧ (y0 ≤ l.ay ∧ l.ay ≤ y1)) ∧ ¬ (l.ax = l.bx ∧ l.ay = l.bz) := by
  intro l hl
  unfold linesL at hl
  split at hl
  · rw [allL_sgsO, List.mem_flatMap] at hl
    obtain ⟨L, hL, hl⟩ := hl
    unfold allL at hl
    rw [List.mem_flatMap] at hl
    obtain ⟨s, hs, hl⟩ := hl
    have hl : l ∈ lnsS s := hl
    rw [lnsS_range, List.mem_filterMap] at hl
    obtain ⟨i, hi, hl⟩ := hl
    have hi' : i < 2 ^ stN s := by simpa using hi
    have hG := segs_all (G := fun x y => (x0 ≤ x ∧ x ≤ x1) ∧ (y0 ≤ y ∧ y ≤ y1)) (fun x y u v h1 h2 => by unfold mid; omega) (n := L.length) (X := fxL L) (Y := fyL L) (O := foL L) (fun j hj => by
      have e : L.getD j Kz = L[j] := by rw [List.getD_eq_getElem?_getD, List.getElem?_eq_getElem hj]; rfl
      unfold fxL fyL
      rw [e]
      exact h L hL _ (List.getElem_mem hj)) s hs
    obtain ⟨g1, g2, g3, _⟩ := hG
    have b1 := rnd_between s s.ax s.cx s.bx x0 x1 (stN s) i (by have := stN_le s; omega) (by omega) g1.1.1 g2.1.1 (fun h => (g3 h).1.1) g1.1.2 g2.1.2 (fun h => (g3 h).1.2)
    have b2 := rnd_between s s.ay s.cy s.bz y0 y1 (stN s) i (by have := stN_le s; omega) (by omega) g1.2.1 g2.2.1 (fun h => (g3 h).2.1) g1.2.2 g2.2.2 (fun h => (g3 h).2.2)
    unfold lineO at hl
    split at hl
    · cases hl
    · rename_i hne
      injection hl with hl
      subst hl
      refine ⟨⟨b1, b2⟩, fun hh => hne ?_⟩
      simp only [Bool.and_eq_true, beq_iff_eq]
      exact hh
  · cases hl
theorem rnd_tny' (s : Sg) (hr : inR s = true) (n k : Nat) (hn : n ≤ 10) (hk : k ≤ 2 ^ n) : Tny (rndP s n k).x ∧ Tny (rndP s n k).y := by
  obtain ⟨h1, h2, h3⟩ := inR_parts hr
  unfold Tny at *
  exact ⟨rnd_between s s.ax s.cx s.bx (-4194304) 4194304 n k hn hk h1.1.1 h2.1.1 (fun h => (h3 h).1.1) h1.1.2 h2.1.2 (fun h => (h3 h).1.2), rnd_between s s.ay s.cy s.bz (-4194304) 4194304 n k hn hk h1.2.1 h2.2.1 (fun h => (h3 h).2.1) h1.2.2 h2.2.2 (fun h => (h3 h).2.2)⟩
end Go.Proofs.Ytdbenpncnkfliaa

/-
  Layer 14: the reference's 'Times', walked.
-/
namespace Go.Proofs.Ytdbenpncnkfliaa
open Go.RowKit Go.ChangeShapes Go.WideShapes Go.Deep
set_option linter.unusedVariables false

def eqL (y x : Lq) : Bool := (y.ax == x.ax && y.ay == x.ay) && (y.bx == x.bx && y.bz == x.bz)
def timesL (L : List Lq) (x : Lq) : Nat := L.countP fun y => eqL y x
theorem times_le (L : List Lq) (x : Lq) : timesL L x ≤ L.length := List.countP_le_length
theorem times_take {L : List Lq} {j : Nat} {y : Lq} (h : L[j]? = some y) (x : Lq) : timesL (L.take (j + 1)) x = timesL (L.take j) x + (if eqL y x then 1 else 0) := by
  have hj : j < L.length := by
    rcases Nat.lt_or_ge j L.length with h' | h'
    · exact h'
    · rw [List.getElem?_eq_none h'] at h; cases h
  have e : L[j] = y := by rw [List.getElem?_eq_getElem hj] at h; simpa using h
  unfold timesL
  rw [List.take_succ_eq_append_getElem hj, e, List.countP_append]
  simp [List.countP_cons]
theorem times_flip {L M : List Lq} (h : M.Perm (L.map flipL)) (x : Lq) : timesL M (flipL x) = timesL L x := by
  unfold timesL
  rw [h.countP_eq, List.countP_map]
  congr 1
  funext y
  unfold Function.comp eqL flipL
  simp only
  rw [Bool.and_comm]
theorem eqL_cases (a b c d x y z u : Int) : (a = x ∧ b = y ∧ c = z ∧ d = u) ∨ (a = x ∧ b = y ∧ c = z ∧ d ≠ u) ∨ (a = x ∧ b = y ∧ c ≠ z) ∨ (a = x ∧ b ≠ y) ∨ a ≠ x := by
  by_cases h1 : a = x <;> by_cases h2 : b = y <;> by_cases h3 : c = z <;> by_cases h4 : d = u <;> simp_all
set_option maxRecDepth 100000 in
set_option maxHeartbeats 16000000 in
theorem rf_times (A : Option Addr) (L : List Lq) (c : Nat) (x : Lq) (w : World) (h : RdG 4 lnL w w.heap.size A L) (hL : L.length ≤ 1000000) :
    Calls Try.prog 41 #[.slice A L.length c, .agg #[.int .i64 x.ax, .int .i64 x.ay, .int .i64 x.bx, .int .i64 x.bz]] w fun e w' => e = .returned (.int .i64 ((timesL L x : Nat) : Int)) ∧ Since w w' := by
  obtain ⟨n, hn⟩ : ∃ n, n = L.length := ⟨_, rfl⟩
  rw [← hn] at hL ⊢
  have H := Lib.hid h
  have HN := Lib.hid hn
  clear h hn
  obtain ⟨x0, x1, x2, x3⟩ := x
  simp only
  go_enter Try.func41, Try.ntmps41
  go_wp2_with fail
  refine wp_named fun w0 hw0 => ?_
  have hS0 : Since w w0 := by subst hw0; (repeat (first | with_reducible (exact Since.refl _) | with_reducible assumption | with_reducible (refine Since.drew ?_) | with_reducible (refine Since.drewN ?_ _) | with_reducible (refine Since.alloc ?_ _) | (with_reducible (refine Since.setCell ?_ ?_ _); rotate_left; focus (first | (simp; done) | (simp; omega) | omega)) | (with_reducible (refine Since.trans ?_ (by with_reducible assumption)))))
  have p0 : w0.cell? ⟨w.heap.size, 0, none⟩ = some (.int .i64 x0) := by subst hw0; simp
  have p1 : w0.cell? ⟨w.heap.size, 1, none⟩ = some (.int .i64 x1) := by subst hw0; simp
  have p2 : w0.cell? ⟨w.heap.size, 2, none⟩ = some (.int .i64 x2) := by subst hw0; simp
  have p3 : w0.cell? ⟨w.heap.size, 3, none⟩ = some (.int .i64 x3) := by subst hw0; simp
  have hq : w.heap.size < w0.heap.size := by subst hw0; simp
  clear hw0
  obtain ⟨q, hqq⟩ : ∃ q, q = w.heap.size := ⟨_, rfl⟩
  rw [← hqq] at p0 p1 p2 p3 hq ⊢
  clear hqq
  go_loopw [5, 10] (fun v y wr => ∃ j : Nat, j ≤ n ∧ y = .int .i64 (j : Int) ∧ v = .int .i64 ((timesL (L.take j) ⟨x0, x1, x2, x3⟩ : Nat) : Int) ∧ Since w0 wr) (fun _ y _ => n - (intOf y).toNat)
  case atStart => exact ⟨0, by omega, rfl, by simp [timesL], Since.refl _⟩
  case round =>
    obtain ⟨j, hj, rfl, rfl, hS⟩ := hrel
    have g0 := (hS.1 _ _ hq).trans p0
    have g1 := (hS.1 _ _ hq).trans p1
    have g2 := (hS.1 _ _ hq).trans p2
    have g3 := (hS.1 _ _ hq).trans p3
    have hqr := hS.2.2.1 _ hq
    have HSX := Lib.hid hS
    by_cases hjn : j < n
    · have hjn' : (j : Int) < n := by omega
      have hp : L[j]? = some (L[j]'(by rw [← HN.out]; omega)) := List.getElem?_eq_getElem _
      generalize L[j]'(by rw [← HN.out]; omega) = y at *
      have hnn := HN.out
      obtain ⟨bp, op, rfl, hbp, hcp⟩ := H.out (by omega)
      have hSw := hS0.trans hS
      have d0 := (hSw.1 _ _ hbp).trans (hcp j y hp 0 (by omega))
      have d1 := (hSw.1 _ _ hbp).trans (hcp j y hp 1 (by omega))
      have d2 := (hSw.1 _ _ hbp).trans (hcp j y hp 2 (by omega))
      have d3 := (hSw.1 _ _ hbp).trans (hcp j y hp 3 (by omega))
      simp only [lnL, List.getD_cons_succ, List.getD_cons_zero, Nat.add_zero] at d0 d1 d2 d3
      have hst := times_take hp ⟨x0, x1, x2, x3⟩
      have hle : timesL (L.take j) ⟨x0, x1, x2, x3⟩ ≤ 1000000 := by
        have := times_le (L.take j) ⟨x0, x1, x2, x3⟩
        rw [List.length_take] at this
        omega
      generalize timesL (L.take j) ⟨x0, x1, x2, x3⟩ = T at *
      have z4 : IntKind.i64.wrap ((j : Int) + 1) = (j : Int) + 1 := IntWalk.i64_in _ (by omega)
      have z5 : IntKind.i64.wrap ((T : Int) + 1) = (T : Int) + 1 := IntWalk.i64_in _ (by omega)
      obtain ⟨y0, y1, y2, y3⟩ := y
      simp only at d0 d1 d2 d3
      unfold eqL at hst
      simp only at hst
      clear hcp hp hnn hSw p0 p1 p2 p3 hS
      rcases eqL_cases y0 y1 y2 y3 x0 x1 x2 x3 with ⟨rfl, rfl, rfl, rfl⟩ | ⟨rfl, rfl, rfl, e⟩ | ⟨rfl, rfl, e⟩ | ⟨rfl, e⟩ | e
      · have hst : timesL (L.take (j + 1)) ⟨y0, y1, y2, y3⟩ = T + 1 := by simpa using hst
        have HST := Lib.hid hst
        clear hst
        go_wp2_with fail
        go_roundw
        case rel => exact ⟨j + 1, by omega, by go_num, by rw [HST.out]; go_num, HSX.out.alloc _⟩
        case measure => simp [intOf]; omega
      · have f1 : (y3 == x3) = false := by simp [e]
        have f2 : (x3 == y3) = false := by simp; exact fun h => e h.symm
        rw [f1] at hst
        have hst : timesL (L.take (j + 1)) ⟨y0, y1, y2, x3⟩ = T := by simpa using hst
        have HST := Lib.hid hst
        clear hst
        go_wp2_with fail
        go_roundw
        case rel => exact ⟨j + 1, by omega, by go_num, by rw [HST.out], HSX.out.alloc _⟩
        case measure => simp [intOf]; omega
      · have f1 : (y2 == x2) = false := by simp [e]
        have f2 : (x2 == y2) = false := by simp; exact fun h => e h.symm
        rw [f1] at hst
        have hst : timesL (L.take (j + 1)) ⟨y0, y1, x2, x3⟩ = T := by simpa using hst
        have HST := Lib.hid hst
        clear hst
        go_wp2_with fail
        go_roundw
        case rel => exact ⟨j + 1, by omega, by go_num, by rw [HST.out], HSX.out.alloc _⟩
        case measure => simp [intOf]; omega
      · have f1 : (y1 == x1) = false := by simp [e]
        have f2 : (x1 == y1) = false := by simp; exact fun h => e h.symm
        rw [f1] at hst
        have hst : timesL (L.take (j + 1)) ⟨y0, x1, x2, x3⟩ = T := by simpa using hst
        have HST := Lib.hid hst
        clear hst
        go_wp2_with fail
        go_roundw
        case rel => exact ⟨j + 1, by omega, by go_num, by rw [HST.out], HSX.out.alloc _⟩
        case measure => simp [intOf]; omega
      · have f1 : (y0 == x0) = false := by simp [e]
        have f2 : (x0 == y0) = false := by simp; exact fun h => e h.symm
        rw [f1] at hst
        have hst : timesL (L.take (j + 1)) ⟨x0, x1, x2, x3⟩ = T := by simpa using hst
        have HST := Lib.hid hst
        clear hst
        go_wp2_with fail
        go_roundw
        case rel => exact ⟨j + 1, by omega, by go_num, by rw [HST.out], HSX.out.alloc _⟩
        case measure => simp [intOf]; omega
    · obtain rfl : j = n := by omega
      have e : L.take j = L := by rw [HN.out]; exact List.take_length
      rw [e]
      go_wp2_with fail
      go_ret
      exact ⟨rfl, hS0.trans HSX.out⟩
end Go.Proofs.Ytdbenpncnkfliaa

/-
  Layer 14: the box of an outline's knots, walked.
-/
namespace Go.Proofs.Ytdbenpncnkfliaa
open Go.RowKit Go.ChangeShapes Go.WideShapes Go.Deep
set_option linter.unusedVariables false

theorem ptf_set2 {w : World} {b : Nat} {x0 y0 : Int} (h : PtF w b x0 y0) (x y : Int) : PtF ((w.setCell ⟨b, 0, none⟩ (.int .i64 x)).setCell ⟨b, 1, none⟩ (.int .i64 y)) b x y := by
  obtain ⟨⟨h1, h2, h3⟩, hf⟩ := h
  refine ⟨⟨?_, ?_, by simpa [World.setCell] using h3⟩, fun j => (World.frozen?_setCell _ _ _ _).trans ((World.frozen?_setCell _ _ _ _).trans (hf j))⟩
  · rw [cell_set, if_neg (by omega), cell_set, if_pos ⟨rfl, rfl⟩, h1]; rfl
  · rw [cell_set, if_pos ⟨rfl, rfl⟩, cell_set, if_neg (by omega), h2]; rfl
/-- What is known of the box about the knots so far. -/
def BoxOf (S : List Kt) (fst : Bool) (ax ay bx bz : Int) : Prop := (fst = false → ∀ k ∈ S, (ax ≤ k.x ∧ k.x ≤ bx) ∧ (ay ≤ k.y ∧ k.y ≤ bz)) ∧ (fst = true → S = [])
theorem BoxOf.one {S : List Kt} {ax ay bx bz : Int} (h : BoxOf S true ax ay bx bz) (k : Kt) : BoxOf (S ++ [k]) false (mi k.x k.x) (mi k.y k.y) (ma k.x k.x) (ma k.y k.y) := by
  rw [h.2 rfl]
  refine ⟨fun _ k' hk' => ?_, fun h => by cases h⟩
  simp only [List.nil_append, List.mem_singleton] at hk'
  subst hk'
  unfold mi ma
  simp
theorem BoxOf.more {S : List Kt} {ax ay bx bz : Int} (h : BoxOf S false ax ay bx bz) (k : Kt) : BoxOf (S ++ [k]) false (mi ax k.x) (mi ay k.y) (ma bx k.x) (ma bz k.y) := by
  refine ⟨fun _ k' hk' => ?_, fun h => by cases h⟩
  rcases List.mem_append.1 hk' with hk' | hk'
  · obtain ⟨⟨h1, h2⟩, h3, h4⟩ := h.1 rfl k' hk'
    unfold mi ma
    refine ⟨⟨?_, ?_⟩, ?_, ?_⟩ <;> split <;> omega
  · simp only [List.mem_singleton] at hk'
    subst hk'
    unfold mi ma
    refine ⟨⟨?_, ?_⟩, ?_, ?_⟩ <;> split <;> omega
def BoxOut (w : World) (LL : List (List Kt)) (e : Ending) (w' : World) : Prop := ∃ ax ay bx bz : Int, e = .returned (.tuple #[.agg #[.int .i64 ax, .int .i64 ay], .agg #[.int .i64 bx, .int .i64 bz]]) ∧ (∀ L ∈ LL, ∀ k ∈ L, (ax ≤ k.x ∧ k.x ≤ bx) ∧ (ay ≤ k.y ∧ k.y ≤ bz)) ∧ Since w w'
set_option maxRecDepth 100000 in
set_option maxHeartbeats 16000000 in
theorem rf_box7 (A : Option Addr) (c : Nat) (LL : List (List Kt)) (w : World) (h : RdOL w w.heap.size A LL) (hn : LL.length ≤ 600) (hm : ∀ L, L ∈ LL → L.length ≤ 5000) :
    Calls Try.prog 40 #[.slice A LL.length c] w (BoxOut w LL) := by
  have hmin : ∀ (A B : Int) (w : World), (Builtin.min_ #[3, 3] 3 #[.int .i64 A, .int .i64 B]).run Try.prog w = .ok (.int .i64 (mi A B)) w := fun _ _ _ => rfl
  have hmax : ∀ (A B : Int) (w : World), (Builtin.max_ #[3, 3] 3 #[.int .i64 A, .int .i64 B]).run Try.prog w = .ok (.int .i64 (ma A B)) w := fun _ _ _ => rfl
  obtain ⟨N, hN⟩ : ∃ N, N = LL.length := ⟨_, rfl⟩
  rw [← hN] at hn ⊢
  have HN := Lib.hid hN
  have HM := Lib.hid hm
  have HO := Lib.hid h
  clear hN hm h
  go_enter Try.func40, Try.ntmps40
  go_wp2_with fail
  refine wp_named fun w0 hw0 => ?_
  have hA0 : Zero2 w0 w.heap.size := by subst hw0; exact (((zero2_new _ w.heap.size rfl _).alloc _).alloc _).alloc _
  have hB0 : Zero2 w0 (w.heap.size + 1) := by subst hw0; exact ((zero2_new _ (w.heap.size + 1) (by simp) _).alloc _).alloc _
  have hC0 : Zero2 w0 (w.heap.size + 1 + 1) := by subst hw0; exact (zero2_new _ (w.heap.size + 1 + 1) (by simp) _).alloc _
  have hD0 : Zero2 w0 (w.heap.size + 1 + 1 + 1) := by subst hw0; exact zero2_new _ (w.heap.size + 1 + 1 + 1) (by simp) _
  have hS0 : Since w w0 := by subst hw0; (repeat (first | with_reducible (exact Since.refl _) | with_reducible assumption | with_reducible (refine Since.drew ?_) | with_reducible (refine Since.drewN ?_ _) | with_reducible (refine Since.alloc ?_ _) | (with_reducible (refine Since.setCell ?_ ?_ _); rotate_left; focus (first | (simp; done) | (simp; omega) | omega)) | (with_reducible (refine Since.trans ?_ (by with_reducible assumption)))))
  have hz0 : w0.heap.size = w.heap.size + 4 := by subst hw0; simp
  clear hw0
  obtain ⟨b2, hb2⟩ : ∃ b2, b2 = w.heap.size := ⟨_, rfl⟩
  obtain ⟨b3, hb3⟩ : ∃ b3, b3 = w.heap.size + 1 := ⟨_, rfl⟩
  obtain ⟨b4, hb4⟩ : ∃ b4, b4 = w.heap.size + 1 + 1 := ⟨_, rfl⟩
  obtain ⟨b5, hb5⟩ : ∃ b5, b5 = w.heap.size + 1 + 1 + 1 := ⟨_, rfl⟩
  rw [← hb5] at hD0 ⊢
  rw [← hb4] at hC0 ⊢
  rw [← hb3] at hB0 ⊢
  rw [← hb2] at hA0 ⊢
  have k2 : w.heap.size ≤ b2 := by omega
  have k3 : w.heap.size ≤ b3 := by omega
  have k4 : w.heap.size ≤ b4 := by omega
  have k5 : w.heap.size ≤ b5 := by omega
  have n24 : b4 ≠ b2 := by omega
  have n25 : b5 ≠ b2 := by omega
  have n34 : b4 ≠ b3 := by omega
  have n35 : b5 ≠ b3 := by omega
  have n45 : b5 ≠ b4 := by omega
  have n54 : b4 ≠ b5 := by omega
  have n23 : b3 ≠ b2 := by omega
  have n32 : b2 ≠ b3 := by omega
  clear hb2 hb3 hb4 hb5 hz0
  go_loopw [6, 13] (fun v y wr => ∃ (j : Nat) (fst : Bool) (ax ay bx bz : Int), j ≤ N ∧ y = .int .i64 (j : Int) ∧ v = .bool fst ∧ Zero2 wr b2 ∧ Zero2 wr b3 ∧ PtF wr b4 ax ay ∧ PtF wr b5 bx bz ∧ Since w wr ∧ BoxOf (LL.take j).flatten fst ax ay bx bz) (fun _ y _ => N - (intOf y).toNat)
  case atStart => exact ⟨0, true, 0, 0, 0, 0, by omega, rfl, rfl, hA0, hB0, hC0, hD0, hS0, fun h => (by cases h), fun _ => rfl⟩
  case round =>
    obtain ⟨j, fst, ax, ay, bx, bz, hj, rfl, rfl, hA, hB, hC, hD, hS, hX⟩ := hrel
    clear hA0 hB0 hC0 hD0 hS0
    by_cases hjn : j < N
    · have hjn' : (j : Int) < N := by omega
      have hjL : j < LL.length := by rw [← HN.out]; exact hjn
      have hL : LL[j]? = some LL[j] := List.getElem?_eq_getElem hjL
      have hml := HM.out _ (List.mem_of_getElem? hL)
      have htk : (LL.take (j + 1)).flatten = (LL.take j).flatten ++ LL[j] := by rw [List.take_succ_eq_append_getElem hjL, List.flatten_append]; simp
      generalize LL[j] = L at *
      obtain ⟨b, o, A', c', rfl, hb, hcell, hK⟩ := HO.out.row hL
      have c1 := (hS.1 _ _ hb).trans hcell
      obtain ⟨n, hnl⟩ : ∃ n, n = L.length := ⟨_, rfl⟩
      rw [← hnl] at hml c1
      have HNL := Lib.hid hnl
      have HK := Lib.hid hK
      have HTK := Lib.hid htk
      clear hL hcell hjL hnl hK htk
      go_wp2_with fail
      go_loopw [6, 19] (fun v y wi => ∃ (k : Nat) (fst : Bool) (ax ay bx bz : Int), k ≤ n ∧ y = .int .i64 (k : Int) ∧ v = .bool fst ∧ Zero2 wi b2 ∧ Zero2 wi b3 ∧ PtF wi b4 ax ay ∧ PtF wi b5 bx bz ∧ Since w wi ∧ BoxOf ((LL.take j).flatten ++ L.take k) fst ax ay bx bz) (fun _ y _ => n - (intOf y).toNat)
      case atStart => exact ⟨0, fst, ax, ay, bx, bz, by omega, rfl, rfl, hA, hB, hC, hD, hS, by simpa using hX⟩
      case round =>
        obtain ⟨k, fs, px, py, qx, qy, hk, rfl, rfl, hA', hB', hC', hD', hS', hX'⟩ := hrel
        clear hA hB hC hD hX c1 hS
        by_cases hkn : k < n
        · have hkn' : (k : Int) < n := by omega
          have hkL : k < L.length := by rw [← HNL.out]; exact hkn
          have hx : L[k]? = some L[k] := List.getElem?_eq_getElem hkL
          have htk2 : (LL.take j).flatten ++ L.take (k + 1) = (LL.take j).flatten ++ L.take k ++ [L[k]] := by rw [List.take_succ_eq_append_getElem hkL, List.append_assoc]
          generalize L[k] = x at *
          obtain ⟨bk, ok, rfl, hbk, hck⟩ := HK.out (by omega)
          have d1 := (hS'.1 _ _ hbk).trans (hck k x hx 0 (by omega))
          have d2 := (hS'.1 _ _ hbk).trans (hck k x hx 1 (by omega))
          have d3 := (hS'.1 _ _ hbk).trans (hck k x hx 2 (by omega))
          simp only [knL, List.getD_cons_succ, List.getD_cons_zero, Nat.add_zero] at d1 d2 d3
          have u1 : IntKind.i64.wrap ((k : Int) + 1) = (k : Int) + 1 := IntWalk.i64_in _ (by omega)
          obtain ⟨⟨r1, r2, r3⟩, rf⟩ := id hC'
          obtain ⟨⟨s1, s2, s3⟩, sf⟩ := id hD'
          have rf0 := rf 0
          have rf1 := rf 1
          have sf0 := sf 0
          have sf1 := sf 1
          have HTK2 := Lib.hid htk2
          have HA' := Lib.hid hA'
          have HB' := Lib.hid hB'
          have HC' := Lib.hid hC'
          have HD' := Lib.hid hD'
          have HS' := Lib.hid hS'
          clear hx hck hkL htk2 rf sf hA' hB' hC' hD' hS'
          cases fs
          · have hX2 := hX'.more x
            have HX2 := Lib.hid hX2
            clear hX2 hX'
            go_wp2_with fail
            go_roundw
            case rel => exact ⟨k + 1, false, _, _, _, _, by omega, by go_num, rfl, ((((HA'.out.far n24 _ _).far n24 _ _).far n25 _ _).far n25 _ _).alloc _, ((((HB'.out.far n34 _ _).far n34 _ _).far n35 _ _).far n35 _ _).alloc _,
              (((ptf_set2 HC'.out _ _).far n45 _ _).far n45 _ _).since ((Since.refl _).alloc _), (ptf_set2 ((HD'.out.far n54 _ _).far n54 _ _) _ _).since ((Since.refl _).alloc _),
              ((((HS'.out.setCell k4 _).setCell k4 _).setCell k5 _).setCell k5 _).alloc _, by rw [HTK2.out]; exact HX2.out⟩
            case measure => simp [intOf]; omega
          · have hX2 := hX'.one x
            have HX2 := Lib.hid hX2
            clear hX2 hX'
            go_upto_region 10 with fail
            go_region
            all_goals (go_wp2_with fail)
            all_goals go_roundw
            case rel => exact ⟨k + 1, false, _, _, _, _, by omega, by go_num, rfl, (((((((((HA'.out.far n24 _ _).far n24 _ _).far n25 _ _).far n25 _ _).far n24 _ _).far n24 _ _).far n25 _ _).far n25 _ _).alloc _).drew, (((((((((HB'.out.far n34 _ _).far n34 _ _).far n35 _ _).far n35 _ _).far n34 _ _).far n34 _ _).far n35 _ _).far n35 _ _).alloc _).drew,
              (((ptf_set2 (((ptf_set2 HC'.out _ _).far n45 _ _).far n45 _ _) _ _).far n45 _ _).far n45 _ _).since ((Since.refl _).alloc _).drew, (ptf_set2 (((ptf_set2 ((HD'.out.far n54 _ _).far n54 _ _) _ _).far n54 _ _).far n54 _ _) _ _).since ((Since.refl _).alloc _).drew,
              (((((((((HS'.out.setCell k4 _).setCell k4 _).setCell k5 _).setCell k5 _).setCell k4 _).setCell k4 _).setCell k5 _).setCell k5 _).alloc _).drew, by rw [HTK2.out]; exact HX2.out⟩
            case measure => simp [intOf]; omega
        · obtain rfl : k = n := by omega
          have e : L.take k = L := by rw [HNL.out]; exact List.take_length
          rw [e, ← HTK.out] at hX'
          have u1 : IntKind.i64.wrap ((j : Int) + 1) = (j : Int) + 1 := IntWalk.i64_in _ (by omega)
          clear e
          go_wp2_with fail
          go_roundw
          case rel => exact ⟨j + 1, fs, px, py, qx, qy, by omega, by go_num, rfl, hA', hB', hC', hD', hS', hX'⟩
          case measure => simp [intOf]; omega
    · obtain rfl : j = N := by omega
      have e : LL.take j = LL := by rw [HN.out]; exact List.take_length
      rw [e] at hX
      have hall : ∀ L ∈ LL, ∀ k ∈ L, (ax ≤ k.x ∧ k.x ≤ bx) ∧ (ay ≤ k.y ∧ k.y ≤ bz) := fun L hL k hk => by
        have hm : k ∈ LL.flatten := List.mem_flatten.2 ⟨L, hL, hk⟩
        cases fst with
        | false => exact hX.1 rfl k hm
        | true => rw [hX.2 rfl] at hm; cases hm
      have HALL := Lib.hid hall
      have HSX := Lib.hid hS
      obtain ⟨⟨r1, r2, r3⟩, rf⟩ := id hC
      obtain ⟨⟨s1, s2, s3⟩, sf⟩ := id hD
      obtain ⟨⟨z1, z2, z3⟩, zF⟩ := id hA
      have zF0 := zF 0
      have zF1 := zF 1
      obtain ⟨⟨y1, y2, y3⟩, yF⟩ := id hB
      have yF0 := yF 0
      have yF1 := yF 1
      clear e hX hall zF yF rf sf hmin hmax hA hB hC hD
      go_upto_region 16 with fail
      go_region
      all_goals go_wp2
      all_goals refine bodyPost_ret (by simp only [results, Try.results40]; go_simp) rfl ⟨ax, ay, bx, bz, rfl, HALL.out, ?_⟩
      all_goals have hSX := HSX.out
      all_goals (repeat (first | with_reducible (exact Since.refl _) | with_reducible assumption | with_reducible (refine Since.drew ?_) | with_reducible (refine Since.drewN ?_ _) | with_reducible (refine Since.alloc ?_ _) | (with_reducible (refine Since.setCell ?_ ?_ _); rotate_left; focus (first | (simp; done) | (simp; omega) | omega)) | (with_reducible (refine Since.trans ?_ (by with_reducible assumption)))))
end Go.Proofs.Ytdbenpncnkfliaa

/-
  Layer 14: the law FlatCloses, walked.
-/
namespace Go.Proofs.Ytdbenpncnkfliaa
open Go.RowKit Go.ChangeShapes Go.WideShapes Go.Deep
set_option linter.unusedVariables false

theorem tny_wf {p : Pq} (h : Tny p.x ∧ Tny p.y) : wfP p := by
  unfold Tny at h
  exact ⟨WalkArith.wf_i64 (by omega), WalkArith.wf_i64 (by omega)⟩
theorem lines_wf (LL : List (List Kt)) : ∀ l ∈ linesL LL, wfLq l := by
  intro l hl
  have hE : linesE LL = 0 := by
    by_cases h : linesE LL = 0
    · exact h
    · rw [linesL_no h] at hl; cases hl
  have hg : LL.all goodK = true := by
    cases h : LL.all goodK with
    | true => rfl
    | false =>
      by_cases h' : 4096 < sumL LL
      · rw [linesE_full h'] at hE; cases hE
      · rw [linesE_bad h' h] at hE; cases hE
  rw [linesL_ok hE, allL_sgsO, List.mem_flatMap] at hl
  obtain ⟨L, hL, hl⟩ := hl
  unfold allL at hl
  rw [List.mem_flatMap] at hl
  obtain ⟨s, hs, hl⟩ := hl
  have hl : l ∈ lnsS s := hl
  rw [lnsS_range, List.mem_filterMap] at hl
  obtain ⟨i, hi, hl⟩ := hl
  have hi' : i < 2 ^ stN s := by simpa using hi
  have hin := (sgs_in (List.all_eq_true.1 hg L hL) s hs).1
  have t1 := rnd_tny' s hin (stN s) i (by have := stN_le s; omega) (by omega)
  have t2 := rnd_tny' s hin (stN s) (i + 1) (by have := stN_le s; omega) (by omega)
  unfold lineO at hl
  split at hl
  · cases hl
  · injection hl with hl
    subst hl
    exact ⟨tny_wf t1, tny_wf t2⟩
theorem rf_great_or (A : Option Addr) (c : Nat) (LL : List (List Kt)) (w : World) (h : RdOL w w.heap.size A LL) (hn : LL.length ≤ maxLen) (hm : ∀ L, L ∈ LL → L.length ≤ maxLen) :
    Calls Try.prog 21 #[.slice A LL.length c] w fun e w' => (e = .returned (.bool true) ∨ (e = .returned (.bool false) ∧ NotGreat LL)) ∧ Since w w' := by
  refine (rf_great A c LL w h hn hm).mono ?_
  rintro e w' ⟨g, rfl, hg, hS⟩
  refine ⟨?_, hS⟩
  cases g with
  | true => exact .inl rfl
  | false => exact .inr ⟨rfl, hg rfl⟩
set_option maxRecDepth 1000000 in
set_option maxHeartbeats 32000000 in
theorem walk_flatcloses (A : Option Addr) (c : Nat) (LL : List (List Kt)) (w : World) (h : RdOL w w.heap.size A LL) (hn : LL.length ≤ maxLen) (hm : ∀ L, L ∈ LL → L.length ≤ maxLen) (hin : ∀ L, L ∈ LL → ∀ k, k ∈ L → InP k.x k.y) :
    Calls Try.prog 12 #[.slice A LL.length c] w fun e w' => e = .returned (.bool true) ∧ Since w w' := by
  have hgr := fun w (h : RdOL w w.heap.size A LL) => rf_great_or A c LL w h hn hm
  have HG := Lib.hid hgr
  have HIN := Lib.hid hin
  clear hgr hin hm
  by_cases hk : 60 < sumL LL
  · have hd : decide ((60 : Int) < ((sumL LL : Nat) : Int)) = true := by simp; omega
    go_enter Try.func12, Try.ntmps12
    go_wp2_with (first | (go_at_call 30; (with_reducible refine (alive14 _).mono ?_); rintro e w1 ⟨rfl, hS1⟩; have hR1 := h.on hS1; clear h) | (go_at_call 21; (with_reducible refine (HG.out _ hR1).mono ?_); rintro e w2 ⟨(rfl | ⟨rfl, n6, n5, n9⟩), hS2⟩; all_goals (have hR2 := hR1.on hS2; have hT2 := hS1.trans hS2; clear hR1 hS1 hS2)) | (go_at_call 26; (with_reducible refine (rf_knots A c LL _ hR2 n6 n5).mono ?_); rintro e w3 ⟨rfl, hS3⟩; have hT3 := hT2.trans hS3))
    all_goals go_ret
    all_goals first | exact ⟨rfl, hT3⟩ | exact ⟨rfl, hT2⟩
  · have hd : decide ((60 : Int) < ((sumL LL : Nat) : Int)) = false := by simp; omega
    go_enter Try.func12, Try.ntmps12
    go_upto_region 5 with (first | (go_at_call 30; (with_reducible refine (alive14 _).mono ?_); rintro e w1 ⟨rfl, hS1⟩; have hR1 := h.on hS1; clear h) | (go_at_call 21; (with_reducible refine (HG.out _ hR1).mono ?_); rintro e w2 ⟨(rfl | ⟨rfl, n6, n5, n9⟩), hS2⟩; all_goals (have hR2 := hR1.on hS2; have hT2 := hS1.trans hS2; clear hR1 hS1 hS2)) | (go_at_call 26; (with_reducible refine (rf_knots A c LL _ hR2 n6 n5).mono ?_); rintro e w3 ⟨rfl, hS3⟩; have hT3 := hT2.trans hS3; have hR3 := hR2.on hS3; clear hS3))
    · go_ret
      exact ⟨rfl, hT2⟩
    · have h1 := fun (A : Option Addr) (c : Nat) (w : World) (h : RdOL w w.heap.size A LL) => (fa_lines A c LL w h n6 n5 HIN.out).mono fun e w' k => LinesOut.rd k
      have h2 := fun (A : Option Addr) (c : Nat) (w : World) (h : RdOL w w.heap.size A (LL.map List.reverse)) => (fa_lines A c (LL.map List.reverse) w h (by rw [List.length_map]; exact n6) (lens_le_rev n5) (fun L hL k hk => by
        rw [List.mem_map] at hL
        obtain ⟨M, hM, rfl⟩ := hL
        exact HIN.out M hM k (List.mem_reverse.1 hk))).mono fun e w' k => LinesOut.rd k
      rw [List.length_map] at h2
      have n5' : ∀ L, L ∈ LL → L.length ≤ 1000000 := fun L hL => by have := n5 L hL; omega
      have h3 := fun (w : World) (h : RdOL w w.heap.size A LL) => rf_flip A c LL w h (by omega) n5'
      have hpm := linesL_flip LL
      have hcl := lines_closed LL
      have hwf := lines_wf LL
      have hlin := fun x0 y0 x1 y1 h => lines_in LL x0 y0 x1 y1 h
      have hll := linesL_len LL
      have hno := linesL_no (LL := LL)
      unfold LinesRd at h1 h2
      rw [linesE_flip] at h2
      have hlen2 := hpm.length_eq
      rw [List.length_map] at hlen2
      generalize linesE LL = E at *
      generalize linesL (LL.map List.reverse) = MB at *
      rw [hlen2] at h2
      generalize linesL LL = ML at *
      obtain ⟨n, hnl⟩ : ∃ n, n = ML.length := ⟨_, rfl⟩
      have hcc := fun (A : Option Addr) (c : Nat) (w : World) (h : RdG 4 lnL w w.heap.size A ML) => fa_closed A ML c w h (by omega) hwf
      rw [hcl] at hcc
      have ht1 := fun (A : Option Addr) (c : Nat) (x : Lq) (w : World) (h : RdG 4 lnL w w.heap.size A ML) => rf_times A ML c x w h (by omega)
      have ht2 := fun (A : Option Addr) (c : Nat) (x : Lq) (w : World) (h : RdG 4 lnL w w.heap.size A MB) => rf_times A MB c (flipL x) w h (by omega)
      have htf := fun x => times_flip hpm x
      rw [hlen2] at ht2
      rw [← hnl] at h1 h2 hll hcc ht1 ht2
      have H1 := Lib.hid h1
      have H2 := Lib.hid h2
      have H3 := Lib.hid h3
      have HCC := Lib.hid hcc
      have HT1 := Lib.hid ht1
      have HT2 := Lib.hid ht2
      have HTF := Lib.hid htf
      have HLIN := Lib.hid hlin
      have HNO := Lib.hid hno
      have HNL := Lib.hid hnl
      have HN5 := Lib.hid n5
      clear h1 h2 h3 hcc ht1 ht2 htf hlin hno hnl hpm hcl hwf hlen2 n5' n5 HG hk hd
      go_upto_region 7 with (first | (go_at_call 35; (with_reducible refine (H1.out A c _ hR3).mono ?_); rintro e w4 ⟨A4, c4, rfl, hL4, hS4⟩; have hR4 := hR3.on hS4; have hT4 := hT3.trans hS4; clear hR3 hT3 hS4) | (go_at_call 24; (with_reducible refine (H3.out _ hR4).mono ?_); rintro e w5 ⟨A5, c5, rfl, hF5, hS5⟩; have hR5 := hR4.on hS5; have hL45 := hL4.on hS5; have hT5 := hT4.trans hS5; clear hR4 hL4 hT4 hS5) | (go_at_call 35; (with_reducible refine (H2.out A5 c5 _ hF5).mono ?_); rintro e w6 ⟨A6, c6, rfl, hL6, hS6⟩; have hR6 := hR5.on hS6; have hL46 := hL45.on hS6; have hT6 := hT5.trans hS6; clear hR5 hL45 hT5 hS6 hF5))
      by_cases hE : E = 0
      · subst hE
        clear HNO
        by_cases hbig : 1200 < n
        · have hd : decide ((1200 : Int) < (n : Int)) = true := by simp; omega
          go_wp2_with fail
          go_ret
          exact ⟨rfl, hT6⟩
        · have hd : decide ((1200 : Int) < (n : Int)) = false := by simp; omega
          go_upto_region 14 with (first | (go_at_call 38; (with_reducible refine (HCC.out A4 c4 _ hL46).mono ?_); rintro e w7 ⟨rfl, hS7⟩; have hL47 := hL46.on hS7; have hL67 := hL6.on hS7; have hR7 := hR6.on hS7; have hT7 := hT6.trans hS7; clear hL46 hL6 hR6 hT6 hS7) | (go_at_call 40; (with_reducible refine (rf_box7 A c LL _ hR7 n6 HN5.out).mono ?_); rintro e w8 ⟨ax, ay, bx, bz, rfl, hall, hS8⟩; have hL48 := hL47.on hS8; have hL68 := hL67.on hS8; have hT8 := hT7.trans hS8; have HIB := Lib.hid (HLIN.out ax ay bx bz hall); clear hL47 hL67 hR7 hT7 hS8 hall HLIN))
          refine wp_named fun w9 hw9 => ?_
          have hS9 : Since w8 w9 := by subst hw9; (repeat (first | with_reducible (exact Since.refl _) | with_reducible assumption | with_reducible (refine Since.drew ?_) | with_reducible (refine Since.drewN ?_ _) | with_reducible (refine Since.alloc ?_ _) | (with_reducible (refine Since.setCell ?_ ?_ _); rotate_left; focus (first | (simp; done) | (simp; omega) | omega)) | (with_reducible (refine Since.trans ?_ (by with_reducible assumption)))))
          have pa : PtAt w9 w8.heap.size ax ay := by subst hw9; exact (pt_new w8 _ rfl ax ay _).since ((Since.refl _).alloc _)
          have pb : PtAt w9 (w8.heap.size + 1) bx bz := by subst hw9; exact pt_new (w8.alloc _) _ (by simp) bx bz _
          clear hw9
          have hL49 := hL48.on hS9
          have hL69 := hL68.on hS9
          have hT9 := hT8.trans hS9
          generalize w8.heap.size + 1 = qb at *
          generalize w8.heap.size = qa at *
          clear hL48 hL68 hT8 hS9
          go_wp2_with fail
          go_loopw [69] (fun y wr => ∃ j : Nat, j ≤ n ∧ y = .int .i64 (j : Int) ∧ Since w9 wr) (fun y _ => n - (intOf y).toNat)
          case atStart => exact ⟨0, by omega, rfl, Since.refl _⟩
          case round =>
            obtain ⟨j, hj, rfl, hS⟩ := hrel
            have HSX := Lib.hid hS
            by_cases hjn : j < n
            · have hjn' : (j : Int) < n := by omega
              have hp : ML[j]? = some (ML[j]'(by rw [← HNL.out]; omega)) := List.getElem?_eq_getElem _
              have hib := HIB.out _ (List.mem_of_getElem? hp)
              have htf := HTF.out (ML[j]'(by rw [← HNL.out]; omega))
              generalize ML[j]'(by rw [← HNL.out]; omega) = x at *
              have hnn := HNL.out
              obtain ⟨bp, op, rfl, hbp, hcp⟩ := id (hL49 (by omega))
              have d0 := (hS.1 _ _ hbp).trans (hcp j x hp 0 (by omega))
              have d1 := (hS.1 _ _ hbp).trans (hcp j x hp 1 (by omega))
              have d2 := (hS.1 _ _ hbp).trans (hcp j x hp 2 (by omega))
              have d3 := (hS.1 _ _ hbp).trans (hcp j x hp 3 (by omega))
              simp only [lnL, List.getD_cons_succ, List.getD_cons_zero, Nat.add_zero] at d0 d1 d2 d3
              have u1 : IntKind.i64.wrap ((j : Int) + 1) = (j : Int) + 1 := IntWalk.i64_in _ (by omega)
              obtain ⟨a0, a1, a2⟩ := pa.since hS
              obtain ⟨e0, e1, e2⟩ := pb.since hS
              have hh1 := fun c w h => HT1.out (some ⟨bp, op, none⟩) c x w h
              have hh2 := fun A c w h => HT2.out A c x w h
              rw [htf] at hh2
              obtain ⟨⟨⟨g1, g2⟩, g3, g4⟩, hne⟩ := hib
              obtain ⟨l0, l1, l2, l3⟩ := x
              unfold flipL at hh2
              simp only at hh1 hh2 d0 d1 d2 d3 g1 g2 g3 g4 hne
              generalize timesL ML ⟨l0, l1, l2, l3⟩ = T at *
              have HH1 := Lib.hid hh1
              have HH2 := Lib.hid hh2
              have q1 : decide (ax ≤ l0) = true := by simp [g1]
              have q2 : decide (l0 ≤ bx) = true := by simp [g2]
              have q3 : decide (ay ≤ l1) = true := by simp [g3]
              have q4 : decide (l1 ≤ bz) = true := by simp [g4]
              clear hh1 hh2 hcp hp hnn htf hS g1 g2 g3 g4
              go_upto_region 18 with fail
              refine wp_named fun wx hwx => ?_
              have x0 : wx.cell? ⟨wr.heap.size, 0, none⟩ = some (.int .i64 l0) := by subst hwx; simp
              have x1 : wx.cell? ⟨wr.heap.size, 1, none⟩ = some (.int .i64 l1) := by subst hwx; simp
              have x2 : wx.cell? ⟨wr.heap.size, 2, none⟩ = some (.int .i64 l2) := by subst hwx; simp
              have x3 : wx.cell? ⟨wr.heap.size, 3, none⟩ = some (.int .i64 l3) := by subst hwx; simp
              have hSx : Since w9 wx := by subst hwx; exact HSX.out.alloc _
              have hbx : wr.heap.size < wx.heap.size := by subst hwx; simp
              clear hwx d0 d1 d2 d3 a0 a1 a2 e0 e1 e2
              generalize wr.heap.size = q at *
              have tok1 := True.intro
              by_cases h0 : l0 = l2
              · subst h0
                have f1 : (l1 == l3) = false := by simp; exact fun h => hne ⟨rfl, h⟩
                have f2 : (l3 == l1) = false := by simp; exact fun h => hne ⟨rfl, h.symm⟩
                clear hne
                go_region_held3 (fun w' => w'.cell? ⟨q, 0, none⟩ = some (.int .i64 l0) ∧ w'.cell? ⟨q, 1, none⟩ = some (.int .i64 l1) ∧ w'.cell? ⟨q, 2, none⟩ = some (.int .i64 l0) ∧ w'.cell? ⟨q, 3, none⟩ = some (.int .i64 l3)) ((refine ⟨?_, ?_, ?_, ?_⟩ <;> (first | with_reducible assumption | (rw [cell_drew9]; with_reducible assumption)))) ((first
                  | (go_at_call 41; have _t := tok1; (with_reducible refine (HH1.out _ _ ?_).mono ?_); (focus (exact hL49.on (by (repeat (first | with_reducible (exact Since.refl _) | with_reducible assumption | with_reducible (refine Since.drew ?_) | with_reducible (refine Since.drewN ?_ _) | with_reducible (refine Since.alloc ?_ _) | (with_reducible (refine Since.setCell ?_ ?_ _); rotate_left; focus (first | (simp; done) | (simp; omega) | omega)) | (with_reducible (refine Since.trans ?_ (by with_reducible assumption)))))))); rintro e wk ⟨rfl, hSk⟩; have hTk : Since wx wk := (by (repeat (first | with_reducible (exact Since.refl _) | with_reducible assumption | with_reducible (refine Since.drew ?_) | with_reducible (refine Since.drewN ?_ _) | with_reducible (refine Since.alloc ?_ _) | (with_reducible (refine Since.setCell ?_ ?_ _); rotate_left; focus (first | (simp; done) | (simp; omega) | omega)) | (with_reducible (refine Since.trans ?_ (by with_reducible assumption)))))); have k0 := (hTk.1 _ _ hbx).trans x0; have k1 := (hTk.1 _ _ hbx).trans x1; have k2 := (hTk.1 _ _ hbx).trans x2; have k3 := (hTk.1 _ _ hbx).trans x3; have hSK := hSx.trans hTk; clear x0 x1 x2 x3 tok1 _t hSk hSx; have x0 := k0; have x1 := k1; have x2 := k2; have x3 := k3; clear k0 k1 k2 k3)
                  | (go_at_call 41; (with_reducible refine (HH2.out _ _ _ ?_).mono ?_); (focus (exact hL69.on (by (repeat (first | with_reducible (exact Since.refl _) | with_reducible assumption | with_reducible (refine Since.drew ?_) | with_reducible (refine Since.drewN ?_ _) | with_reducible (refine Since.alloc ?_ _) | (with_reducible (refine Since.setCell ?_ ?_ _); rotate_left; focus (first | (simp; done) | (simp; omega) | omega)) | (with_reducible (refine Since.trans ?_ (by with_reducible assumption)))))))); rintro e wm ⟨rfl, hSm⟩; have hTm : Since wk wm := (by (repeat (first | with_reducible (exact Since.refl _) | with_reducible assumption | with_reducible (refine Since.drew ?_) | with_reducible (refine Since.drewN ?_ _) | with_reducible (refine Since.alloc ?_ _) | (with_reducible (refine Since.setCell ?_ ?_ _); rotate_left; focus (first | (simp; done) | (simp; omega) | omega)) | (with_reducible (refine Since.trans ?_ (by with_reducible assumption)))))); have hbk := hTk.2.2.1 _ hbx; have k0 := (hTm.1 _ _ hbk).trans x0; have k1 := (hTm.1 _ _ hbk).trans x1; have k2 := (hTm.1 _ _ hbk).trans x2; have k3 := (hTm.1 _ _ hbk).trans x3; have hSM := hSK.trans hTm; clear x0 x1 x2 x3 hSm; have x0 := k0; have x1 := k1; have x2 := k2; have x3 := k3; clear k0 k1 k2 k3)))
                all_goals (go_wp2_with fail)
                all_goals go_roundw
                case rel => exact ⟨j + 1, by omega, by go_num, by first | exact hSM | exact hSM.drew⟩
                case measure => simp [intOf]; omega
              · have f1 : (l0 == l2) = false := by simp [h0]
                have f2 : (l2 == l0) = false := by simp; exact fun h => h0 h.symm
                clear hne
                go_region_held3 (fun w' => w'.cell? ⟨q, 0, none⟩ = some (.int .i64 l0) ∧ w'.cell? ⟨q, 1, none⟩ = some (.int .i64 l1) ∧ w'.cell? ⟨q, 2, none⟩ = some (.int .i64 l2) ∧ w'.cell? ⟨q, 3, none⟩ = some (.int .i64 l3)) ((refine ⟨?_, ?_, ?_, ?_⟩ <;> (first | with_reducible assumption | (rw [cell_drew9]; with_reducible assumption)))) ((first
                  | (go_at_call 41; have _t := tok1; (with_reducible refine (HH1.out _ _ ?_).mono ?_); (focus (exact hL49.on (by (repeat (first | with_reducible (exact Since.refl _) | with_reducible assumption | with_reducible (refine Since.drew ?_) | with_reducible (refine Since.drewN ?_ _) | with_reducible (refine Since.alloc ?_ _) | (with_reducible (refine Since.setCell ?_ ?_ _); rotate_left; focus (first | (simp; done) | (simp; omega) | omega)) | (with_reducible (refine Since.trans ?_ (by with_reducible assumption)))))))); rintro e wk ⟨rfl, hSk⟩; have hTk : Since wx wk := (by (repeat (first | with_reducible (exact Since.refl _) | with_reducible assumption | with_reducible (refine Since.drew ?_) | with_reducible (refine Since.drewN ?_ _) | with_reducible (refine Since.alloc ?_ _) | (with_reducible (refine Since.setCell ?_ ?_ _); rotate_left; focus (first | (simp; done) | (simp; omega) | omega)) | (with_reducible (refine Since.trans ?_ (by with_reducible assumption)))))); have k0 := (hTk.1 _ _ hbx).trans x0; have k1 := (hTk.1 _ _ hbx).trans x1; have k2 := (hTk.1 _ _ hbx).trans x2; have k3 := (hTk.1 _ _ hbx).trans x3; have hSK := hSx.trans hTk; clear x0 x1 x2 x3 tok1 _t hSk hSx; have x0 := k0; have x1 := k1; have x2 := k2; have x3 := k3; clear k0 k1 k2 k3)
                  | (go_at_call 41; (with_reducible refine (HH2.out _ _ _ ?_).mono ?_); (focus (exact hL69.on (by (repeat (first | with_reducible (exact Since.refl _) | with_reducible assumption | with_reducible (refine Since.drew ?_) | with_reducible (refine Since.drewN ?_ _) | with_reducible (refine Since.alloc ?_ _) | (with_reducible (refine Since.setCell ?_ ?_ _); rotate_left; focus (first | (simp; done) | (simp; omega) | omega)) | (with_reducible (refine Since.trans ?_ (by with_reducible assumption)))))))); rintro e wm ⟨rfl, hSm⟩; have hTm : Since wk wm := (by (repeat (first | with_reducible (exact Since.refl _) | with_reducible assumption | with_reducible (refine Since.drew ?_) | with_reducible (refine Since.drewN ?_ _) | with_reducible (refine Since.alloc ?_ _) | (with_reducible (refine Since.setCell ?_ ?_ _); rotate_left; focus (first | (simp; done) | (simp; omega) | omega)) | (with_reducible (refine Since.trans ?_ (by with_reducible assumption)))))); have hbk := hTk.2.2.1 _ hbx; have k0 := (hTm.1 _ _ hbk).trans x0; have k1 := (hTm.1 _ _ hbk).trans x1; have k2 := (hTm.1 _ _ hbk).trans x2; have k3 := (hTm.1 _ _ hbk).trans x3; have hSM := hSK.trans hTm; clear x0 x1 x2 x3 hSm; have x0 := k0; have x1 := k1; have x2 := k2; have x3 := k3; clear k0 k1 k2 k3)))
                all_goals (go_wp2_with fail)
                all_goals go_roundw
                case rel => exact ⟨j + 1, by omega, by go_num, by first | exact hSM | exact hSM.drew⟩
                case measure => simp [intOf]; omega
            · obtain rfl : j = n := by omega
              go_wp2_with fail
              go_ret
              exact ⟨rfl, hT9.trans HSX.out⟩
      · have hML := HNO.out hE
        obtain rfl : n = 0 := by rw [HNL.out, hML]; rfl
        have f1 : (E == 0) = false := by simp [hE]
        clear hML HNO
        go_wp2_with fail
        go_ret
        exact ⟨by first | rfl | simp, hT6⟩
end Go.Proofs.Ytdbenpncnkfliaa
