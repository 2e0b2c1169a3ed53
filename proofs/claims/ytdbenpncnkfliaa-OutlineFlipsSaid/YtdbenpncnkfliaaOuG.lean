/-
  Layer 11: the reference's way of pieces, as lists: it comes to the same pieces.
-/
import Derived.Test.YtdbenpncnkfliaaOuD
namespace Go.Proofs.Ytdbenpncnkfliaa
open Go.RowKit
set_option linter.unusedVariables false

/-- A knot. -/
structure Kt where
  (x y : Int) (o : Bool)
def kAt (X Y : Nat → Int) (O : Nat → Bool) (j : Nat) : Kt := ⟨X j, Y j, O j⟩
def lastOff (W : List Kt) (k : Kt) : Bool := match W.getLast? with
  | some l => !k.o && !l.o
  | none => false
def midK (l k : Kt) : Kt := ⟨mid l.x k.x, mid l.y k.y, true⟩
/-- One knot more on the way; a middle ahead of it where two lie off the curve. -/
def wayAdd (W : List Kt) (k : Kt) : List Kt := match W.getLast? with
  | some l => if !k.o && !l.o then W ++ [midK l k] ++ [k] else W ++ [k]
  | none => W ++ [k]
def wayStart (n : Nat) (X Y : Nat → Int) (O : Nat → Bool) : List Kt := if firstOn O n < n then [] else [midK (kAt X Y O (n - 1)) (kAt X Y O 0)]
def wayN (f n : Nat) (X Y : Nat → Int) (O : Nat → Bool) (W : List Kt) : Nat → List Kt
  | 0 => W
  | i + 1 => wayAdd (wayN f n X Y O W i) (kAt X Y O ((f + i) % n))
/-- The pieces that a way is cut into, from a place on, behind those that are there. -/
def cutR : (Int × Int) → List Sg → List Kt → List Sg
  | _, L, [] => L
  | h, L, [k] => if k.o then addS L ⟨h.1, h.2, 0, 0, k.x, k.y, false⟩ else L
  | h, L, k :: k2 :: r => if k.o then cutR (k.x, k.y) (addS L ⟨h.1, h.2, 0, 0, k.x, k.y, false⟩) (k2 :: r) else cutR (k2.x, k2.y) (addS L ⟨h.1, h.2, k.x, k.y, k2.x, k2.y, true⟩) r
theorem cutR_on (h : Int × Int) (L : List Sg) (k : Kt) (r : List Kt) (hk : k.o = true) : cutR h L (k :: r) = cutR (k.x, k.y) (addS L ⟨h.1, h.2, 0, 0, k.x, k.y, false⟩) r := by
  cases r with
  | nil => unfold cutR; rw [if_pos hk]
  | cons k2 r => rw [cutR, if_pos hk]
theorem cutR_off (h : Int × Int) (L : List Sg) (k k2 : Kt) (r : List Kt) (hk : k.o = false) : cutR h L (k :: k2 :: r) = cutR (k2.x, k2.y) (addS L ⟨h.1, h.2, k.x, k.y, k2.x, k2.y, true⟩) r := by
  rw [cutR, if_neg (by rw [hk]; simp)]
theorem cutR_nil (h : Int × Int) (L : List Sg) : cutR h L [] = L := by unfold cutR; rfl
theorem last_snoc (A : List Kt) (m : Kt) : (A ++ [m]).getLast? = some m := by simp
/-- What the way holds behind some knots, the last one kl: its pieces so far are R. -/
def WInv (W : List Kt) (w0 : Kt) (R : (Int × Int) × List Sg) (kl : Kt) : Prop :=
  W.getLast? = some kl ∧ ∃ P T, W = w0 :: (P ++ T) ∧ T = (if kl.o then [] else [kl]) ∧ ∀ Q, cutR (w0.x, w0.y) [] (P ++ Q) = cutR R.1 R.2 Q
section
variable (f n : Nat) (X Y : Nat → Int) (O : Nat → Bool)
theorem winv_step {W : List Kt} {w0 : Kt} {R : (Int × Int) × List Sg} {i : Nat} (h : WInv W w0 R (kAt X Y O ((f + i) % n))) :
    WInv (wayAdd W (kAt X Y O ((f + i + 1) % n))) w0 (stepS f n X Y O R.1 R.2 i) (kAt X Y O ((f + i + 1) % n)) := by
  obtain ⟨hl, P, T, hW, hT, hQ⟩ := h
  generalize hk : kAt X Y O ((f + i) % n) = k at *
  generalize hm : kAt X Y O ((f + i + 1) % n) = m at *
  have ek : O ((f + i) % n) = k.o := by rw [← hk]; rfl
  have em : O ((f + i + 1) % n) = m.o := by rw [← hm]; rfl
  have xk : X ((f + i) % n) = k.x := by rw [← hk]; rfl
  have yk : Y ((f + i) % n) = k.y := by rw [← hk]; rfl
  have xm : X ((f + i + 1) % n) = m.x := by rw [← hm]; rfl
  have ym : Y ((f + i + 1) % n) = m.y := by rw [← hm]; rfl
  unfold stepS wayAdd
  rw [ek, em, xk, yk, xm, ym, hl]
  clear ek em xk yk xm ym hk hm
  simp only
  cases hko : k.o <;> cases hmo : m.o <;> rw [hko] at hT <;> simp only [if_true, if_false, Bool.false_eq_true] at hT <;> subst hT hW
  · -- off, off
    refine ⟨last_snoc _ _, P ++ [k, midK k m], [m], by simp, by rw [hmo]; rfl, fun Q => ?_⟩
    rw [List.append_assoc, hQ]
    simp only [List.cons_append, List.nil_append]
    rw [cutR_off _ _ _ _ _ hko]
    rfl
  · refine ⟨last_snoc _ _, P ++ [k, m], [], by simp, by rw [hmo]; rfl, fun Q => ?_⟩
    rw [List.append_assoc, hQ]
    simp only [List.cons_append, List.nil_append]
    rw [cutR_off _ _ _ _ _ hko]
    rfl
  · refine ⟨last_snoc _ _, P, [m], by simp, by rw [hmo]; rfl, fun Q => ?_⟩
    rw [hQ]
    rfl
  · refine ⟨last_snoc _ _, P ++ [m], [], by simp, by rw [hmo]; rfl, fun Q => ?_⟩
    rw [List.append_assoc, hQ]
    simp only [List.cons_append, List.nil_append]
    rw [cutR_on _ _ _ _ hmo]
    rfl
end
theorem wayN_one (f n : Nat) (X Y : Nat → Int) (O : Nat → Bool) (W : List Kt) (hf : f < n) : wayN f n X Y O W 1 = wayAdd W (kAt X Y O f) := by
  show wayAdd W (kAt X Y O ((f + 0) % n)) = _
  rw [Nat.add_zero, Nat.mod_eq_of_lt hf]
theorem winv_way (n : Nat) (X Y : Nat → Int) (O : Nat → Bool) (hn : 0 < n) : ∃ w0, w0.o = true ∧ (w0.x, w0.y) = startS n X Y O ∧ ∀ i, WInv (wayN (frs n O) n X Y O (wayStart n X Y O) (i + 1)) w0 (runS (frs n O) n X Y O (startS n X Y O) i) (kAt X Y O ((frs n O + i) % n)) := by
  have hfo := firstOn_is O n
  have hf : frs n O < n := by unfold frs; split <;> omega
  by_cases hlt : firstOn O n < n
  · have ef : frs n O = firstOn O n := by unfold frs; rw [if_pos hlt]
    refine ⟨kAt X Y O (frs n O), by rw [ef]; exact hfo.2.2 hlt, by unfold startS; rw [if_pos hlt, ef]; rfl, fun i => ?_⟩
    induction i with
    | zero =>
      rw [Nat.zero_add, wayN_one _ _ _ _ _ _ hf]
      refine ⟨?_, [], [], ?_, ?_, fun Q => ?_⟩
      · unfold wayStart wayAdd; rw [if_pos hlt, Nat.add_zero, Nat.mod_eq_of_lt hf]; rfl
      · unfold wayStart wayAdd; rw [if_pos hlt]; rfl
      · rw [Nat.add_zero, Nat.mod_eq_of_lt hf, ef]; show [] = if O (firstOn O n) then [] else _; rw [hfo.2.2 hlt]; rfl
      · unfold runS startS; rw [if_pos hlt, ef]; rfl
    | succ i ih => exact winv_step _ _ _ _ _ ih
  · have ef : frs n O = 0 := by unfold frs; rw [if_neg hlt]
    have e0 : O 0 = false := hfo.2.1 0 (by omega)
    refine ⟨midK (kAt X Y O (n - 1)) (kAt X Y O 0), rfl, by unfold startS; rw [if_neg hlt]; rfl, fun i => ?_⟩
    induction i with
    | zero =>
      rw [Nat.zero_add, wayN_one _ _ _ _ _ _ hf]
      have ea : wayAdd (wayStart n X Y O) (kAt X Y O (frs n O)) = [midK (kAt X Y O (n - 1)) (kAt X Y O 0), kAt X Y O 0] := by
        unfold wayStart wayAdd; rw [if_neg hlt, ef]; simp [midK]
      rw [ea]
      refine ⟨?_, [], [kAt X Y O 0], rfl, ?_, fun Q => ?_⟩
      · rw [Nat.add_zero, Nat.mod_eq_of_lt hf, ef]; rfl
      · rw [Nat.add_zero, Nat.mod_eq_of_lt hf, ef]; show _ = if O 0 then [] else _; rw [e0]; rfl
      · unfold runS startS; rw [if_neg hlt]; rfl
    | succ i ih => exact winv_step _ _ _ _ _ ih
/-- The closed way is cut into the contour's pieces. -/
theorem way_cut (n : Nat) (X Y : Nat → Int) (O : Nat → Bool) (hn : 0 < n) : ∃ w0 r, wayN (frs n O) n X Y O (wayStart n X Y O) n = w0 :: r ∧ w0.o = true ∧ cutR (w0.x, w0.y) [] (r ++ [w0]) = segsL n X Y O := by
  obtain ⟨w0, ho, hs, hall⟩ := winv_way n X Y O hn
  have h := hall (n - 1)
  rw [Nat.sub_add_cancel hn] at h
  obtain ⟨_, P, T, hW, hT, hQ⟩ := h
  have hf : frs n O < n := by unfold frs; split <;> omega
  refine ⟨w0, P ++ T, hW, ho, ?_⟩
  have hrun : segsL n X Y O = (stepS (frs n O) n X Y O (runS (frs n O) n X Y O (startS n X Y O) (n - 1)).1 (runS (frs n O) n X Y O (startS n X Y O) (n - 1)).2 (n - 1)).2 := by
    unfold segsL
    rw [if_neg (by omega)]
    have e : n = (n - 1) + 1 := by omega
    have e2 : (runS (frs n O) n X Y O (startS n X Y O) n).2 = (runS (frs n O) n X Y O (startS n X Y O) ((n - 1) + 1)).2 := by rw [← e]
    rw [e2]
    rfl
  rw [hrun, List.append_assoc, hQ]
  generalize runS (frs n O) n X Y O (startS n X Y O) (n - 1) = R at *
  have em : (frs n O + (n - 1) + 1) % n = frs n O := by
    rw [show frs n O + (n - 1) + 1 = frs n O + n by omega, Nat.add_mod_right, Nat.mod_eq_of_lt hf]
  unfold stepS
  rw [em]
  have hko : (kAt X Y O ((frs n O + (n - 1)) % n)).o = O ((frs n O + (n - 1)) % n) := rfl
  rw [hko] at hT
  obtain ⟨wx, wy, wo⟩ := w0
  simp only at ho hs hQ
  subst ho
  have hfo := firstOn_is O n
  by_cases hlt : firstOn O n < n
  · have ef : frs n O = firstOn O n := by unfold frs; rw [if_pos hlt]
    have eo : O (frs n O) = true := by rw [ef]; exact hfo.2.2 hlt
    rw [eo]
    unfold startS at hs
    rw [if_pos hlt, ← ef] at hs
    injection hs with hs1 hs2
    rw [← hs1, ← hs2]
    cases hk : O ((frs n O + (n - 1)) % n) <;> rw [hk] at hT <;> simp only [if_true, if_false, Bool.false_eq_true] at hT <;> subst hT
    · show cutR R.1 R.2 [kAt X Y O ((frs n O + (n - 1)) % n), ⟨wx, wy, true⟩] = _
      rw [cutR_off _ _ _ _ _ hk, cutR_nil]
      rfl
    · show cutR R.1 R.2 [⟨wx, wy, true⟩] = _
      rw [cutR_on _ _ _ _ rfl, cutR_nil]
      rfl
  · have ef : frs n O = 0 := by unfold frs; rw [if_neg hlt]
    have eo : O 0 = false := hfo.2.1 0 (by omega)
    have el : (frs n O + (n - 1)) % n = n - 1 := by rw [ef, Nat.zero_add, Nat.mod_eq_of_lt (by omega)]
    have eo' : O (n - 1) = false := hfo.2.1 (n - 1) (by omega)
    rw [el, ef, eo, eo']
    rw [el, eo'] at hT
    simp only [if_false, Bool.false_eq_true] at hT
    subst hT
    unfold startS at hs
    rw [if_neg hlt] at hs
    injection hs with hs1 hs2
    show cutR R.1 R.2 [kAt X Y O (n - 1), ⟨wx, wy, true⟩] = _
    rw [cutR_off _ _ _ _ _ eo', cutR_nil]
    simp only [if_false, Bool.false_eq_true]
    rw [← hs1, ← hs2]
    rfl
theorem wayAdd_len (W : List Kt) (k : Kt) : (wayAdd W k).length ≤ W.length + 2 ∧ W.length < (wayAdd W k).length := by
  unfold wayAdd
  split
  · split <;> simp
  · simp
theorem wayN_len (f n : Nat) (X Y : Nat → Int) (O : Nat → Bool) (W : List Kt) : ∀ i, (wayN f n X Y O W i).length ≤ W.length + 2 * i
  | 0 => by simp [wayN]
  | i + 1 => by
    have ih := wayN_len f n X Y O W i
    have h := (wayAdd_len (wayN f n X Y O W i) (kAt X Y O ((f + i) % n))).1
    unfold wayN
    omega
/-- The way ahead of a knot: with a middle, where it and the last one lie off the curve. -/
def wayPre (W : List Kt) (k : Kt) : List Kt := match W.getLast? with
  | some l => if !k.o && !l.o then W ++ [midK l k] else W
  | none => W
theorem wayAdd_eq (W : List Kt) (k : Kt) : wayAdd W k = wayPre W k ++ [k] := by
  unfold wayAdd wayPre
  split
  · split <;> rfl
  · rfl
theorem wayPre_len (W : List Kt) (k : Kt) : (wayPre W k).length ≤ W.length + 1 := by
  unfold wayPre
  split
  · split <;> simp
  · simp
theorem last_get {W : List Kt} {l : Kt} (h : W.getLast? = some l) : 0 < W.length ∧ W[W.length - 1]? = some l := by
  rw [List.getLast?_eq_getElem?] at h
  refine ⟨?_, h⟩
  cases W with
  | nil => simp at h
  | cons a r => simp
theorem wayPre_no {W : List Kt} {k : Kt} (h : lastOff W k = false) : wayPre W k = W := by
  unfold lastOff at h
  unfold wayPre
  cases hg : W.getLast? with
  | none => rfl
  | some l => rw [hg] at h; simp only at h ⊢; rw [h]; rfl
theorem wayPre_yes {W : List Kt} {k : Kt} (h : lastOff W k = true) : ∃ l, W.getLast? = some l ∧ wayPre W k = W ++ [midK l k] := by
  unfold lastOff at h
  unfold wayPre
  cases hg : W.getLast? with
  | none => rw [hg] at h; cases h
  | some l => rw [hg] at h; simp only at h ⊢; exact ⟨l, rfl, by rw [h]; rfl⟩
theorem wayN_in {f n : Nat} {X Y : Nat → Int} {O : Nat → Bool} (hn : 0 < n) (hX : ∀ j, j < n → InP (X j) (Y j)) : ∀ i, ∀ l, l ∈ wayN f n X Y O (wayStart n X Y O) i → InP l.x l.y
  | 0, l, h => by
    unfold wayN wayStart at h
    split at h
    · cases h
    · simp only [List.mem_cons, List.not_mem_nil, or_false] at h
      subst h
      exact ⟨mid_in (hX _ (by omega)).1 (hX _ hn).1, mid_in (hX _ (by omega)).2 (hX _ hn).2⟩
  | i + 1, l, h => by
    have ih := wayN_in (f := f) (O := O) hn hX i
    unfold wayN at h
    rw [wayAdd_eq] at h
    have hk : InP (kAt X Y O ((f + i) % n)).x (kAt X Y O ((f + i) % n)).y := hX _ (Nat.mod_lt _ hn)
    generalize kAt X Y O ((f + i) % n) = k at *
    generalize wayN f n X Y O (wayStart n X Y O) i = W at *
    rw [List.mem_append] at h
    rcases h with h | h
    · unfold wayPre at h
      split at h
      · rename_i l' hl
        split at h
        · rw [List.mem_append] at h
          rcases h with h | h
          · exact ih l h
          · simp only [List.mem_cons, List.not_mem_nil, or_false] at h
            subst h
            have hl' := ih l' (List.mem_of_getLast? hl)
            exact ⟨mid_in hl'.1 hk.1, mid_in hl'.2 hk.2⟩
        · exact ih l h
      · exact ih l h
    · simp only [List.mem_cons, List.not_mem_nil, or_false] at h
      subst h
      exact hk
theorem addS_len2 (L : List Sg) (s : Sg) : (addS L s).length ≤ L.length + 1 := addS_len L s
end Go.Proofs.Ytdbenpncnkfliaa
