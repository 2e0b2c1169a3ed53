/-
  Layer 11: a contour gone the other way has the same pieces, gone the other way: as lists.
-/
import Derived.Test.YtdbenpncnkfliaaOuU
import Derived.Test.YtdbenpncnkfliaaOuV
namespace Go.Proofs.Ytdbenpncnkfliaa
open Go.RowKit
set_option linter.unusedVariables false

theorem flipS_flipS (s : Sg) : flipS (flipS s) = s := rfl
theorem sgOk_flip (s : Sg) : sgOk (flipS s) = sgOk s := by
  obtain ⟨ax, ay, cx, cy, bx, bz, k⟩ := s
  unfold sgOk flipS
  simp only
  by_cases e1 : ax = bx
  · by_cases e2 : ay = bz
    · subst e1 e2; rfl
    · subst e1
      have h1 : (ay == bz) = false := by simp [e2]
      have h2 : (bz == ay) = false := by simp; exact fun e => e2 e.symm
      simp [h1, h2]
  · have h1 : (ax == bx) = false := by simp [e1]
    have h2 : (bx == ax) = false := by simp; exact fun e => e1 e.symm
    simp [h1, h2]
theorem addS_flip (s : Sg) : addS [] (flipS s) = (addS [] s).map flipS := by
  unfold addS
  rw [sgOk_flip]
  split <;> rfl
section
variable (n : Nat) (X Y : Nat → Int) (O : Nat → Bool)
def nxt (j : Nat) : Nat := (j + 1) % n
def prv (j : Nat) : Nat := (j + n - 1) % n
/-- The straight piece between two knots on the curve. -/
def lineQ (i m : Nat) : List Sg := if O i && O m then addS [] ⟨X i, Y i, 0, 0, X m, Y m, false⟩ else []
/-- The end of a curve, towards another knot. -/
def endQ (i m : Nat) : Int × Int := if O m then (X m, Y m) else (mid (X i) (X m), mid (Y i) (Y m))
/-- The curve of a knot between two others. -/
def curveQ (p i m : Nat) : List Sg := if O i then [] else addS [] ⟨(endQ X Y O i p).1, (endQ X Y O i p).2, X i, Y i, (endQ X Y O i m).1, (endQ X Y O i m).2, true⟩
theorem emit_parts (j : Nat) : emitE n X Y O j = lineQ X Y O j (nxt n j) ++ curveQ X Y O (prv n j) j (nxt n j) := by
  unfold emitE lineQ curveQ endQ hereE nxt prv
  have mc : ∀ a b, mid a b = mid b a := fun a b => by unfold mid; rw [Int.add_comm]
  cases h1 : O j <;> cases h2 : O ((j + 1) % n) <;> cases h3 : O ((j + n - 1) % n) <;> simp [mc (X j) (X ((j + n - 1) % n)), mc (Y j) (Y ((j + n - 1) % n))]
end
theorem line_flip (X Y : Nat → Int) (O : Nat → Bool) (i m : Nat) : lineQ X Y O m i = (lineQ X Y O i m).map flipS := by
  unfold lineQ
  rw [Bool.and_comm]
  split
  · rw [← addS_flip]; rfl
  · rfl
theorem curve_flip (X Y : Nat → Int) (O : Nat → Bool) (p i m : Nat) : curveQ X Y O m i p = (curveQ X Y O p i m).map flipS := by
  unfold curveQ
  split
  · rfl
  · rw [← addS_flip]; rfl
theorem flat_parts {α β : Type} (E F : α → List β) : ∀ l : List α, (l.flatMap (fun t => E t ++ F t)).Perm (l.flatMap E ++ l.flatMap F)
  | [] => List.Perm.refl _
  | a :: l => by
    rw [List.flatMap_cons, List.flatMap_cons, List.flatMap_cons, List.append_assoc, List.append_assoc]
    refine List.Perm.append_left _ ?_
    refine ((flat_parts E F l).append_left _).trans ?_
    rw [← List.append_assoc, ← List.append_assoc]
    exact List.perm_append_comm.append_right _
theorem flat_map_perm {α : Type} (E : Nat → List α) (n : Nat) (s : Nat → Nat) (h : ((List.range n).map s).Perm (List.range n)) : ((List.range n).flatMap (fun t => E (s t))).Perm ((List.range n).flatMap E) := by
  have e : (List.range n).flatMap (fun t => E (s t)) = ((List.range n).map s).flatMap E := by rw [List.flatMap_map]
  rw [e]
  exact h.flatMap_right E
theorem rev_perm (n : Nat) : ((List.range n).map (fun j => n - 1 - j)).Perm (List.range n) := by
  have e : (List.range n).map (fun j => n - 1 - j) = (List.range n).reverse := by
    apply List.ext_getElem?
    intro j
    by_cases hj : j < n
    · rw [List.getElem?_map, List.getElem?_range hj, List.getElem?_reverse (by simpa using hj), List.length_range, List.getElem?_range (by omega)]
      rfl
    · rw [List.getElem?_eq_none (by simp; omega), List.getElem?_eq_none (by simp; omega)]
  rw [e]
  exact List.reverse_perm _
theorem rev_next_perm (n : Nat) (hn : 0 < n) : ((List.range n).map (fun j => n - 1 - (j + 1) % n)).Perm (List.range n) := by
  have e : (List.range n).map (fun j => n - 1 - (j + 1) % n) = ((List.range n).map (fun t => (1 % n + t) % n)).map (fun j => n - 1 - j) := by
    rw [List.map_map]
    apply List.map_congr_left
    intro t ht
    show n - 1 - (t + 1) % n = n - 1 - (1 % n + t) % n
    rw [Nat.mod_add_mod, Nat.add_comm t 1]
  rw [e]
  exact ((rot_perm (1 % n) n (Nat.mod_lt _ hn)).map _).trans (rev_perm n)
theorem rev_next {n j : Nat} (hj : j < n) : n - 1 - (j + 1) % n = (n - 1 - j + n - 1) % n := by
  by_cases e : j + 1 < n
  · rw [Nat.mod_eq_of_lt e, show n - 1 - j + n - 1 = (n - 1 - (j + 1)) + n by omega, Nat.add_mod_right, Nat.mod_eq_of_lt (by omega)]
  · have e2 : j + 1 = n := by omega
    rw [e2, Nat.mod_self, show n - 1 - j + n - 1 = n - 1 by omega, Nat.mod_eq_of_lt (by omega)]
    omega
theorem rev_prev {n j : Nat} (hj : j < n) : n - 1 - (j + n - 1) % n = (n - 1 - j + 1) % n := by
  by_cases e : j = 0
  · subst e
    rw [show 0 + n - 1 = n - 1 by omega, Nat.mod_eq_of_lt (by omega), show n - 1 - 0 + 1 = n by omega, Nat.mod_self]
    omega
  · rw [show j + n - 1 = (j - 1) + n by omega, Nat.add_mod_right, Nat.mod_eq_of_lt (by omega), Nat.mod_eq_of_lt (by omega)]
    omega
theorem next_prev {n k : Nat} (hk : k < n) : ((k + n - 1) % n + 1) % n = k := by
  by_cases e : k = 0
  · subst e
    rw [show 0 + n - 1 = n - 1 by omega, Nat.mod_eq_of_lt (show n - 1 < n by omega), show n - 1 + 1 = n by omega, Nat.mod_self]
  · rw [show k + n - 1 = (k - 1) + n by omega, Nat.add_mod_right, Nat.mod_eq_of_lt (show k - 1 < n by omega), show k - 1 + 1 = k by omega, Nat.mod_eq_of_lt hk]
/-- A contour gone the other way. -/
theorem segs_flipped {n : Nat} {X Y X' Y' : Nat → Int} {O O' : Nat → Bool} (hX : ∀ j, j < n → X' j = X (n - 1 - j)) (hY : ∀ j, j < n → Y' j = Y (n - 1 - j)) (hO : ∀ j, j < n → O' j = O (n - 1 - j)) :
    (segsL n X Y O).Perm ((segsL n X' Y' O').map flipS) := by
  rcases Nat.eq_zero_or_pos n with h0 | hn
  · subst h0; exact List.Perm.refl _
  have hp : ∀ (X Y : Nat → Int) (O : Nat → Bool), (segsL n X Y O).Perm ((List.range n).flatMap (fun j => lineQ X Y O j (nxt n j)) ++ (List.range n).flatMap (fun j => curveQ X Y O (prv n j) j (nxt n j))) := fun X Y O => by
    refine (segs_perm n X Y O hn).trans ?_
    rw [flat_congr _ (fun t _ => emit_parts n X Y O t)]
    exact flat_parts _ _ _
  refine (hp X Y O).trans ?_
  refine List.Perm.trans ?_ ((hp X' Y' O').map flipS).symm
  rw [List.map_append]
  refine List.Perm.append ?_ ?_
  · have e : ((List.range n).flatMap (fun j => lineQ X' Y' O' j (nxt n j))).map flipS = (List.range n).flatMap (fun j => (fun i => lineQ X Y O i (nxt n i)) (n - 1 - (j + 1) % n)) := by
      rw [List.map_flatMap]
      refine flat_congr _ fun j hj => ?_
      have hj := List.mem_range.1 hj
      have hm : (j + 1) % n < n := Nat.mod_lt _ hn
      have e1 : nxt n (n - 1 - (j + 1) % n) = n - 1 - j := by
        unfold nxt
        rw [rev_next hj]
        exact next_prev (show n - 1 - j < n by omega)
      show (lineQ X' Y' O' j (nxt n j)).map flipS = lineQ X Y O (n - 1 - (j + 1) % n) (nxt n (n - 1 - (j + 1) % n))
      rw [e1, ← line_flip]
      unfold lineQ nxt
      rw [hX j hj, hY j hj, hO j hj, hX _ hm, hY _ hm, hO _ hm]
    rw [e]
    exact (flat_map_perm (fun i => lineQ X Y O i (nxt n i)) n _ (rev_next_perm n hn)).symm
  · have e : ((List.range n).flatMap (fun j => curveQ X' Y' O' (prv n j) j (nxt n j))).map flipS = (List.range n).flatMap (fun j => (fun i => curveQ X Y O (prv n i) i (nxt n i)) (n - 1 - j)) := by
      rw [List.map_flatMap]
      refine flat_congr _ fun j hj => ?_
      have hj := List.mem_range.1 hj
      have hm : (j + 1) % n < n := Nat.mod_lt _ hn
      have hq : (j + n - 1) % n < n := Nat.mod_lt _ hn
      have e1 := rev_next hj
      have e2 := rev_prev hj
      show (curveQ X' Y' O' (prv n j) j (nxt n j)).map flipS = curveQ X Y O (prv n (n - 1 - j)) (n - 1 - j) (nxt n (n - 1 - j))
      rw [← curve_flip]
      unfold curveQ endQ nxt prv
      rw [hX j hj, hY j hj, hO j hj, hX _ hm, hY _ hm, hO _ hm, hX _ hq, hY _ hq, hO _ hq, e1, e2]
    rw [e]
    exact (flat_map_perm (fun i => curveQ X Y O (prv n i) i (nxt n i)) n _ (rev_perm n)).symm
end Go.Proofs.Ytdbenpncnkfliaa
