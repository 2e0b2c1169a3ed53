/-
  Layer 11: a contour's pieces, knot by knot; begun with another knot they are the same, in another order.
-/
import Derived.Test.YtdbenpncnkfliaaOuG
namespace Go.Proofs.Ytdbenpncnkfliaa
open Go.RowKit
set_option linter.unusedVariables false

section
variable (n : Nat) (X Y : Nat → Int) (O : Nat → Bool)
/-- Where the way is, ahead of a knot's step. -/
def hereE (j : Nat) : Int × Int := if O j then (X j, Y j) else (if O ((j + n - 1) % n) then (X ((j + n - 1) % n), Y ((j + n - 1) % n)) else (mid (X ((j + n - 1) % n)) (X j), mid (Y ((j + n - 1) % n)) (Y j)))
/-- A knot's piece, or none. -/
def emitE (j : Nat) : List Sg :=
  if O j then (if O ((j + 1) % n) then addS [] ⟨(hereE n X Y O j).1, (hereE n X Y O j).2, 0, 0, X ((j + 1) % n), Y ((j + 1) % n), false⟩ else [])
  else (if O ((j + 1) % n) then addS [] ⟨(hereE n X Y O j).1, (hereE n X Y O j).2, X j, Y j, X ((j + 1) % n), Y ((j + 1) % n), true⟩
    else addS [] ⟨(hereE n X Y O j).1, (hereE n X Y O j).2, X j, Y j, mid (X j) (X ((j + 1) % n)), mid (Y j) (Y ((j + 1) % n)), true⟩)
theorem addS_nil (L : List Sg) (s : Sg) : addS L s = L ++ addS [] s := by unfold addS; split <;> simp
theorem prev_next {k : Nat} (hn : 0 < n) (hk : k < n) : ((k + 1) % n + n - 1) % n = k := by
  by_cases e : k + 1 < n
  · rw [Nat.mod_eq_of_lt e, show k + 1 + n - 1 = k + n by omega, Nat.add_mod_right, Nat.mod_eq_of_lt hk]
  · have e2 : k + 1 = n := by omega
    rw [e2, Nat.mod_self, Nat.zero_add, Nat.mod_eq_of_lt (by omega)]
    omega
theorem step_emit (f : Nat) (hn : 0 < n) (L : List Sg) (i : Nat) :
    stepS f n X Y O (hereE n X Y O ((f + i) % n)) L i = (hereE n X Y O ((f + i + 1) % n), L ++ emitE n X Y O ((f + i) % n)) := by
  have hk : (f + i) % n < n := Nat.mod_lt _ hn
  have em : (f + i + 1) % n = ((f + i) % n + 1) % n := by rw [Nat.mod_add_mod]
  unfold stepS
  rw [em]
  generalize (f + i) % n = k at *
  have hp := prev_next n hn hk
  clear em
  have hH : hereE n X Y O ((k + 1) % n) = if O ((k + 1) % n) then (X ((k + 1) % n), Y ((k + 1) % n)) else (if O k then (X k, Y k) else (mid (X k) (X ((k + 1) % n)), mid (Y k) (Y ((k + 1) % n)))) := by
    unfold hereE
    rw [hp]
  unfold emitE
  cases ho : O k <;> cases hm : O ((k + 1) % n) <;> rw [hH, ho, hm] <;> simp only [if_true, if_false, Bool.false_eq_true]
  · rw [addS_nil]
  · rw [addS_nil]
  · rw [List.append_nil]
    unfold hereE
    rw [ho]
    rfl
  · rw [addS_nil]
theorem run_emit (f : Nat) (hn : 0 < n) : ∀ i, runS f n X Y O (hereE n X Y O (f % n)) i = (hereE n X Y O ((f + i) % n), (List.range i).flatMap (fun t => emitE n X Y O ((f + t) % n)))
  | 0 => by simp [runS]
  | i + 1 => by
    have ih := run_emit f hn i
    show stepS f n X Y O (runS f n X Y O (hereE n X Y O (f % n)) i).1 (runS f n X Y O (hereE n X Y O (f % n)) i).2 i = _
    rw [ih]
    simp only
    rw [step_emit n X Y O f hn, List.range_succ, List.flatMap_append]
    simp [Nat.add_assoc]
theorem start_here (hn : 0 < n) : startS n X Y O = hereE n X Y O (frs n O % n) := by
  have hfo := firstOn_is O n
  unfold startS frs hereE
  by_cases hlt : firstOn O n < n
  · rw [if_pos hlt, if_pos hlt, Nat.mod_eq_of_lt hlt, hfo.2.2 hlt]
    rfl
  · rw [if_neg hlt, if_neg hlt, Nat.mod_eq_of_lt hn, hfo.2.1 0 (by omega), Nat.zero_add, Nat.mod_eq_of_lt (by omega), hfo.2.1 (n - 1) (by omega)]
    rfl
theorem segs_emit (hn : 0 < n) : segsL n X Y O = (List.range n).flatMap (fun t => emitE n X Y O ((frs n O + t) % n)) := by
  unfold segsL
  rw [if_neg (by omega), start_here n X Y O hn, run_emit n X Y O (frs n O) hn n]
end
theorem rot_perm (f n : Nat) (hf : f < n) : ((List.range n).map (fun t => (f + t) % n)).Perm (List.range n) := by
  obtain ⟨d, rfl⟩ : ∃ d, n = d + f := ⟨n - f, by omega⟩
  have h1 : (List.range (d + f)).map (fun t => (f + t) % (d + f)) = (List.range d).map (fun t => f + t) ++ List.range f := by
    rw [List.range_add, List.map_append, List.map_map]
    congr 1
    · apply List.map_congr_left
      intro t ht
      rw [List.mem_range] at ht
      rw [Nat.mod_eq_of_lt (by omega)]
    · conv => rhs; rw [← List.map_id (List.range f)]
      apply List.map_congr_left
      intro t ht
      rw [List.mem_range] at ht
      show (f + (d + t)) % (d + f) = t
      rw [show f + (d + t) = t + (d + f) by omega, Nat.add_mod_right, Nat.mod_eq_of_lt (by omega)]
  rw [h1]
  refine List.perm_append_comm.trans ?_
  rw [← List.range_add, Nat.add_comm f d]
theorem flat_rot {α : Type} (E : Nat → List α) (f n : Nat) (hf : f < n) : ((List.range n).flatMap (fun t => E ((f + t) % n))).Perm ((List.range n).flatMap E) := by
  have h : (List.range n).flatMap (fun t => E ((f + t) % n)) = ((List.range n).map (fun t => (f + t) % n)).flatMap E := by rw [List.flatMap_map]
  rw [h]
  exact (rot_perm f n hf).flatMap_right E
theorem flat_congr {α β : Type} {E E' : α → List β} : ∀ l : List α, (∀ t, t ∈ l → E t = E' t) → l.flatMap E = l.flatMap E'
  | [], h => rfl
  | a :: l, h => by rw [List.flatMap_cons, List.flatMap_cons, h a (by simp), flat_congr l (fun t ht => h t (by simp [ht]))]
theorem segs_perm (n : Nat) (X Y : Nat → Int) (O : Nat → Bool) (hn : 0 < n) : (segsL n X Y O).Perm ((List.range n).flatMap (emitE n X Y O)) := by
  rw [segs_emit n X Y O hn]
  exact flat_rot _ _ _ (by unfold frs; split <;> omega)
theorem emit_congr {n : Nat} {X Y X' Y' : Nat → Int} {O O' : Nat → Bool} {k : Nat} (hn : 0 < n) (hX : ∀ j, j < n → X' j = X ((k + j) % n)) (hY : ∀ j, j < n → Y' j = Y ((k + j) % n)) (hO : ∀ j, j < n → O' j = O ((k + j) % n)) {j : Nat} (hj : j < n) :
    emitE n X' Y' O' j = emitE n X Y O ((k + j) % n) := by
  have hm : (j + 1) % n < n := Nat.mod_lt _ hn
  have hp : (j + n - 1) % n < n := Nat.mod_lt _ hn
  have e1 : (k + (j + 1) % n) % n = ((k + j) % n + 1) % n := by rw [Nat.add_mod_mod, Nat.mod_add_mod, Nat.add_assoc]
  have e2 : (k + (j + n - 1) % n) % n = ((k + j) % n + n - 1) % n := by
    rw [Nat.add_mod_mod]
    have hq : (k + j) % n < n := Nat.mod_lt _ hn
    have h := Nat.div_add_mod (k + j) n
    have e : k + (j + n - 1) = ((k + j) % n + n - 1) + n * ((k + j) / n) := by omega
    rw [e, Nat.add_mul_mod_self_left]
  unfold emitE hereE
  rw [hX j hj, hY j hj, hO j hj, hX _ hm, hY _ hm, hO _ hm, hX _ hp, hY _ hp, hO _ hp, e1, e2]
/-- A contour begun with another knot. -/
theorem segs_begun {n : Nat} {X Y X' Y' : Nat → Int} {O O' : Nat → Bool} {k : Nat} (hn : 0 < n) (hk : k < n) (hX : ∀ j, j < n → X' j = X ((k + j) % n)) (hY : ∀ j, j < n → Y' j = Y ((k + j) % n)) (hO : ∀ j, j < n → O' j = O ((k + j) % n)) :
    (segsL n X Y O).Perm (segsL n X' Y' O') := by
  refine (segs_perm n X Y O hn).trans (List.Perm.symm ?_)
  refine (segs_perm n X' Y' O' hn).trans ?_
  have h : (List.range n).flatMap (emitE n X' Y' O') = (List.range n).flatMap (fun t => emitE n X Y O ((k + t) % n)) := by
    exact flat_congr _ fun t ht => emit_congr hn hX hY hO (List.mem_range.1 ht)
  rw [h]
  exact flat_rot _ _ _ hk
end Go.Proofs.Ytdbenpncnkfliaa
