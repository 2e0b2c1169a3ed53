/-
  Layer 7: the law SimpleMoves, walked.
-/
import Derived.Test.YtpplnapfpoloiaaSjK
import Derived.Test.YtpplnapfpoloiaaSiY
import Derived.Test.YtpplnapfpoloiaaSjC
import Derived.Deep.RegionWith
import Derived.BigRegion
namespace Go.Proofs.Ytpplnapfpoloiaa
open Go.RowKit Go.ChangeShapes Go.WideShapes Go.Deep
set_option linter.unusedVariables false
set_option linter.unusedSimpArgs false

/-- A point moved. -/
def mvK (x y : Int) (k : Kt) : Kt := ⟨k.x + x, k.y + y, k.o⟩
/-- A contour of which the first t points are moved. -/
def inL7 (x y : Int) (t : Nat) (L : List Kt) : List Kt := (L.take t).map (mvK x y) ++ L.drop t
theorem inL7_zero (x y : Int) (L : List Kt) : inL7 x y 0 L = L := by simp [inL7]
theorem inL7_all (x y : Int) (L : List Kt) : inL7 x y L.length L = L.map (mvK x y) := by simp [inL7]
theorem inL7_len (x y : Int) (t : Nat) (L : List Kt) : (inL7 x y t L).length = L.length := by
  unfold inL7; rw [List.length_append, List.length_map, List.length_take, List.length_drop]; omega
theorem inL7_get (x y : Int) {t : Nat} {L : List Kt} {K : Kt} (h : L[t]? = some K) : (inL7 x y t L)[t]? = some K := by
  have ht : t < L.length := by
    rcases Nat.lt_or_ge t L.length with h1 | h1
    · exact h1
    · rw [List.getElem?_eq_none h1] at h; cases h
  unfold inL7
  rw [List.getElem?_append_right (by rw [List.length_map, List.length_take]; omega), List.length_map, List.length_take, List.getElem?_drop, ← h]
  congr 1
  omega
theorem inL7_step (x y : Int) {t : Nat} {L : List Kt} {K : Kt} (h : L[t]? = some K) : inL7 x y (t + 1) L = (inL7 x y t L).set t (mvK x y K) := by
  have ht : t < L.length := by
    rcases Nat.lt_or_ge t L.length with h1 | h1
    · exact h1
    · rw [List.getElem?_eq_none h1] at h; cases h
  have hd : L.drop t = K :: L.drop (t + 1) := by
    rw [List.drop_eq_getElem_cons ht]
    congr 1
    rw [List.getElem?_eq_getElem ht] at h
    exact Option.some.inj h
  have hl : ((L.take t).map (mvK x y)).length = t := by rw [List.length_map, List.length_take]; omega
  unfold inL7
  rw [hd, List.set_append_right _ _ (by omega), hl, Nat.sub_self, List.set_cons_zero, List.take_succ_eq_append_getElem ht, List.map_append]
  rw [List.getElem?_eq_getElem ht] at h
  injection h with h
  rw [h]
  simp
/-- An outline of which the contours ahead of i are moved, and t points of i. -/
def Cur7 (x y : Int) (i t : Nat) (LL LLs : List (List Kt)) : Prop := LLs.length = LL.length ∧ ∀ (j : Nat) L, LL[j]? = some L → LLs[j]? = some (if j < i then L.map (mvK x y) else if j = i then inL7 x y t L else L)
theorem cur_start (x y : Int) (LL : List (List Kt)) : Cur7 x y 0 0 LL LL := ⟨rfl, fun j L h => by
  rw [if_neg (by omega), inL7_zero, ite_self]; exact h⟩
theorem cur_next {x y : Int} {i : Nat} {LL LLs : List (List Kt)} {L : List Kt} (hL : LL[i]? = some L) (h : Cur7 x y i L.length LL LLs) : Cur7 x y (i + 1) 0 LL LLs := ⟨h.1, fun j M hj => by
  have := h.2 j M hj
  rw [this]
  by_cases h1 : j < i
  · rw [if_pos h1, if_pos (by omega)]
  · by_cases h2 : j = i
    · subst h2
      rw [hL] at hj
      injection hj with hj
      subst hj
      rw [if_neg h1, if_pos rfl, inL7_all, if_pos (by omega)]
    · rw [if_neg h1, if_neg h2, if_neg (by omega), inL7_zero, ite_self]⟩
theorem cur_row {x y : Int} {i t : Nat} {LL LLs : List (List Kt)} {L : List Kt} (hL : LL[i]? = some L) (h : Cur7 x y i t LL LLs) : LLs[i]? = some (inL7 x y t L) := by
  have := h.2 i L hL
  rw [if_neg (by omega), if_pos rfl] at this
  exact this
theorem cur_step {x y : Int} {i t : Nat} {LL LLs : List (List Kt)} {L : List Kt} {K : Kt} (hL : LL[i]? = some L) (hK : L[t]? = some K) (h : Cur7 x y i t LL LLs) : Cur7 x y i (t + 1) LL (LLs.set i ((inL7 x y t L).set t ⟨K.x + x, K.y + y, K.o⟩)) := by
  refine ⟨by rw [List.length_set]; exact h.1, fun j M hj => ?_⟩
  have hi : i < LLs.length := by
    rcases Nat.lt_or_ge i LL.length with h1 | h1
    · rw [h.1]; exact h1
    · rw [List.getElem?_eq_none h1] at hL; cases hL
  by_cases h2 : j = i
  · subst h2
    rw [hL] at hj
    injection hj with hj
    subst hj
    rw [List.getElem?_set_self hi, if_neg (by omega), if_pos rfl, inL7_step x y hK]
    rfl
  · rw [List.getElem?_set_ne (fun e => h2 e.symm), h.2 j M hj, if_neg h2, if_neg h2]
theorem cur_end {x y : Int} {LL LLs : List (List Kt)} (h : Cur7 x y LL.length 0 LL LLs) : LLs = LL.map (List.map (mvK x y)) := by
  apply List.ext_getElem?
  intro j
  by_cases hj : j < LL.length
  · rw [h.2 j _ (List.getElem?_eq_getElem hj), if_pos hj, List.getElem?_map, List.getElem?_eq_getElem hj]; rfl
  · rw [List.getElem?_eq_none (by rw [h.1]; omega), List.getElem?_eq_none (by rw [List.length_map]; omega)]
theorem mv_flat (x y : Int) (LL : List (List Kt)) : (LL.map (List.map (mvK x y))).flatten = LL.flatten.map (mvK x y) := by
  induction LL with
  | nil => rfl
  | cons L LL ih => rw [List.map_cons, List.flatten_cons, ih, List.flatten_cons, List.map_append]
theorem mv_x (x y : Int) (L : List Kt) : (L.map (mvK x y)).map Kt.x = (L.map Kt.x).map (· + x) := by
  rw [List.map_map, List.map_map]; rfl
theorem mv_y (x y : Int) (L : List Kt) : (L.map (mvK x y)).map Kt.y = (L.map Kt.y).map (· + y) := by
  rw [List.map_map, List.map_map]; rfl
theorem mn7_sh {l : List Int} (h : ∀ x ∈ l, Sh x) : Sh (mn7 l) := by
  unfold mn7
  cases l with
  | nil => unfold Sh; simp
  | cons a r => exact foldl_min_sh _ _ (h a (by simp)) h
theorem mx7_sh {l : List Int} (h : ∀ x ∈ l, Sh x) : Sh (mx7 l) := by
  unfold mx7
  cases l with
  | nil => unfold Sh; simp
  | cons a r => exact foldl_max_sh _ _ (h a (by simp)) h
/-- The box of a moved outline that can be written. -/
theorem mv_box {x y : Int} {LL : List (List Kt)} {C : List Int} (h0 : LL ≠ []) (he : glE (LL.map (List.map (mvK x y))) C = 0) :
    (mn7 ((LL.map (List.map (mvK x y))).flatten.map Kt.x) = mn7 (LL.flatten.map Kt.x) + x ∧ Sh (mn7 (LL.flatten.map Kt.x) + x)) ∧ (mn7 ((LL.map (List.map (mvK x y))).flatten.map Kt.y) = mn7 (LL.flatten.map Kt.y) + y ∧ Sh (mn7 (LL.flatten.map Kt.y) + y)) ∧
    (mx7 ((LL.map (List.map (mvK x y))).flatten.map Kt.x) = mx7 (LL.flatten.map Kt.x) + x ∧ Sh (mx7 (LL.flatten.map Kt.x) + x)) ∧ (mx7 ((LL.map (List.map (mvK x y))).flatten.map Kt.y) = mx7 (LL.flatten.map Kt.y) + y ∧ Sh (mx7 (LL.flatten.map Kt.y) + y)) := by
  have h1 : lsK (LL.map (List.map (mvK x y))) ≠ [] := by
    unfold lsK
    cases LL with
    | nil => exact absurd rfl h0
    | cons a r => simp
  obtain ⟨k1, _, _, k4, k5⟩ := wrE7_ok h1 he
  have hne : LL.flatten ≠ [] := by
    cases LL with
    | nil => exact absurd rfl h0
    | cons a r =>
      have := k1 a.length (by simp [lsK])
      intro e
      rw [List.flatten_cons, List.append_eq_nil_iff] at e
      rw [e.1] at this
      simp at this
  have hx := stepsOk_sh _ _ k4
  have hy := stepsOk_sh _ _ k5
  unfold xsK at hx
  unfold ysK at hy
  rw [mv_flat, mv_x] at hx
  rw [mv_flat, mv_y] at hy
  have hnx : LL.flatten.map Kt.x ≠ [] := by simpa using hne
  have hny : LL.flatten.map Kt.y ≠ [] := by simpa using hne
  rw [mv_flat, mv_x, mv_y, mn7_add hnx, mn7_add hny, mx7_add hnx, mx7_add hny]
  exact ⟨⟨rfl, by rw [← mn7_add hnx]; exact mn7_sh hx⟩, ⟨rfl, by rw [← mn7_add hny]; exact mn7_sh hy⟩, ⟨rfl, by rw [← mx7_add hnx]; exact mx7_sh hx⟩, ⟨rfl, by rw [← mx7_add hny]; exact mx7_sh hy⟩⟩
end Go.Proofs.Ytpplnapfpoloiaa
