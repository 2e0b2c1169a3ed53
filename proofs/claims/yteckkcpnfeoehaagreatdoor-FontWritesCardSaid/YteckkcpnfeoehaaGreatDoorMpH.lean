/-
  Texts of this seat, put together: each with its own head.
-/
import Derived.Test.YteckkcpnfeoehaaGreatDoorMpG

/-
  Layer 4: what is written is read back: where the adjustment lies; an entry of a font's bytes.
-/
namespace Go.Proofs.YteckkcpnfeoehaaGreatDoor
set_option maxRecDepth 100000
open Go.RowKit Go.ChangeShapes Go.WideShapes Go.Deep
set_option linter.unusedVariables false
set_option linter.unusedSimpArgs false

theorem adj4_at : ∀ (TT : List Tb) (x : Int) (a : Nat), adj4 x a TT = x ∨ ∃ (k : Nat) (T : Tb), TT[k]? = some T ∧ adjT T = true ∧ adj4 x a TT = (end4 a (TT.take k) : Int) + 8 := by
  intro TT
  induction TT with
  | nil => intro x a; exact .inl rfl
  | cons U r ih =>
    intro x a
    unfold adj4
    have e : ∀ k, end4 a ((U :: r).take (k + 1)) = end4 (a + pad4 U.data.length) (r.take k) := fun k => by
      unfold end4; rw [List.take_succ_cons, List.map_cons, List.sum_cons, Nat.add_assoc]
    by_cases hU : adjT U = true
    · rw [if_pos hU]
      rcases ih ((a : Int) + 8) (a + pad4 U.data.length) with h | ⟨k, T, h1, h2, h3⟩
      · right
        exact ⟨0, U, rfl, hU, by rw [h]; simp [end4]⟩
      · right
        exact ⟨k + 1, T, by rw [List.getElem?_cons_succ]; exact h1, h2, by rw [h3, e]⟩
    · rw [if_neg hU]
      rcases ih x (a + pad4 U.data.length) with h | ⟨k, T, h1, h2, h3⟩
      · exact .inl h
      · right
        exact ⟨k + 1, T, by rw [List.getElem?_cons_succ]; exact h1, h2, by rw [h3, e]⟩
theorem end4_ge (a : Nat) (TT : List Tb) : a ≤ end4 a TT := by unfold end4; omega
theorem end4_step {TT : List Tb} {j : Nat} {T : Tb} (a : Nat) (h : TT[j]? = some T) : end4 a (TT.take (j + 1)) = end4 a (TT.take j) + pad4 T.data.length := by
  have hj : j < TT.length := by
    rcases Nat.lt_or_ge j TT.length with h2 | h2
    · exact h2
    · rw [List.getElem?_eq_none h2] at h; cases h
  have e : TT[j] = T := by rw [List.getElem?_eq_getElem hj] at h; injection h
  rw [List.take_succ_eq_append_getElem hj, e, end4_snoc]
theorem end4_mono (a : Nat) (TT : List Tb) (j k : Nat) (h : j ≤ k) : end4 a (TT.take j) ≤ end4 a (TT.take k) := by
  have h1 := end4_take_le (TT.take k) a j
  rw [List.take_take, Nat.min_eq_left h] at h1
  exact h1
/-- A font's bytes: those ahead of the adjustment, but for it. -/
theorem file4_cut {TT : List Tb} (h : right4 TT) (p m : Nat) (hp : adj4 (-1) (12 + 16 * TT.length) TT < 0 ∨ ((p + m : Nat) : Int) ≤ adj4 (-1) (12 + 16 * TT.length) TT ∨ adj4 (-1) (12 + 16 * TT.length) TT + 4 ≤ (p : Int)) : cutL (file4 TT) p m = cutL (raw4 TT) p m := by
  have hs : ∀ T, T ∈ TT → T.tag.size = 4 := fun T hT => by
    obtain ⟨j, hj⟩ := List.mem_iff_getElem?.1 hT
    exact (h.2.2.2.1 j T hj).1
  have hl := raw4_len hs
  unfold size4 at hl
  have ha := adj4_ok TT (-1) (12 + 16 * TT.length)
  unfold file4
  by_cases hn : adj4 (-1) (12 + 16 * TT.length) TT < 0
  · rw [if_pos hn]
  · rw [if_neg hn]
    have hM := putL_len ((2981146554 - sumI (raw4 TT)) % 4294967296) 4
    generalize adj4 (-1) (12 + 16 * TT.length) TT = x at *
    obtain ⟨q, rfl⟩ : ∃ q : Nat, x = q := ⟨x.toNat, by omega⟩
    rw [Int.toNat_natCast]
    rcases hp with h1 | h1 | h1
    · omega
    · exact cutL_lay_ahead _ _ _ _ _ (by omega) (by omega)
    · exact cutL_lay_behind _ _ _ _ _ (by omega) (by omega)
/-- The j-th entry. -/
theorem file4_entry {TT : List Tb} (h : right4 TT) {j : Nat} {T : Tb} (hj : TT[j]? = some T) : cutL (file4 TT) (12 + 16 * j) 16 = ent4 T (end4 (12 + 16 * TT.length) (TT.take j)) := by
  have hs : ∀ T, T ∈ TT → T.tag.size = 4 := fun T hT => by
    obtain ⟨j, hj⟩ := List.mem_iff_getElem?.1 hT
    exact (h.2.2.2.1 j T hj).1
  have hjl : j < TT.length := by
    rcases Nat.lt_or_ge j TT.length with h2 | h2
    · exact h2
    · rw [List.getElem?_eq_none h2] at hj; cases hj
  have ha := adj4_ok TT (-1) (12 + 16 * TT.length)
  rw [file4_cut h (12 + 16 * j) 16 (by omega)]
  unfold raw4
  have hd := dir4_len TT.length
  have he := ents4_len TT (12 + 16 * TT.length) hs
  rw [cutL_app_left (by rw [List.length_append]; omega), show 12 + 16 * j = (dir4 TT.length).length + 16 * j by rw [hd], cutL_app_right]
  exact ents4_cut TT _ j T hs hj
end Go.Proofs.YteckkcpnfeoehaaGreatDoor

/-
  Layer 4: what is written is read back: a table's data.
-/
namespace Go.Proofs.YteckkcpnfeoehaaGreatDoor
set_option maxRecDepth 100000
open Go.RowKit Go.ChangeShapes Go.WideShapes Go.Deep
set_option linter.unusedVariables false
set_option linter.unusedSimpArgs false

theorem adjT_len {s : ByteArray} {L M : List Int} (h : L.length = M.length) : adjT ⟨s, L⟩ = adjT ⟨s, M⟩ := by
  unfold adjT; simp only; rw [h]
theorem adjT_12 {T : Tb} (h : adjT T = true) : 12 ≤ T.data.length := by
  unfold adjT at h
  rw [Bool.and_eq_true] at h
  exact of_decide_eq_true h.2
theorem blank_by {s : ByteArray} {L M : List Int} (hl : L.length = M.length) (h1 : L.take 8 = M.take 8) (h2 : L.drop 12 = M.drop 12) (h : adjT ⟨s, L⟩ = true) : blank4 ⟨s, L⟩ = blank4 ⟨s, M⟩ := by
  unfold blank4
  rw [← adjT_len hl, if_pos h, if_pos h]
  simp only
  rw [h1, h2]
theorem blank_idem (T : Tb) : blank4 ⟨T.tag, blank4 T⟩ = blank4 T := by
  have hl : (blank4 T).length = T.data.length := blank4_len T
  have ha : adjT ⟨T.tag, blank4 T⟩ = adjT T := adjT_len (s := T.tag) hl
  by_cases h : adjT T = true
  · have h12 := adjT_12 h
    have hb : blank4 T = T.data.take 8 ++ ([0, 0, 0, 0] ++ T.data.drop 12) := by unfold blank4; rw [if_pos h]
    have h8 : (T.data.take 8).length = 8 := by rw [List.length_take]; omega
    have e := blank_by (s := T.tag) (L := blank4 T) (M := T.data) hl (by rw [hb, List.take_append_of_le_length (by omega), List.take_take]; rfl) (by
      rw [hb, List.drop_append, List.drop_eq_nil_of_le (by omega), h8, List.nil_append]; rfl) (ha.trans h)
    exact e
  · have hb : blank4 ⟨T.tag, blank4 T⟩ = blank4 T := by
      rw [show blank4 ⟨T.tag, blank4 T⟩ = if adjT ⟨T.tag, blank4 T⟩ then (blank4 T).take 8 ++ ([0, 0, 0, 0] ++ (blank4 T).drop 12) else blank4 T from rfl, ha, if_neg h]
    exact hb
theorem raw4_data {TT : List Tb} (h : right4 TT) {j : Nat} {T : Tb} (hj : TT[j]? = some T) : cutL (raw4 TT) (end4 (12 + 16 * TT.length) (TT.take j)) T.data.length = blank4 T := by
  have hs : ∀ T, T ∈ TT → T.tag.size = 4 := fun T hT => by
    obtain ⟨j, hj⟩ := List.mem_iff_getElem?.1 hT
    exact (h.2.2.2.1 j T hj).1
  have hd : (dir4 TT.length ++ ents4 (12 + 16 * TT.length) TT).length = 12 + 16 * TT.length := by rw [List.length_append, dir4_len, ents4_len _ _ hs]
  have hg := end4_ge (12 + 16 * TT.length) (TT.take j)
  have hb := body4_cut TT (12 + 16 * TT.length) j T hj
  unfold raw4
  rw [show end4 (12 + 16 * TT.length) (TT.take j) = (dir4 TT.length ++ ents4 (12 + 16 * TT.length) TT).length + (end4 (12 + 16 * TT.length) (TT.take j) - (12 + 16 * TT.length)) by rw [hd]; omega, cutL_app_right]
  exact hb
theorem cutL_take (L : List Int) (p m k : Nat) (h : k ≤ m) : (cutL L p m).take k = cutL L p k := by
  unfold cutL; rw [List.take_take, Nat.min_eq_left h]
theorem cutL_drop (L : List Int) (p m k : Nat) (h : k ≤ m) : (cutL L p m).drop k = cutL L (p + k) (m - k) := by
  unfold cutL; rw [List.drop_take, List.drop_drop]
/-- A table's data as they lie in a font's bytes, the adjustment struck. -/
theorem file4_data {TT : List Tb} (h : right4 TT) {j : Nat} {T : Tb} (hj : TT[j]? = some T) : blank4 ⟨T.tag, cutL (file4 TT) (end4 (12 + 16 * TT.length) (TT.take j)) T.data.length⟩ = blank4 T := by
  have hr := raw4_data h hj
  have hst := end4_step (12 + 16 * TT.length) hj
  have hp := pad4_le T.data.length
  rcases adj4_at TT (-1) (12 + 16 * TT.length) with ha | ⟨k, U, hk, hU, ha⟩
  · rw [file4_cut h _ _ (.inl (by omega)), hr]
    exact blank_idem T
  · have hst2 := end4_step (12 + 16 * TT.length) hk
    have hp2 := pad4_le U.data.length
    have h12 := adjT_12 hU
    rcases Nat.lt_trichotomy k j with hlt | rfl | hlt
    · have hm := end4_mono (12 + 16 * TT.length) TT (k + 1) j hlt
      rw [file4_cut h _ _ (.inr (.inr (by omega))), hr]
      exact blank_idem T
    · rw [hj] at hk
      injection hk with hk
      subst hk
      have hrl : (cutL (raw4 TT) (end4 (12 + 16 * TT.length) (TT.take k)) T.data.length).length = T.data.length := by rw [hr, blank4_len]
      have hsz : (file4 TT).length = (raw4 TT).length := by
        have hs : ∀ T, T ∈ TT → T.tag.size = 4 := fun T hT => by
          obtain ⟨j, hj⟩ := List.mem_iff_getElem?.1 hT
          exact (h.2.2.2.1 j T hj).1
        have hl := raw4_len hs
        unfold size4 at hl
        have ha2 := adj4_ok TT (-1) (12 + 16 * TT.length)
        unfold file4
        split
        · rfl
        · exact layL_len _ _ _ (by rw [putL_len]; omega)
      have hfl : (cutL (file4 TT) (end4 (12 + 16 * TT.length) (TT.take k)) T.data.length).length = T.data.length := by
        unfold cutL at hrl ⊢
        rw [List.length_take, List.length_drop] at hrl ⊢
        omega
      rw [blank_by (M := cutL (raw4 TT) (end4 (12 + 16 * TT.length) (TT.take k)) T.data.length) (by rw [hfl, hrl])
        (by rw [cutL_take _ _ _ _ (by omega), cutL_take _ _ _ _ (by omega)]; exact file4_cut h _ _ (.inr (.inl (by omega))))
        (by rw [cutL_drop _ _ _ _ (by omega), cutL_drop _ _ _ _ (by omega)]; exact file4_cut h _ _ (.inr (.inr (by omega))))
        ((adjT_len (s := T.tag) hfl).trans hU), hr]
      exact blank_idem T
    · have hm := end4_mono (12 + 16 * TT.length) TT (j + 1) k hlt
      rw [file4_cut h _ _ (.inr (.inl (by omega))), hr]
      exact blank_idem T
end Go.Proofs.YteckkcpnfeoehaaGreatDoor

/-
  Layer 4: what is written is read back.
-/
namespace Go.Proofs.YteckkcpnfeoehaaGreatDoor
set_option maxRecDepth 100000
open Go.RowKit Go.ChangeShapes Go.WideShapes Go.Deep
set_option linter.unusedVariables false
set_option linter.unusedSimpArgs false

theorem file4_len {TT : List Tb} (h : right4 TT) : (file4 TT).length = size4 TT := by
  have hs : ∀ T, T ∈ TT → T.tag.size = 4 := fun T hT => by
    obtain ⟨j, hj⟩ := List.mem_iff_getElem?.1 hT
    exact (h.2.2.2.1 j T hj).1
  have hl := raw4_len hs
  have ha2 := adj4_ok TT (-1) (12 + 16 * TT.length)
  rw [← hl]
  unfold size4 at hl
  unfold file4
  split
  · rfl
  · exact layL_len _ _ _ (by rw [putL_len]; omega)
/-- A table with its adjustment struck. -/
def blankT (T : Tb) : Tb := ⟨T.tag, blank4 T⟩
theorem rd1_file {TT : List Tb} (h : right4 TT) {j : Nat} {T : Tb} (hj : TT[j]? = some T) {last : ByteArray} (hlast : Op.bytesLess last.toList T.tag.toList = true) : rd1 (file4 TT) (12 + 16 * j) last = (0, blankT T) := by
  have hen := file4_entry h hj
  have hT := h.2.2.2.1 j T hj
  obtain ⟨p0, p1, p2, p3⟩ := ent4_parts T (end4 (12 + 16 * TT.length) (TT.take j)) hT.1
  rw [← hen] at p0 p1 p2 p3
  rw [cutL_cut _ _ _ _ _ (by omega)] at p0 p1 p2 p3
  rw [Nat.add_zero] at p0
  have hst := end4_step (12 + 16 * TT.length) hj
  have hp := pad4_le T.data.length
  have hm := end4_take_le TT (12 + 16 * TT.length) (j + 1)
  have hsz := file4_len h
  have hs3 := h.2.2.1
  have hsum := sumI_range (blank4 T)
  have n1 : numAt (fnL (file4 TT)) (12 + 16 * j + 4) 4 = sumI (blank4 T) := by rw [numAt_cut, p1, num4_put]; omega
  have hdat := file4_data h hj
  unfold size4 at hsz hs3
  have n2 : numAt (fnL (file4 TT)) (12 + 16 * j + 8) 4 = (end4 (12 + 16 * TT.length) (TT.take j) : Int) := by rw [numAt_cut, p2, num4_put]; omega
  have n3 : numAt (fnL (file4 TT)) (12 + 16 * j + 12) 4 = (T.data.length : Int) := by rw [numAt_cut, p3, num4_put]; omega
  unfold rd1
  rw [p0, strOf_tag, n1, n2, n3]
  rw [if_neg (by rw [hlast, show TagG T.tag = true from decide_eq_true hT]; simp)]
  simp only [Int.toNat_natCast]
  by_cases h0 : T.data.length = 0
  · have hd0 : T.data = [] := List.eq_nil_of_length_eq_zero h0
    have hb0 : blank4 ⟨T.tag, cutL (file4 TT) 0 0⟩ = blank4 T := by
      have : T = ⟨T.tag, []⟩ := by rw [← hd0]
      rw [this]
      rfl
    rw [h0, if_pos rfl, if_neg (by omega), hb0, if_pos rfl]
    rfl
  · rw [if_neg h0, if_neg (by omega), hdat, if_pos rfl]
    rfl
theorem rd4_file_go {TT : List Tb} (h : right4 TT) : ∀ (k j : Nat) (last : ByteArray), j + k = TT.length → (∀ T, TT[j]? = some T → Op.bytesLess last.toList T.tag.toList = true) → rd4Go (file4 TT) k j last = (0, (TT.drop j).map blankT) := by
  intro k
  induction k with
  | zero =>
    intro j last hjk _
    rw [List.drop_eq_nil_of_le (by omega)]
    rfl
  | succ k ih =>
    intro j last hjk hl
    have hjl : j < TT.length := by omega
    have hj : TT[j]? = some TT[j] := List.getElem?_eq_getElem hjl
    have h1 := rd1_file h hj (hl _ hj)
    have h2 := ih (j + 1) TT[j].tag (by omega) (fun U hU => h.2.2.2.2 j _ U hj hU)
    have h3 : contR (rd4Go (file4 TT) (k + 1) j last) [] = contR (rd4Go (file4 TT) k (j + 1) (rd1 (file4 TT) (12 + 16 * j) last).2.tag) ([] ++ [(rd1 (file4 TT) (12 + 16 * j) last).2]) := rd4_next (by rw [h1])
    rw [h1] at h3
    have h4 : (blankT TT[j]).tag = TT[j].tag := rfl
    simp only [h4, h2] at h3
    rw [rd4_start, h3, List.drop_eq_getElem_cons hjl]
    unfold contR
    rw [if_pos rfl]
    rfl
/-- What is written is read as it was, but for the adjustment. -/
theorem rd4_file {TT : List Tb} (h : right4 TT) : rd4 (file4 TT) = (0, TT.map blankT) := by
  have hsz := file4_len h
  have hs3 := h.2.2.1
  have hN1 := h.1
  have hN2 := h.2.1
  have hg : 12 + 16 * TT.length ≤ size4 TT := end4_ge _ _
  have ha := adj4_ok TT (-1) (12 + 16 * TT.length)
  have hd : cutL (file4 TT) 0 12 = dir4 TT.length := by
    rw [file4_cut h 0 12 (by omega)]
    unfold raw4
    rw [cutL_app_left (by rw [List.length_append, dir4_len]; omega), cutL_app_left (by rw [dir4_len]; omega), ← dir4_len TT.length, cutL_all]
  have h4 := putL_len 65536 4
  have h2 := putL_len (TT.length : Int) 2
  have q1 : cutL (file4 TT) 0 4 = putL 65536 4 := by
    have := cutL_cut (file4 TT) 0 12 0 4 (by omega)
    rw [← this, hd]
    unfold dir4
    generalize putL 65536 4 = A at *
    rw [cutL_app_left (by omega), ← h4, cutL_all]
  have q2 : cutL (file4 TT) 4 2 = putL (TT.length : Int) 2 := by
    have := cutL_cut (file4 TT) 0 12 4 2 (by omega)
    rw [Nat.zero_add] at this
    rw [← this, hd]
    unfold dir4
    generalize putL 65536 4 = A at *
    generalize putL (TT.length : Int) 2 = B at *
    rw [show 4 = A.length + 0 by omega, cutL_app_right, cutL_app_left (by omega), ← h2, cutL_all]
  have n1 : numAt (fnL (file4 TT)) 0 4 = 65536 := by rw [numAt_cut, q1, num4_put]; rfl
  have n2 : numAt (fnL (file4 TT)) 4 2 = (TT.length : Int) := by rw [numAt_cut, q2, num2_put]; omega
  unfold rd4
  rw [if_neg (by omega), if_neg (by omega), n1, n2, if_neg (by omega), Int.toNat_natCast, if_neg (by omega), rd4_file_go h TT.length 0 ByteArray.empty (by omega) (fun T hT => ?_)]
  · rfl
  · have hT := (h.2.2.2.1 0 T hT).1
    cases hb : T.tag.toList with
    | nil =>
      exfalso
      have hx : T.tag.data.toList = T.tag.toList := (ByteArray.toList_eq _).symm
      have : T.tag.data.toList.length = 4 := by rw [Array.length_toList]; exact hT
      rw [hx, hb] at this
      cases this
    | cons a l => rw [ByteArray.toList_eq]; rfl
end Go.Proofs.YteckkcpnfeoehaaGreatDoor

/-
  Layer 4: tables with their adjustment struck are written as the same bytes.
-/
namespace Go.Proofs.YteckkcpnfeoehaaGreatDoor
set_option maxRecDepth 100000
open Go.RowKit Go.ChangeShapes Go.WideShapes Go.Deep
set_option linter.unusedVariables false
set_option linter.unusedSimpArgs false

end Go.Proofs.YteckkcpnfeoehaaGreatDoor
