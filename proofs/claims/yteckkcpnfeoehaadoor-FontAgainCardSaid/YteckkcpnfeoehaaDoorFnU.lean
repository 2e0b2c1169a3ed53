/-
  Layer 9: what is read, is read again the same (no walk).
-/
import Derived.Test.YteckkcpnfeoehaaDoorFnN
namespace Go.Proofs.YteckkcpnfeoehaaDoor
set_option maxRecDepth 100000
open Go.RowKit Go.ChangeShapes Go.WideShapes Go.Deep
set_option linter.unusedVariables false
set_option linter.unusedSimpArgs false

theorem rd1_blank {L : List Int} {a : Nat} {last : ByteArray} (h : (rd1 L a last).1 = 0) : blankT (rd1 L a last).2 = (rd1 L a last).2 := by
  unfold rd1 at h ⊢
  split
  · rename_i h1; rw [if_pos h1] at h; cases h
  · rename_i h1
    rw [if_neg h1] at h
    simp only at h ⊢
    generalize (numAt (fnL L) (a + 12) 4).toNat = m at *
    generalize (if m = 0 then 0 else (numAt (fnL L) (a + 8) 4).toNat) = p at *
    by_cases h2 : L.length < p + m
    · rw [if_pos h2] at h; cases h
    · rw [if_neg h2] at h ⊢
      by_cases h3 : sumI (blank4 ⟨strOf (cutL L a 4), cutL L p m⟩) = numAt (fnL L) (a + 4) 4
      · rw [if_pos h3]
        exact congrArg (Tb.mk (strOf (cutL L a 4))) (blank_idem ⟨strOf (cutL L a 4), cutL L p m⟩)
      · rw [if_neg h3] at h; cases h
theorem rd4Go_blank {L : List Int} : ∀ (k i : Nat) (last : ByteArray), (rd4Go L k i last).1 = 0 → ∀ T, T ∈ (rd4Go L k i last).2 → blankT T = T := by
  intro k
  induction k with
  | zero => intro i last _ T hT; cases hT
  | succ k ih =>
    intro i last h
    unfold rd4Go at h ⊢
    by_cases h1 : (rd1 L (12 + 16 * i) last).1 = 0
    · rw [if_pos h1] at h ⊢
      by_cases h2 : (rd4Go L k (i + 1) (rd1 L (12 + 16 * i) last).2.tag).1 = 0
      · rw [if_pos h2]
        intro T hT
        rcases List.mem_cons.1 hT with rfl | hT
        · exact rd1_blank h1
        · exact ih _ _ h2 T hT
      · rw [if_neg h2] at h; exact absurd h h2
    · rw [if_neg h1] at h; exact absurd h h1
theorem rd4_blank {L : List Int} (h : (rd4 L).1 = 0) : ∀ T, T ∈ (rd4 L).2 → blankT T = T := by
  unfold rd4 at h ⊢
  split
  · rename_i h1; rw [if_pos h1] at h; cases h
  · rename_i h1
    rw [if_neg h1] at h
    split
    · rename_i h2; rw [if_pos h2] at h; cases h
    · rename_i h2
      rw [if_neg h2] at h
      split
      · rename_i h3; rw [if_pos h3] at h; cases h
      · rename_i h3
        rw [if_neg h3] at h
        split
        · rename_i h4; rw [if_pos h4] at h; cases h
        · rename_i h4
          rw [if_neg h4] at h
          exact rd4Go_blank _ _ _ h
theorem fnL_any {L : List Int} (h : Bytes L) (j : Nat) : 0 ≤ fnL L j ∧ fnL L j ≤ 255 := by
  unfold fnL
  rw [List.getD_eq_getElem?_getD]
  cases e : L[j]? with
  | none => exact ⟨by decide, by decide⟩
  | some v => exact h v (List.mem_of_getElem? e)
theorem num2 {L : List Int} (h : Bytes L) (p : Nat) : 0 ≤ numAt (fnL L) p 2 ∧ numAt (fnL L) p 2 ≤ 65535 := by
  have := numAt_range (f := fnL L) (p := p) (k := 2) (fun j _ => fnL_any h j)
  simp only [Int.reducePow] at this
  omega
theorem sgn2_in {x : Int} (h : 0 ≤ x ∧ x ≤ 65535) : In64 (sgn 2 x) := by
  unfold sgn In64
  simp only [Int.reducePow]
  split <;> omega
theorem in64_of {x : Int} (h : 0 ≤ x ∧ x ≤ 65535) : In64 x := by unfold In64; omega
theorem in64_0 : In64 0 := by unfold In64; omega
/-- What 'Read' reads where it succeeds. -/
theorem rdT9_fnw {T : List Tb} {F : Fn9} (hb : ∀ U, U ∈ T → Bytes U.data) (h : rdT9 T = (0, F)) : FnW F ∧ F.TT = T.filter (fun T => !isGen T) ∧ F.GG.length ≤ 1024 ∧ F.MM.length ≤ 1024 ∧ ∀ L, L ∈ F.GG → L.length ≤ (dat9 T tgGlyf).length := by
  have hD : ∀ s, Bytes (dat9 T s) := dat9_cases (P := Bytes) (fun v hv => by cases hv) hb
  unfold rdT9 at h
  by_cases h1 : has9 T tgGvar = true
  · rw [if_pos h1] at h; injection h with h _; cases h
  rw [if_neg h1] at h
  by_cases h2 : (has9 T tgLoca && has9 T tgGlyf && has9 T tgHmtx) = false
  · rw [if_pos h2] at h; injection h with h _; cases h
  rw [if_neg h2] at h
  by_cases h3 : fldE T ≠ 0
  · rw [if_pos h3] at h; injection h with h _; exact absurd h h3
  rw [if_neg h3] at h
  by_cases h4 : (fldM T).g < 1 ∨ 1024 < (fldM T).g
  · rw [if_pos h4] at h; injection h with h _; cases h
  rw [if_neg h4] at h
  by_cases h5 : glyE (dat9 T tgLoca) (dat9 T tgGlyf) (fldH T).l (fldM T).g ≠ 0
  · rw [if_pos h5] at h; injection h with h _; exact absurd h h5
  rw [if_neg h5] at h
  by_cases h6 : mtE (dat9 T tgHmtx).length (fldC T) (fldM T).g ≠ 0
  · rw [if_pos h6] at h; injection h with h _; exact absurd h h6
  rw [if_neg h6] at h
  injection h with _ h
  subst h
  have hcut : ∀ L, L ∈ glyG (dat9 T tgLoca) (dat9 T tgGlyf) (fldH T).l (fldM T).g.toNat → Bytes L ∧ L.length ≤ (dat9 T tgGlyf).length := fun L hL => by
    unfold glyG at hL
    obtain ⟨i, _, rfl⟩ := List.mem_map.1 hL
    refine ⟨bytes_cut (hD _) _ _, ?_⟩
    unfold cutL
    rw [List.length_take, List.length_drop]
    omega
  have hH : In64 (fldH T).em ∧ In64 (fldH T).a ∧ In64 (fldH T).b ∧ In64 (fldH T).c ∧ In64 (fldH T).d := by
    unfold fldH
    split
    · have hm : In64 (hdM (fnL (dat9 T tgHead)) (dat9 T tgHead).length) := by
        unfold hdM; split
        · exact in64_of (num2 (hD _) _)
        · exact in64_0
      have hs : ∀ p, In64 (hdS (fnL (dat9 T tgHead)) (dat9 T tgHead).length p) := fun p => by
        unfold hdS; split
        · exact sgn2_in (num2 (hD _) _)
        · exact in64_0
      exact ⟨hm, hs _, hs _, hs _, hs _⟩
    · exact ⟨in64_0, in64_0, in64_0, in64_0, in64_0⟩
  have hM : In64 (fldM T).g ∧ In64 (fldM T).p ∧ In64 (fldM T).c ∧ In64 (fldM T).q ∧ In64 (fldM T).r ∧ In64 (fldM T).e ∧ In64 (fldM T).d := by
    unfold fldM
    split
    · have hm : ∀ p, In64 (mxN (fnL (dat9 T tgMaxp)) (dat9 T tgMaxp).length p) := fun p => by
        unfold mxN; split
        · exact in64_of (num2 (hD _) _)
        · exact in64_0
      exact ⟨hm _, hm _, hm _, hm _, hm _, hm _, hm _⟩
    · exact ⟨in64_0, in64_0, in64_0, in64_0, in64_0, in64_0, in64_0⟩
  have hC : In64 (fldC T) := by
    unfold fldC
    split
    · unfold ofL ctN; split
      · exact in64_of (num2 (hD _) _)
      · exact in64_0
    · exact in64_0
  refine ⟨⟨?_, ?_, ?_, hC, hH, hM⟩, rfl, ?_, ?_, fun L hL => (hcut L hL).2⟩
  · intro U hU; exact hb U ((List.mem_filter.1 hU).1)
  · intro L hL; exact (hcut L hL).1
  · intro j hj
    simp only [List.length_map, List.length_range] at hj
    unfold mtX mtY
    rw [List.getD_eq_getElem?_getD, List.getElem?_map, List.getElem?_range hj]
    constructor
    · show In64 (mtA _ _ j)
      unfold mtA
      split
      · exact in64_of (num2 (hD _) _)
      · exact in64_of (num2 (hD _) _)
    · show In64 (mtB _ _ j)
      unfold mtB
      split
      · exact sgn2_in (num2 (hD _) _)
      · exact sgn2_in (num2 (hD _) _)
  · show (glyG _ _ _ _).length ≤ 1024
    unfold glyG
    simp only [List.length_map, List.length_range]
    omega
  · show (List.map _ _).length ≤ 1024
    simp only [List.length_map, List.length_range]
    omega
theorem rd9_fnw {L : List Int} {F : Fn9} (hb : Bytes L) (h : rd9 L = (0, F)) : FnW F ∧ blank9 F = F ∧ F.TT.length ≤ 64 ∧ (∀ U, U ∈ F.TT → U.data.length ≤ 1048576 ∧ U.tag.size = 4) ∧ F.GG.length ≤ 1024 ∧ F.MM.length ≤ 1024 ∧ ∀ L, L ∈ F.GG → L.length ≤ 1048576 := by
  unfold rd9 at h
  by_cases h1 : (rd4 L).1 ≠ 0
  · rw [if_pos h1] at h; injection h with h _; exact absurd h h1
  rw [if_neg h1] at h
  have h0 : (rd4 L).1 = 0 := Decidable.of_not_not h1
  obtain ⟨f1, f2⟩ := rd4_facts hb h0
  obtain ⟨k1, k2, k3, k4, k5⟩ := rdT9_fnw (fun U hU => (f2 U hU).1) h
  have hg : (dat9 (rd4 L).2 tgGlyf).length ≤ 1048576 := dat9_cases (P := fun L => L.length ≤ 1048576) (by simp) (fun U hU => (f2 U hU).2.1) _
  refine ⟨k1, ?_, ?_, ?_, k3, k4, fun M hM => Nat.le_trans (k5 M hM) hg⟩
  · unfold blank9
    have : F.TT.map blankT = F.TT := by
      rw [k2]
      exact (List.map_congr_left (fun U hU => rd4_blank h0 U ((List.mem_filter.1 hU).1))).trans (List.map_id' _)
    rw [this]
  · rw [k2]; exact Nat.le_trans (List.length_filter_le _ _) f1
  · intro U hU
    rw [k2] at hU
    exact (f2 U ((List.mem_filter.1 hU).1)).2
end Go.Proofs.YteckkcpnfeoehaaDoor
