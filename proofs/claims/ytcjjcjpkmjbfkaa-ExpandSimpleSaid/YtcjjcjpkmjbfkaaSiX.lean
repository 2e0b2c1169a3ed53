/-
  Layer 7: what is written is bytes, and is read; the law SimpleShort, walked.
-/
import Derived.Test.YtcjjcjpkmjbfkaaSiW
import Derived.Test.YtcjjcjpkmjbfkaaMhD
namespace Go.Proofs.Ytcjjcjpkmjbfkaa
open Go.RowKit Go.ChangeShapes Go.WideShapes Go.Deep
set_option linter.unusedVariables false
set_option linter.unusedSimpArgs false

theorem bytes_nums (l : List Int) : Bytes (nums8 l) := fun v hv => by
  unfold nums8 at hv
  obtain ⟨x, _, hx⟩ := List.mem_flatMap.1 hv
  exact bytes_put x 2 v hx
theorem bytes_rle : ∀ l : List Int, (∀ g ∈ l, FlOk g) → Bytes (rle7 l) := by
  refine len7_ind (fun _ => by rw [rle7_nil]; intro v hv; cases hv) (fun f r ih hok => ?_)
  have hf := hok f (by simp)
  have hr := run7_le f 255 r
  have h8 : f + 8 ≤ 255 := by obtain ⟨a, b, c⟩ := hf; unfold Has8 at c; omega
  rw [rle7_cons]
  split
  · intro v hv
    rcases List.mem_cons.1 hv with rfl | hv
    · obtain ⟨a, b, c⟩ := hf; omega
    · exact ih r (Nat.le_refl _) (fun x hx => hok x (by simp [hx])) v hv
  · intro v hv
    rcases List.mem_cons.1 hv with rfl | hv
    · obtain ⟨a, b, c⟩ := hf; omega
    · rcases List.mem_cons.1 hv with rfl | hv
      · omega
      · exact ih _ (by simp [List.length_drop]) (fun x hx => hok x (by simp [List.mem_of_mem_drop hx])) v hv
theorem bytes_stp (d : Int) : Bytes (stp7 d) := by
  unfold stp7
  split
  · intro v hv; cases hv
  · split
    · intro v hv; rw [List.mem_singleton] at hv; omega
    · split
      · intro v hv; rw [List.mem_singleton] at hv; omega
      · exact bytes_put _ _
theorem bytes_stps : ∀ (l : List Int) (v : Int), Bytes (stps7 v l) := by
  intro l
  induction l with
  | nil => intro v x hx; cases hx
  | cons a l ih => intro v; unfold stps7; exact bytes_app (bytes_stp _) (ih a)
theorem gl_bytes (LL : List (List Kt)) (C : List Int) (hC : Bytes C) : Bytes (glB LL C) := by
  unfold glB
  split
  · unfold wr7
    split
    · intro v hv; cases hv
    · unfold wrB7 kn7
      exact bytes_app (bytes_put _ _) (bytes_app (bytes_nums _) (bytes_app (bytes_nums _) (bytes_app (bytes_put _ _) (bytes_app hC (bytes_app (bytes_rle _ (fun g hg => (flK_ok LL.flatten g hg).1)) (bytes_app (bytes_stps _ _) (bytes_stps _ _)))))))
  · intro v hv; cases hv
theorem atL_self (L : List Int) : AtL (fnL L) 0 L := fun j hj => by rw [Nat.zero_add]; rfl
theorem atL_app (L M : List Int) : AtL (fnL (L ++ M)) 0 L := (atL_self (L ++ M)).left
theorem gl_parts {LL : List (List Kt)} {C : List Int} (h0 : LL ≠ []) (he : glE LL C = 0) :
    glB LL C = wrB7 (lsK LL) (boxK LL) C (xsK LL.flatten) (ysK LL.flatten) (osK LL.flatten) ∧ (∀ l ∈ lsK LL, 1 ≤ l) ∧ (lsK LL).sum = (xsK LL.flatten).length ∧ (xsK LL.flatten).length ≤ 4096 ∧ C.length ≤ 65535 ∧ StepsOk 0 (xsK LL.flatten) ∧ StepsOk 0 (ysK LL.flatten) ∧ lsK LL ≠ [] := by
  have hl : lsK LL ≠ [] := fun e => h0 (List.map_eq_nil_iff.1 e)
  obtain ⟨h1, h2, h3, h4, h5⟩ := wrE7_ok hl he
  have hs : (lsK LL).sum = (xsK LL.flatten).length := by unfold lsK xsK; rw [List.length_map, List.length_flatten]
  refine ⟨?_, h1, hs, by omega, h3, h4, h5, hl⟩
  unfold glB
  rw [if_pos he]
  unfold wr7
  rw [if_neg hl]
theorem lay_written (LL : List (List Kt)) (gs : List Int) (s m : Nat) (hgs : gs.map (fun g => decide (Has8 g 1)) = osK LL.flatten) : lay7 ⟨0, ends7 (-1) (lsK LL), s, m, gs, xsK LL.flatten, ysK LL.flatten⟩ = LL := by
  unfold lay7
  simp only [hgs]
  have h1 : zip7 Kt.mk (xsK LL.flatten) (ysK LL.flatten) (osK LL.flatten) = LL.flatten := zip7_map (fun k => rfl) LL.flatten
  rw [h1]
  exact cutE7_all LL
/-- What was written is read, and less of it is too short. -/
theorem gl_back {LL : List (List Kt)} {C : List Int} (f : Nat → Int) (n : Nat) (h0 : LL ≠ []) (he : glE LL C = 0) (hat : AtL f 0 (glB LL C)) :
    ((glB LL C).length ≤ n → (rdAns7 f n).e = 0 ∧ lay7 (rdAns7 f n) = LL ∧ (rdAns7 f n).m = C.length ∧ ∀ j, j < C.length → f ((rdAns7 f n).s + j) = C.getD j 0) ∧ (0 < n → n < (glB LL C).length → rdAns7 f n = no7 3) := by
  obtain ⟨e, h1, h2, h3, h4, h5, h6, h7⟩ := gl_parts h0 he
  rw [e] at hat ⊢
  obtain ⟨b1, b2⟩ := back7 f n (lsK LL) (boxK LL) C (xsK LL.flatten) (ysK LL.flatten) (osK LL.flatten) rfl h7 h1 h2 h3 h4 (by unfold xsK ysK; rw [List.length_map, List.length_map]) (by unfold xsK osK; rw [List.length_map, List.length_map]) h5 h6 hat
  refine ⟨fun hn => ?_, b2⟩
  obtain ⟨gs, g1, g2, g3⟩ := b1 hn
  rw [g1]
  exact ⟨rfl, lay_written LL gs _ _ g2, rfl, g3⟩
theorem gl_len {LL : List (List Kt)} {C : List Int} (h0 : LL ≠ []) (he : glE LL C = 0) : (glB LL C).length ≤ 12 + 2 * LL.length + C.length + 5 * sumL LL ∧ 12 + 2 * LL.length + C.length < (glB LL C).length := by
  obtain ⟨e, h1, h2, h3, h4, h5, h6, h7⟩ := gl_parts h0 he
  have h := short7 (lsK LL) C (xsK LL.flatten) (ysK LL.flatten) (osK LL.flatten) h7 h1 h2 (by unfold xsK ysK; rw [List.length_map, List.length_map]) (by unfold xsK osK; rw [List.length_map, List.length_map])
  unfold wr7 at h
  rw [if_neg h7] at h
  rw [e]
  have e1 : (lsK LL).length = LL.length := by unfold lsK; rw [List.length_map]
  have e2 : (xsK LL.flatten).length = sumL LL := by rw [sumL_flat]; unfold xsK; rw [List.length_map]
  rw [e1, e2] at h
  exact h
theorem gl_nil {C : List Int} : glB [] C = [] := by unfold glB; split <;> rfl
theorem gl_err {LL : List (List Kt)} {C : List Int} (he : glE LL C ≠ 0) : glB LL C = [] := by unfold glB; rw [if_neg he]
end Go.Proofs.Ytcjjcjpkmjbfkaa
