/-
  Texts of this seat, put together: each with its own head.
-/
import Derived.Test.YteckkcpnfeoehaaGreatDoorMpS
import Derived.Test.YteckkcpnfeoehaaGreatDoorMpH
import Derived.Test.YteckkcpnfeoehaaGreatDoorMpG
import Derived.Test.YteckkcpnfeoehaaGreatDoorMpI
import Derived.Test.YteckkcpnfeoehaaGreatDoorFoI
import Derived.Sort.Walk0

/-
  Layer 4: the document's Read, where what is read was written.
-/
namespace Go.Proofs.YteckkcpnfeoehaaGreatDoor
set_option maxRecDepth 100000
open Go.RowKit Go.ChangeShapes Go.WideShapes Go.Deep
set_option linter.unusedVariables false
set_option linter.unusedSimpArgs false

end Go.Proofs.YteckkcpnfeoehaaGreatDoor

/-
  Layer 9: what stands in a font's file of the tables that are not made anew (no walk).
-/
namespace Go.Proofs.YteckkcpnfeoehaaGreatDoor
set_option maxRecDepth 100000
open Go.RowKit Go.ChangeShapes Go.WideShapes Go.Deep
set_option linter.unusedVariables false
set_option linter.unusedSimpArgs false

theorem syT_has {F : Fn9} (h : three9 F.TT = true) (s : ByteArray) : has9 (syT F) s = has9 F.TT s ∧ (syT F).length = F.TT.length ∧ sumT (syT F) = sumT F.TT := by
  unfold three9 at h
  rw [Bool.and_eq_true, Bool.and_eq_true] at h
  obtain ⟨⟨h0, h1⟩, h2⟩ := h
  have key : ∀ (TT : List Tb) (T : Tb) (s : ByteArray), has9 TT T.tag = true → has9 (withT TT T) s = has9 TT s := fun TT T s hh => by
    rw [has_with]
    cases hs : eqT s T
    · simp
    · have : has9 TT s = true := by
        have e : ∀ V, eqT s V = eqT T.tag V := fun V => eqT_of hs
        unfold has9 at hh ⊢
        rw [← hh]
        congr 1
        funext V
        exact e V
      rw [this]; rfl
  have a1 : has9 F.TT (⟨tgHead, phB (dat9 F.TT tgHead) (syH F)⟩ : Tb).tag = true := h0
  have a2 : has9 (withT F.TT ⟨tgHead, phB (dat9 F.TT tgHead) (syH F)⟩) (⟨tgMaxp, mpB (dat9 F.TT tgMaxp) (syM F)⟩ : Tb).tag = true := by rw [key _ _ _ a1]; exact h1
  have a3 : has9 (withT (withT F.TT ⟨tgHead, phB (dat9 F.TT tgHead) (syH F)⟩) ⟨tgMaxp, mpB (dat9 F.TT tgMaxp) (syM F)⟩) (⟨tgHhea, pcB (dat9 F.TT tgHhea) F.ct⟩ : Tb).tag = true := by rw [key _ _ _ a2, key _ _ _ a1]; exact h2
  refine ⟨?_, ?_, ?_⟩
  · show has9 (withT (withT (withT F.TT _) _) _) s = _
    rw [key _ _ _ a3, key _ _ _ a2, key _ _ _ a1]
  · show (withT (withT (withT F.TT _) _) _).length = _
    rw [with_len a3, with_len a2, with_len a1]
  · show sumT (withT (withT (withT F.TT _) _) _) = _
    rw [with_sum a3, with_sum a2, with_sum a1]
    · exact phB_len _ _
    · rw [dat_with_ne _ (show eqT tgMaxp ⟨tgHead, _⟩ = false from ne_HeadMaxp)]; exact mpB_len _ _
    · rw [dat_with_ne _ (show eqT tgHhea ⟨tgMaxp, _⟩ = false from ne_MaxpHhea), dat_with_ne _ (show eqT tgHhea ⟨tgHead, _⟩ = false from ne_HeadHhea)]; exact pcB_len _ _
theorem syT_mem {F : Fn9} {T : Tb} (h : T ∈ syT F) : T = ⟨tgHhea, pcB (dat9 F.TT tgHhea) F.ct⟩ ∨ T = ⟨tgMaxp, mpB (dat9 F.TT tgMaxp) (syM F)⟩ ∨ T = ⟨tgHead, phB (dat9 F.TT tgHead) (syH F)⟩ ∨ T ∈ F.TT := by
  rcases mem_with h with h | h
  · exact .inl h
  · rcases mem_with h with h | h
    · exact .inr (.inl h)
    · rcases mem_with h with h | h
      · exact .inr (.inr (.inl h))
      · exact .inr (.inr (.inr h))
theorem sync_nogr {F : Fn9} (hG : NoGr F) (h : three9 F.TT = true) : NoGr (syF F) := by
  have hd := fun s => dat_len (s := s) (fun T hT => (hG.dats T hT).1)
  obtain ⟨_, k2, k3⟩ := syT_has h tgHead
  refine ⟨by show (syT F).length ≤ 101; rw [k2]; exact hG.tabs, fun T hT => ?_, by show sumT (syT F) ≤ 100000; rw [k3]; exact hG.sumT, hG.glys, hG.gly, hG.sumG, hG.mets⟩
  rcases syT_mem hT with rfl | rfl | rfl | hT
  · exact ⟨by rw [pcB_len]; exact hd _, by show tgHhea.size ≤ 100; decide⟩
  · exact ⟨by rw [mpB_len]; exact hd _, by show tgMaxp.size ≤ 100; decide⟩
  · exact ⟨by rw [phB_len]; exact hd _, by show tgHead.size ≤ 100; decide⟩
  · exact hG.dats T hT
end Go.Proofs.YteckkcpnfeoehaaGreatDoor
