/-
  Layer 14: the reference's 'Same', of the same points.
-/
import Derived.Test.YtckochcocflleaaGreatMgH
import Derived.Deep.QuietTactic
import Derived.BigQuiet
namespace Go.Proofs.YtckochcocflleaaGreat
open Go.RowKit Go.ChangeShapes Go.WideShapes Go.Deep
set_option linter.unusedVariables false

set_option maxRecDepth 100000 in
set_option maxHeartbeats 8000000 in
theorem rf_sameP (A B : Option Addr) (L : List Pq) (c d : Nat) (w : World) (h1 : RdG 2 ptL w w.heap.size A L) (h2 : RdG 2 ptL w w.heap.size B L) (hn : L.length ≤ maxLen) :
    Calls Tryz.prog 7 #[.slice A L.length c, .slice B L.length d] w fun e w' => e = .returned (.bool true) ∧ Since w w' := by
  have hn' : (L.length : Int) ≤ 9223372036854775807 := by simp only [maxLen] at hn; omega
  obtain ⟨n, hnn⟩ : ∃ n, n = L.length := ⟨_, rfl⟩
  rw [← hnn] at hn' ⊢
  have HN := Lib.hid hnn
  clear hnn
  go_enter Tryz.func7, Tryz.ntmps7
  go_wp2
  go_loopw [13] (fun y wr => ∃ j : Nat, j ≤ n ∧ y = .int .i64 (j : Int) ∧ Since w wr) (fun y _ => n - (intOf y).toNat)
  case atStart => exact ⟨0, by omega, rfl, Since.refl _⟩
  case round =>
    obtain ⟨j, hj, rfl, hSr⟩ := hrel
    by_cases hjn : j < n
    · have hjn' : (j : Int) < n := by omega
      have hnn := HN.out
      obtain ⟨b, o, rfl, hb, hc⟩ := h1 (by omega)
      obtain ⟨b', o', rfl, hb', hc'⟩ := h2 (by omega)
      obtain ⟨p, hp⟩ : ∃ p, L[j]? = some p := ⟨_, List.getElem?_eq_getElem (by omega)⟩
      obtain ⟨x, y⟩ := p
      have c1 := (hSr.1 _ _ hb).trans (hc j _ hp 0 (by omega))
      have c2 := (hSr.1 _ _ hb).trans (hc j _ hp 1 (by omega))
      have e1 := (hSr.1 _ _ hb').trans (hc' j _ hp 0 (by omega))
      have e2 := (hSr.1 _ _ hb').trans (hc' j _ hp 1 (by omega))
      simp only [ptL, List.getD_cons_succ, List.getD_cons_zero, Nat.add_zero] at c1 c2 e1 e2
      have hj0 : (0 : Int) ≤ j := by omega
      clear hc hc' h1 h2 hnn hp
      go_wp2_with fail
      go_quiet (fail)
      go_wp2
      refine ⟨⟨j + 1, by omega, by simp, by (repeat (first | with_reducible (exact Since.refl _) | with_reducible assumption | with_reducible (refine Since.drew ?_) | with_reducible (refine Since.drewN ?_ _) | with_reducible (refine Since.alloc ?_ _) | (with_reducible (refine Since.setCell ?_ ?_ _); rotate_left; focus (first | (simp; done) | (simp; omega) | omega)) | (with_reducible (refine Since.trans ?_ (by with_reducible assumption)))))⟩, by simp [intOf]; omega⟩
    · obtain rfl : j = n := by omega
      clear h1 h2
      go_wp2
      go_ret
      exact ⟨rfl, hSr⟩
end Go.Proofs.YtckochcocflleaaGreat
