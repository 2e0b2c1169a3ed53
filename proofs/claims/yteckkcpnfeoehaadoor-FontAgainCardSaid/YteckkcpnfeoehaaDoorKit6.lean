/-
  What the second form's premise gives: bounds on lengths.
-/
import Derived.Test.YteckkcpnfeoehaaDoorMnAa
import Derived.JoinedCond
namespace Go.Proofs.YteckkcpnfeoehaaDoor
set_option maxRecDepth 100000
theorem bulk_pos {H : Type} (d : DataW H) : 0 < Rows.uptoBulk d := by
  cases d with
  | lit l => cases l <;> simp [Rows.uptoBulk]
  | _ => simp [Rows.uptoBulk]
theorem bulk_count {H : Type} : ∀ l : List (DataW H), l.length ≤ Rows.uptoBulkAll l
  | [] => by simp [Rows.uptoBulkAll]
  | d :: l => by
    have h1 := bulk_pos d; have h2 := bulk_count l
    simp only [Rows.uptoBulkAll, List.length_cons]; omega
theorem bulk_slice {H : Type} {c : Nat} {d : DataW H} (h : c = 0 ∨ ∃ el sp, d = .slice el sp ∧ el.length + sp.length = c) : c < Rows.uptoBulk d := by
  rcases h with rfl | ⟨el, sp, rfl, rfl⟩
  · exact bulk_pos d
  · have h1 := bulk_count el; have h2 := bulk_count sp
    simp only [Rows.uptoBulk]; omega
theorem bulk_all {H : Type} {l : List (DataW H)} (h : Rows.uptoSmall H (l ++ []) = true) : Rows.uptoBulkAll l ≤ 1048576 := by
  rw [List.append_nil] at h
  exact of_decide_eq_true h
end Go.Proofs.YteckkcpnfeoehaaDoor
