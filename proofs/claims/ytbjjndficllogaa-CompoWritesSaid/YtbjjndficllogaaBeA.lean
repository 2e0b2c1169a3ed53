/-
  Layer 2: 'Copy' and 'Same', walked.
-/
import Derived.Test.YtbjjndficllogaaKit2
namespace Go.Proofs.Ytbjjndficllogaa
open Go.RowKit
set_option linter.unusedVariables false

theorem Try.info_u8 : (Try.prog.info? 5).map (fun i => (i.zero, i.size, i.bytes)) = some (some (.int .u8 0), 1, 1) := by kernel_rfl
def U8 (f : Nat → Int) : Nat → Value := IntRow .u8 f
/-- A row of the call's own, of bytes. -/
def Own (w : World) (B g cap n : Nat) (f : Nat → Int) : Prop := w.ownsRow B 5 1 (.slice (some ⟨g, 0, none⟩) n cap) n (tab n (U8 f))
theorem Own.row {w : World} {B g cap n : Nat} {f : Nat → Int} (h : Own w B g cap n f) : Row w g n (U8 f) := row_of_own h
theorem Own.base {w : World} {B g cap n : Nat} {f : Nat → Int} (h : Own w B g cap n f) : B ≤ g := own_base h

set_option maxHeartbeats 4000000 in
theorem ref_copy (A : Option Addr) (n c : Nat) (f : Nat → Int) (w : World) (h : Rd w w.heap.size A n (U8 f)) (hn : n ≤ 140737488355328) :
    Calls Try.prog 15 #[.slice A n c] w fun e w' => ∃ g cap, e = .returned (.slice (some ⟨g, 0, none⟩) n cap) ∧ Own w' w.heap.size g cap n f ∧ Since w w' := by
  obtain ⟨i0, hi0, hz0, hz1, hz2⟩ := info_parts Try.info_u8
  have h0 : (w.alloc (.cells #[] 5)).ownsRow w.heap.size 5 1 (.slice (some ⟨w.heap.size, 0, none⟩) 0 0) 0 [] :=
    ⟨rfl, .inr ⟨_, 0, #[], rfl, Nat.le_refl _, heap_alloc_new w _, Nat.le_refl _, by simp [maxLen], rfl, rfl⟩⟩
  have q1 : Rd (w.alloc (.cells #[] 5)) w.heap.size A n (U8 f) := h.alloc (Nat.le_refl _) _
  have q2 : ∀ u ∈ tab n (U8 f), u.oneCell' = true := tab_ones
  have q3 : (0 + n) * 1 ≤ 140737488355328 := by omega
  have q4 : 0 + n ≤ maxLen := by simp only [maxLen]; omega
  have q5 : w.heap.size ≤ (w.alloc (.cells #[] 5)).heap.size := by simp
  go_enter Try.func15, Try.ntmps15
  go_wp2_with (at_builtin; refine wpList_append_rd _ (by rfl) (.tmp 3) (.tmp 4) _ (by rfl) w.heap.size 5 i0 _ 1 Try.underlying22 hi0 hz0 hz1 hz2 (by rfl) w.heap.size 0 0 [] (by rfl) h0 w.heap.size A n c (U8 f) (by rfl) q1 q2 q3 q4 q5 ?_; intro g' cap' w1 hown1 hg1 hat1; clear h q1 q2 q3 q4 q5 h0)
  go_ret
  simp only [Nat.zero_add, List.nil_append] at hown1
  exact ⟨g', cap', rfl, hown1, since_grown ((Since.refl w).alloc _) hg1 (fun k hk => by injection hk with hk; omega)⟩

def bytesOf (n : Nat) (f : Nat → Int) : List Int := (List.range n).map f
theorem Rd.conv {w : World} {B n : Nat} {A : Option Addr} {f : Nat → Int} (h : Rd w B A n (U8 f)) (c : Nat) :
    (convert 22 9 (.slice A n c)).run Try.prog w = .ok (.string (strOfNums (bytesOf n f))) w := by
  rcases Nat.eq_zero_or_pos n with h0 | h0
  · subst h0
    rcases A with _ | ad
    · exact run_convert_bytes_nil w _ _ Try.underlying22 Try.underlying5 0 c _ Try.underlying9
    · rw [run_convert_bytes_string w _ _ _ _ _ _ Try.underlying22 Try.underlying5 Try.underlying9]
      simp [Conv.bytesToString, loadCells, loadCellsFrom, bytesOf, strOfNums, Sem.run_pure]
      rfl
  · obtain ⟨b, o, rfl, _, hc⟩ := h h0
    refine run_convert_bytes_arg w _ _ Try.underlying22 Try.underlying5 b o n c (bytesOf n f) (by simp [bytesOf]) (fun i hi => ?_) _ Try.underlying9
    rw [hc i hi]
    simp [bytesOf, hi, U8, IntRow]
theorem bytesOf_congr {n : Nat} {f g : Nat → Int} (h : ∀ j, j < n → f j = g j) : bytesOf n f = bytesOf n g := by
  unfold bytesOf
  exact List.map_congr_left fun j hj => h j (by simpa using hj)
set_option maxHeartbeats 4000000 in
/-- 'Same' of the same bytes. -/
theorem ref_same (A B : Option Addr) (n c d : Nat) (f g : Nat → Int) (w : World) (h1 : Rd w w.heap.size A n (U8 f)) (h2 : Rd w w.heap.size B n (U8 g)) (hfg : ∀ j, j < n → f j = g j) :
    Calls Try.prog 19 #[.slice A n c, .slice B n d] w fun e w' => e = .returned (.bool true) ∧ w' = w := by
  have k1 := h1.conv c
  have k2 := h2.conv d
  rw [← bytesOf_congr hfg] at k2
  generalize strOfNums (bytesOf n f) = s at k1 k2
  clear h1 h2 hfg
  go_enter Try.func19, Try.ntmps19
  go_wp2
  go_ret
  exact ⟨by simp, rfl⟩
end Go.Proofs.Ytbjjndficllogaa
