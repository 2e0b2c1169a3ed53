/-
  Layer 7: the reference's step, walked; a literal of bytes as an own row.
-/
import Derived.Test.YtpplnapfpoloiaaSiD
namespace Go.Proofs.Ytpplnapfpoloiaa
open Go.RowKit Go.ChangeShapes Go.WideShapes Go.Deep
set_option linter.unusedVariables false
set_option linter.unusedSimpArgs false

theorem ownB_new (w : World) (base b n : Nat) (hb : b = w.heap.size) (hB : base ≤ w.heap.size) (cs : Array Value) (L : List Int) (hn : n = L.length) (hcs : cs = (L.map (Value.int .u8)).toArray) (hL : L.length ≤ 1000) : OwnB (w.alloc (.cells cs 5)) base (.slice (some ⟨b, 0, none⟩) n n) L := by
  subst hb; subst hn; subst hcs
  have e : cellsG byL L = L.map (Value.int .u8) := by
    clear hL
    induction L with
    | nil => rfl
    | cons a l ih => unfold cellsG at ih ⊢; rw [List.flatMap_cons, List.map_cons, ih]; rfl
  exact ⟨by rw [cellsG_len byL_len], .inr ⟨w.heap.size, L.length, _, rfl, hB, heap_alloc_new w _, Nat.le_refl _, by simp only [maxLen]; omega, by simp, by rw [e, Nat.mul_one]; exact List.take_of_length_le (by simp)⟩⟩

set_option maxHeartbeats 4000000 in
theorem rf_step2 (d : Int) (w : World) (hd : -65535 ≤ d ∧ d ≤ 65535) :
    Calls Try.prog 84 #[.int .i64 d, .int .i64 2, .int .i64 16] w fun e w' => ∃ v, e = .returned (.tuple #[.int .i64 (sfl7 2 16 d), v]) ∧ OwnB w' w.heap.size v (stp7 d) ∧ Since w w' := by
  by_cases h0 : d = 0
  · subst h0
    have E := Lib.hid (show sfl7 2 16 0 = 16 from rfl)
    have F := Lib.hid (show stp7 0 = [] from rfl)
    clear hd
    go_enter Try.func84, Try.ntmps84
    go_wp2_with fail
    go_ret2
    rw [E.out, F.out]
    exact ⟨_, rfl, OwnG.nil _ _ _ _ _, Since.refl _⟩
  · have e0 : (d == 0) = false := by simpa using h0
    by_cases h1 : 0 < d ∧ d < 256
    · have E := Lib.hid (show sfl7 2 16 d = 18 by unfold sfl7; rw [if_neg h0, if_pos h1]; rfl)
      have F := Lib.hid (show stp7 d = [d] by unfold stp7; rw [if_neg h0, if_pos h1])
      have d1 : decide (0 < d) = true := by simpa using h1.1
      have d2 : decide (d < 256) = true := by simpa using h1.2
      have hw : IntKind.u8.wrap d = d := by rw [IntKind.wrap_u8]; omega
      clear hd h0 h1
      go_enter Try.func84, Try.ntmps84
      go_wp2_with fail
      go_ret2
      rw [E.out, F.out]
      exact ⟨_, by first | rfl | simp, ownB_new w _ _ 1 rfl (Nat.le_refl _) _ [d] rfl (by simp) (by simp), by (repeat (first | with_reducible (exact Since.refl _) | with_reducible assumption | with_reducible (refine Since.drew ?_) | with_reducible (refine Since.drewN ?_ _) | with_reducible (refine Since.alloc ?_ _) | (with_reducible (refine Since.setCell ?_ ?_ _); rotate_left; focus (first | (simp; done) | (simp; omega) | omega)) | (with_reducible (refine Since.trans ?_ (by with_reducible assumption)))))⟩
    · by_cases h2 : -256 < d ∧ d < 0
      · have E := Lib.hid (show sfl7 2 16 d = 2 by unfold sfl7; rw [if_neg h0, if_neg h1, if_pos h2])
        have F := Lib.hid (show stp7 d = [-d] by unfold stp7; rw [if_neg h0, if_neg h1, if_pos h2])
        have d1 : decide (0 < d) = false := by simp; omega
        have d2 : decide (d < 0) = true := by simpa using h2.2
        have d3 : decide (-256 < d) = true := by simpa using h2.1
        have hw : IntKind.i64.wrap (-d) = -d := by rw [IntKind.wrap_i64]; omega
        have hw2 : IntKind.u8.wrap (-d) = -d := by rw [IntKind.wrap_u8]; omega
        clear hd h0 h1 h2
        go_enter Try.func84, Try.ntmps84
        go_wp2_with fail
        go_ret2
        rw [E.out, F.out]
        exact ⟨_, by first | rfl | simp, ownB_new w _ _ 1 rfl (Nat.le_refl _) _ [-d] rfl (by simp) (by simp), by (repeat (first | with_reducible (exact Since.refl _) | with_reducible assumption | with_reducible (refine Since.drew ?_) | with_reducible (refine Since.drewN ?_ _) | with_reducible (refine Since.alloc ?_ _) | (with_reducible (refine Since.setCell ?_ ?_ _); rotate_left; focus (first | (simp; done) | (simp; omega) | omega)) | (with_reducible (refine Since.trans ?_ (by with_reducible assumption)))))⟩
      · have E := Lib.hid (show sfl7 2 16 d = 0 by unfold sfl7; rw [if_neg h0, if_neg h1, if_neg h2])
        have F := Lib.hid (show putL d 2 = stp7 d by unfold stp7; rw [if_neg h0, if_neg h1, if_neg h2])
        have hC := rput_o 2 d 2 w (by unfold In64; omega) rfl (by omega)
        by_cases h3 : 0 < d
        · have d1 : decide (0 < d) = true := by simpa using h3
          have d2 : decide (d < 256) = false := by simp; omega
          have d3 : decide (d < 0) = false := by simp; omega
          clear hd h0 h1 h2 h3
          go_enter Try.func84, Try.ntmps84
          go_wp2_with (go_at_call 60; (with_reducible refine hC.mono ?_); rintro e w2 ⟨g, rfl, hg, hO, hS⟩)
          go_ret2
          rw [E.out, ← F.out]
          exact ⟨_, by first | rfl | simp, hO, hS⟩
        · have d1 : decide (0 < d) = false := by simpa using h3
          have d2 : decide (d < 0) = true := by simp; omega
          have d3 : decide (-256 < d) = false := by simp; omega
          clear hd h0 h1 h2 h3
          go_enter Try.func84, Try.ntmps84
          go_wp2_with (go_at_call 60; (with_reducible refine hC.mono ?_); rintro e w2 ⟨g, rfl, hg, hO, hS⟩)
          go_ret2
          rw [E.out, ← F.out]
          exact ⟨_, by first | rfl | simp, hO, hS⟩

set_option maxHeartbeats 4000000 in
theorem rf_step4 (d : Int) (w : World) (hd : -65535 ≤ d ∧ d ≤ 65535) :
    Calls Try.prog 84 #[.int .i64 d, .int .i64 4, .int .i64 32] w fun e w' => ∃ v, e = .returned (.tuple #[.int .i64 (sfl7 4 32 d), v]) ∧ OwnB w' w.heap.size v (stp7 d) ∧ Since w w' := by
  by_cases h0 : d = 0
  · subst h0
    have E := Lib.hid (show sfl7 4 32 0 = 32 from rfl)
    have F := Lib.hid (show stp7 0 = [] from rfl)
    clear hd
    go_enter Try.func84, Try.ntmps84
    go_wp2_with fail
    go_ret2
    rw [E.out, F.out]
    exact ⟨_, rfl, OwnG.nil _ _ _ _ _, Since.refl _⟩
  · have e0 : (d == 0) = false := by simpa using h0
    by_cases h1 : 0 < d ∧ d < 256
    · have E := Lib.hid (show sfl7 4 32 d = 36 by unfold sfl7; rw [if_neg h0, if_pos h1]; rfl)
      have F := Lib.hid (show stp7 d = [d] by unfold stp7; rw [if_neg h0, if_pos h1])
      have d1 : decide (0 < d) = true := by simpa using h1.1
      have d2 : decide (d < 256) = true := by simpa using h1.2
      have hw : IntKind.u8.wrap d = d := by rw [IntKind.wrap_u8]; omega
      clear hd h0 h1
      go_enter Try.func84, Try.ntmps84
      go_wp2_with fail
      go_ret2
      rw [E.out, F.out]
      exact ⟨_, by first | rfl | simp, ownB_new w _ _ 1 rfl (Nat.le_refl _) _ [d] rfl (by simp) (by simp), by (repeat (first | with_reducible (exact Since.refl _) | with_reducible assumption | with_reducible (refine Since.drew ?_) | with_reducible (refine Since.drewN ?_ _) | with_reducible (refine Since.alloc ?_ _) | (with_reducible (refine Since.setCell ?_ ?_ _); rotate_left; focus (first | (simp; done) | (simp; omega) | omega)) | (with_reducible (refine Since.trans ?_ (by with_reducible assumption)))))⟩
    · by_cases h2 : -256 < d ∧ d < 0
      · have E := Lib.hid (show sfl7 4 32 d = 4 by unfold sfl7; rw [if_neg h0, if_neg h1, if_pos h2])
        have F := Lib.hid (show stp7 d = [-d] by unfold stp7; rw [if_neg h0, if_neg h1, if_pos h2])
        have d1 : decide (0 < d) = false := by simp; omega
        have d2 : decide (d < 0) = true := by simpa using h2.2
        have d3 : decide (-256 < d) = true := by simpa using h2.1
        have hw : IntKind.i64.wrap (-d) = -d := by rw [IntKind.wrap_i64]; omega
        have hw2 : IntKind.u8.wrap (-d) = -d := by rw [IntKind.wrap_u8]; omega
        clear hd h0 h1 h2
        go_enter Try.func84, Try.ntmps84
        go_wp2_with fail
        go_ret2
        rw [E.out, F.out]
        exact ⟨_, by first | rfl | simp, ownB_new w _ _ 1 rfl (Nat.le_refl _) _ [-d] rfl (by simp) (by simp), by (repeat (first | with_reducible (exact Since.refl _) | with_reducible assumption | with_reducible (refine Since.drew ?_) | with_reducible (refine Since.drewN ?_ _) | with_reducible (refine Since.alloc ?_ _) | (with_reducible (refine Since.setCell ?_ ?_ _); rotate_left; focus (first | (simp; done) | (simp; omega) | omega)) | (with_reducible (refine Since.trans ?_ (by with_reducible assumption)))))⟩
      · have E := Lib.hid (show sfl7 4 32 d = 0 by unfold sfl7; rw [if_neg h0, if_neg h1, if_neg h2])
        have F := Lib.hid (show putL d 2 = stp7 d by unfold stp7; rw [if_neg h0, if_neg h1, if_neg h2])
        have hC := rput_o 2 d 2 w (by unfold In64; omega) rfl (by omega)
        by_cases h3 : 0 < d
        · have d1 : decide (0 < d) = true := by simpa using h3
          have d2 : decide (d < 256) = false := by simp; omega
          have d3 : decide (d < 0) = false := by simp; omega
          clear hd h0 h1 h2 h3
          go_enter Try.func84, Try.ntmps84
          go_wp2_with (go_at_call 60; (with_reducible refine hC.mono ?_); rintro e w2 ⟨g, rfl, hg, hO, hS⟩)
          go_ret2
          rw [E.out, ← F.out]
          exact ⟨_, by first | rfl | simp, hO, hS⟩
        · have d1 : decide (0 < d) = false := by simpa using h3
          have d2 : decide (d < 0) = true := by simp; omega
          have d3 : decide (-256 < d) = false := by simp; omega
          clear hd h0 h1 h2 h3
          go_enter Try.func84, Try.ntmps84
          go_wp2_with (go_at_call 60; (with_reducible refine hC.mono ?_); rintro e w2 ⟨g, rfl, hg, hO, hS⟩)
          go_ret2
          rw [E.out, ← F.out]
          exact ⟨_, by first | rfl | simp, hO, hS⟩

end Go.Proofs.Ytpplnapfpoloiaa
