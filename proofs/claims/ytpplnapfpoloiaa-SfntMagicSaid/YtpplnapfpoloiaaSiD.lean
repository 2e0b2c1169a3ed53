/-
  Layer 7: writeStep, walked.
-/
import Derived.Test.YtpplnapfpoloiaaSiC
namespace Go.Proofs.Ytpplnapfpoloiaa
open Go.RowKit Go.ChangeShapes Go.WideShapes Go.Deep
set_option linter.unusedVariables false
set_option linter.unusedSimpArgs false

theorem putL_one {d : Int} (h0 : 0 ≤ d) (h1 : d < 256) : putL d 1 = [d] := by
  have e : byteOf d 1 0 = d := by unfold byteOf; simp; omega
  have e2 : putL d 1 = [byteOf d 1 0] := rfl
  rw [e2, e]

set_option maxHeartbeats 4000000 in
theorem si_wstep2 (d : Int) (w : World) (hd : -65535 ≤ d ∧ d ≤ 65535) :
    Calls Try.prog 104 #[.int .i64 d, .int .i64 2, .int .i64 16] w fun e w' => ∃ v, e = .returned (.tuple #[v, .int .i64 (sfl7 2 16 d)]) ∧ OwnB w' w.heap.size v (stp7 d) ∧ Since w w' := by
  by_cases h0 : d = 0
  · subst h0
    have E := Lib.hid (show sfl7 2 16 0 = 16 from rfl)
    have F := Lib.hid (show stp7 0 = [] from rfl)
    clear hd
    go_enter Try.func104, Try.ntmps104
    go_wp2_with fail
    go_ret2
    rw [E.out, F.out]
    exact ⟨_, rfl, OwnG.nil _ _ _ _ _, Since.refl _⟩
  · have e0 : (d == 0) = false := by simpa using h0
    by_cases h1 : 0 < d ∧ d < 256
    · have E := Lib.hid (show sfl7 2 16 d = 18 by unfold sfl7; rw [if_neg h0, if_pos h1]; rfl)
      have F := Lib.hid (show putL d 1 = stp7 d by unfold stp7; rw [if_neg h0, if_pos h1, putL_one (by omega) (by omega)])
      have d1 : decide (0 < d) = true := by simpa using h1.1
      have d2 : decide (d ≤ 255) = true := by simp; omega
      have o1 : bits .or .i64 2 16 = 18 := by decide
      have hC := put_o 1 d 1 w (by unfold In64; omega) rfl (by omega)
      clear hd h0 h1
      go_enter Try.func104, Try.ntmps104
      go_wp2_with (go_at_call 48; (with_reducible refine hC.mono ?_); rintro e w2 ⟨g, rfl, hg, hO, hS⟩)
      go_ret2
      rw [E.out, ← F.out]
      exact ⟨_, by first | rfl | simp, hO, hS⟩
    · by_cases h2 : -256 < d ∧ d < 0
      · have E := Lib.hid (show sfl7 2 16 d = 2 by unfold sfl7; rw [if_neg h0, if_neg h1, if_pos h2])
        have F := Lib.hid (show putL (-d) 1 = stp7 d by unfold stp7; rw [if_neg h0, if_neg h1, if_pos h2, putL_one (by omega) (by omega)])
        have d1 : decide (0 < d) = false := by simp; omega
        have d2 : decide (d < 0) = true := by simpa using h2.2
        have d3 : decide (-255 ≤ d) = true := by simp; omega
        have hw : IntKind.i64.wrap (-d) = -d := by rw [IntKind.wrap_i64]; omega
        have hC := put_o 1 (-d) 1 w (by unfold In64; omega) rfl (by omega)
        clear hd h0 h1 h2
        go_enter Try.func104, Try.ntmps104
        go_wp2_with (go_at_call 48; (with_reducible refine hC.mono ?_); rintro e w2 ⟨g, rfl, hg, hO, hS⟩)
        go_ret2
        rw [E.out, ← F.out]
        exact ⟨_, by first | rfl | simp, hO, hS⟩
      · have E := Lib.hid (show sfl7 2 16 d = 0 by unfold sfl7; rw [if_neg h0, if_neg h1, if_neg h2])
        have F := Lib.hid (show putL d 2 = stp7 d by unfold stp7; rw [if_neg h0, if_neg h1, if_neg h2])
        have hC := put_o 2 d 2 w (by unfold In64; omega) rfl (by omega)
        by_cases h3 : 0 < d
        · have d1 : decide (0 < d) = true := by simpa using h3
          have d2 : decide (d ≤ 255) = false := by simp; omega
          have d3 : decide (d < 0) = false := by simp; omega
          clear hd h0 h1 h2 h3
          go_enter Try.func104, Try.ntmps104
          go_wp2_with (go_at_call 48; (with_reducible refine hC.mono ?_); rintro e w2 ⟨g, rfl, hg, hO, hS⟩)
          go_ret2
          rw [E.out, ← F.out]
          exact ⟨_, by first | rfl | simp, hO, hS⟩
        · have d1 : decide (0 < d) = false := by simpa using h3
          have d2 : decide (d < 0) = true := by simp; omega
          have d3 : decide (-255 ≤ d) = false := by simp; omega
          clear hd h0 h1 h2 h3
          go_enter Try.func104, Try.ntmps104
          go_wp2_with (go_at_call 48; (with_reducible refine hC.mono ?_); rintro e w2 ⟨g, rfl, hg, hO, hS⟩)
          go_ret2
          rw [E.out, ← F.out]
          exact ⟨_, by first | rfl | simp, hO, hS⟩

set_option maxHeartbeats 4000000 in
theorem si_wstep4 (d : Int) (w : World) (hd : -65535 ≤ d ∧ d ≤ 65535) :
    Calls Try.prog 104 #[.int .i64 d, .int .i64 4, .int .i64 32] w fun e w' => ∃ v, e = .returned (.tuple #[v, .int .i64 (sfl7 4 32 d)]) ∧ OwnB w' w.heap.size v (stp7 d) ∧ Since w w' := by
  by_cases h0 : d = 0
  · subst h0
    have E := Lib.hid (show sfl7 4 32 0 = 32 from rfl)
    have F := Lib.hid (show stp7 0 = [] from rfl)
    clear hd
    go_enter Try.func104, Try.ntmps104
    go_wp2_with fail
    go_ret2
    rw [E.out, F.out]
    exact ⟨_, rfl, OwnG.nil _ _ _ _ _, Since.refl _⟩
  · have e0 : (d == 0) = false := by simpa using h0
    by_cases h1 : 0 < d ∧ d < 256
    · have E := Lib.hid (show sfl7 4 32 d = 36 by unfold sfl7; rw [if_neg h0, if_pos h1]; rfl)
      have F := Lib.hid (show putL d 1 = stp7 d by unfold stp7; rw [if_neg h0, if_pos h1, putL_one (by omega) (by omega)])
      have d1 : decide (0 < d) = true := by simpa using h1.1
      have d2 : decide (d ≤ 255) = true := by simp; omega
      have o1 : bits .or .i64 4 32 = 36 := by decide
      have hC := put_o 1 d 1 w (by unfold In64; omega) rfl (by omega)
      clear hd h0 h1
      go_enter Try.func104, Try.ntmps104
      go_wp2_with (go_at_call 48; (with_reducible refine hC.mono ?_); rintro e w2 ⟨g, rfl, hg, hO, hS⟩)
      go_ret2
      rw [E.out, ← F.out]
      exact ⟨_, by first | rfl | simp, hO, hS⟩
    · by_cases h2 : -256 < d ∧ d < 0
      · have E := Lib.hid (show sfl7 4 32 d = 4 by unfold sfl7; rw [if_neg h0, if_neg h1, if_pos h2])
        have F := Lib.hid (show putL (-d) 1 = stp7 d by unfold stp7; rw [if_neg h0, if_neg h1, if_pos h2, putL_one (by omega) (by omega)])
        have d1 : decide (0 < d) = false := by simp; omega
        have d2 : decide (d < 0) = true := by simpa using h2.2
        have d3 : decide (-255 ≤ d) = true := by simp; omega
        have hw : IntKind.i64.wrap (-d) = -d := by rw [IntKind.wrap_i64]; omega
        have hC := put_o 1 (-d) 1 w (by unfold In64; omega) rfl (by omega)
        clear hd h0 h1 h2
        go_enter Try.func104, Try.ntmps104
        go_wp2_with (go_at_call 48; (with_reducible refine hC.mono ?_); rintro e w2 ⟨g, rfl, hg, hO, hS⟩)
        go_ret2
        rw [E.out, ← F.out]
        exact ⟨_, by first | rfl | simp, hO, hS⟩
      · have E := Lib.hid (show sfl7 4 32 d = 0 by unfold sfl7; rw [if_neg h0, if_neg h1, if_neg h2])
        have F := Lib.hid (show putL d 2 = stp7 d by unfold stp7; rw [if_neg h0, if_neg h1, if_neg h2])
        have hC := put_o 2 d 2 w (by unfold In64; omega) rfl (by omega)
        by_cases h3 : 0 < d
        · have d1 : decide (0 < d) = true := by simpa using h3
          have d2 : decide (d ≤ 255) = false := by simp; omega
          have d3 : decide (d < 0) = false := by simp; omega
          clear hd h0 h1 h2 h3
          go_enter Try.func104, Try.ntmps104
          go_wp2_with (go_at_call 48; (with_reducible refine hC.mono ?_); rintro e w2 ⟨g, rfl, hg, hO, hS⟩)
          go_ret2
          rw [E.out, ← F.out]
          exact ⟨_, by first | rfl | simp, hO, hS⟩
        · have d1 : decide (0 < d) = false := by simpa using h3
          have d2 : decide (d < 0) = true := by simp; omega
          have d3 : decide (-255 ≤ d) = false := by simp; omega
          clear hd h0 h1 h2 h3
          go_enter Try.func104, Try.ntmps104
          go_wp2_with (go_at_call 48; (with_reducible refine hC.mono ?_); rintro e w2 ⟨g, rfl, hg, hO, hS⟩)
          go_ret2
          rw [E.out, ← F.out]
          exact ⟨_, by first | rfl | simp, hO, hS⟩

end Go.Proofs.Ytpplnapfpoloiaa
