/-
  Layer 7: the reference's 'fail', walked.
-/
import Derived.Test.YtpplnapfpoloiaaSiF
namespace Go.Proofs.Ytpplnapfpoloiaa
open Go.RowKit Go.ChangeShapes Go.WideShapes Go.Deep
set_option linter.unusedVariables false
set_option linter.unusedSimpArgs false

/-- What 'fail' leaves. -/
def RfPost7 (q : Nat) (A : Option Addr) (n c : Nat) (p E x : Int) (w : World) (e : Ending) (w' : World) : Prop :=
  e = .returned (.tuple #[]) ∧ Row w' q 3 (RdrF A n c p (if E = 0 then x else E)) ∧ Near q w w'
set_option maxRecDepth 100000 in
set_option maxHeartbeats 8000000 in
theorem rf_fail7 (q : Nat) (A : Option Addr) (n c : Nat) (p E x : Int) (w : World) (hR : Row w q 3 (RdrF A n c p E)) :
    Calls Try.prog 102 #[.pointer (some ⟨q, 0, none⟩), .int .i64 x] w (RfPost7 q A n c p E x w) := by
  obtain ⟨c0, c1, c2, f1, f2, hq⟩ := rdr_cells hR
  by_cases h0 : E = 0
  · subst h0
    have H1 : RfPost7 q A n c p 0 x w (.returned (.tuple #[])) (w.setCell ⟨q, 2, none⟩ (.int .i64 x)) := ⟨rfl, by rw [if_pos rfl]; exact rdr_e hR x, (Near.refl q w).set _ _⟩
    have HH := Lib.hid H1
    clear H1 hR
    go_enter Try.func102, Try.ntmps102
    go_wp2_with fail
    first | go_end0 | (refine bodyPost_ret (results_none rfl _ _ _) rfl ?_)
    exact HH.out
  · have d0 : (E == 0) = false := by simpa using h0
    have H1 : RfPost7 q A n c p E x w (.returned (.tuple #[])) w := ⟨rfl, by rw [if_neg h0]; exact hR, Near.refl q w⟩
    have HH := Lib.hid H1
    clear H1 hR
    go_enter Try.func102, Try.ntmps102
    go_wp2_with fail
    first | go_end0 | (refine bodyPost_ret (results_none rfl _ _ _) rfl ?_)
    exact HH.out
end Go.Proofs.Ytpplnapfpoloiaa
