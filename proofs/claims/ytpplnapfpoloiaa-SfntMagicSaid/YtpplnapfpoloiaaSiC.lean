/-
  Layer 7: small functions, walked: fits, readStep; short of the reference.
-/
import Derived.Test.YtpplnapfpoloiaaSiB
import Derived.Test.YtpplnapfpoloiaaCoD
import Derived.OwnWalk
namespace Go.Proofs.Ytpplnapfpoloiaa
open Go.RowKit Go.ChangeShapes Go.WideShapes Go.Deep
set_option linter.unusedVariables false
set_option linter.unusedSimpArgs false


set_option maxHeartbeats 4000000 in
theorem si_fits (v : Int) (w : World) : Calls Try.prog 103 #[.int .i64 v] w fun e w' => e = .returned (.bool (decide (Sh v))) ∧ w' = w := by
  by_cases h1 : -32768 ≤ v
  · by_cases h2 : v ≤ 32767
    · have E := Lib.hid (show decide (Sh v) = true from decide_eq_true (by unfold Sh; omega))
      have d1 : decide (-32768 ≤ v) = true := by simpa using h1
      have d2 : decide (v ≤ 32767) = true := by simpa using h2
      clear h1 h2
      go_enter Try.func103, Try.ntmps103
      go_wp2_with fail
      go_ret
      rw [E.out]
      exact ⟨by first | rfl | simp, rfl⟩
    · have E := Lib.hid (show decide (Sh v) = false from decide_eq_false (by unfold Sh; omega))
      have d1 : decide (-32768 ≤ v) = true := by simpa using h1
      have d2 : decide (v ≤ 32767) = false := by simpa using h2
      clear h1 h2
      go_enter Try.func103, Try.ntmps103
      go_wp2_with fail
      go_ret
      rw [E.out]
      exact ⟨by first | rfl | simp, rfl⟩
  · have E := Lib.hid (show decide (Sh v) = false from decide_eq_false (by unfold Sh; omega))
    have d1 : decide (-32768 ≤ v) = false := by simpa using h1
    clear h1
    go_enter Try.func103, Try.ntmps103
    go_wp2_with fail
    go_ret
    rw [E.out]
    exact ⟨by first | rfl | simp, rfl⟩

set_option maxHeartbeats 4000000 in
theorem rf_short7 (v : Int) (w : World) : Calls Try.prog 83 #[.int .i64 v] w fun e w' => e = .returned (.bool (decide (Sh v))) ∧ w' = w := by
  by_cases h1 : -32768 ≤ v
  · by_cases h2 : v ≤ 32767
    · have E := Lib.hid (show decide (Sh v) = true from decide_eq_true (by unfold Sh; omega))
      have d1 : decide (-32768 ≤ v) = true := by simpa using h1
      have d2 : decide (v ≤ 32767) = true := by simpa using h2
      clear h1 h2
      go_enter Try.func83, Try.ntmps83
      go_wp2_with fail
      go_ret
      rw [E.out]
      exact ⟨by first | rfl | simp, rfl⟩
    · have E := Lib.hid (show decide (Sh v) = false from decide_eq_false (by unfold Sh; omega))
      have d1 : decide (-32768 ≤ v) = true := by simpa using h1
      have d2 : decide (v ≤ 32767) = false := by simpa using h2
      clear h1 h2
      go_enter Try.func83, Try.ntmps83
      go_wp2_with fail
      go_ret
      rw [E.out]
      exact ⟨by first | rfl | simp, rfl⟩
  · have E := Lib.hid (show decide (Sh v) = false from decide_eq_false (by unfold Sh; omega))
    have d1 : decide (-32768 ≤ v) = false := by simpa using h1
    clear h1
    go_enter Try.func83, Try.ntmps83
    go_wp2_with fail
    go_ret
    rw [E.out]
    exact ⟨by first | rfl | simp, rfl⟩

theorem num_one (f : Nat → Int) (p : Nat) : numAt f p 1 = f p := by simp [numAt]
/-- A step's width and value, by the two bits. -/
def swB (s u : Bool) : Nat := if s then 1 else if u then 0 else 2
def svB (f : Nat → Int) (s u : Bool) (p : Nat) : Int := if s then (if u then f p else - f p) else if u then 0 else sgn 2 (numAt f p 2)
theorem swB_is (is sm g : Int) : sw7 is sm g = swB (decide (Has8 g is)) (decide (Has8 g sm)) := by
  unfold sw7 swB; simp only [decide_eq_true_eq]
theorem svB_is (f : Nat → Int) (is sm g : Int) (p : Nat) : sv7 f is sm g p = svB f (decide (Has8 g is)) (decide (Has8 g sm)) p := by
  unfold sv7 svB; simp only [decide_eq_true_eq]
set_option maxHeartbeats 4000000 in
theorem si_step (A : Option Addr) (n c : Nat) (f : Nat → Int) (p : Nat) (x : Int) (s u : Bool) (w : World) (h : Rd w w.heap.size A n (U8 f)) (hf : ∀ j, j < n → 0 ≤ f j ∧ f j ≤ 255) (hx : x = p) (hp : p + swB s u ≤ n) (hn : n ≤ 140737488355328) :
    Calls Try.prog 114 #[.slice A n c, .int .i64 x, .bool s, .bool u] w fun e w' => e = .returned (.tuple #[.int .i64 (svB f s u p), .int .i64 (swB s u), .int .i64 0]) ∧ w' = w := by
  have hpn : (p : Int) ≤ 140737488355328 := by omega
  subst hx
  cases s
  · cases u
    · have hp' : p + 2 ≤ n := hp
      have hC := s_in A n c f p 2 p 2 w h hf rfl rfl (by omega) hp' hn
      have E := Lib.hid (show svB f false false p = sgn 2 (numAt f p 2) from rfl)
      clear h hf hp hp'
      go_enter Try.func114, Try.ntmps114
      go_wp2_with (go_at_call 72; (with_reducible refine hC.mono ?_); rintro e w2 ⟨rfl, rfl⟩)
      go_ret3
      rw [E.out]
      exact ⟨by first | rfl | simp [swB], rfl⟩
    · clear h hf hp
      go_enter Try.func114, Try.ntmps114
      go_wp2_with fail
      go_ret3
      exact ⟨by first | rfl | simp [swB, svB], rfl⟩
  · have hp' : p + 1 ≤ n := hp
    have hC := u_in A n c f p 1 p 1 w h hf rfl rfl (by omega) hp' hn
    rw [num_one] at hC
    have hr := hf p (by omega)
    have hneg : IntKind.i64.wrap (-(f p)) = - f p := by rw [IntKind.wrap_i64]; omega
    clear h hf hp hp'
    cases u
    · have E := Lib.hid (show svB f true false p = - f p from rfl)
      go_enter Try.func114, Try.ntmps114
      go_wp2_with (go_at_call 62; (with_reducible refine hC.mono ?_); rintro e w2 ⟨rfl, rfl⟩)
      go_ret3
      rw [E.out]
      exact ⟨by first | rfl | simp [swB], rfl⟩
    · have E := Lib.hid (show svB f true true p = f p from rfl)
      go_enter Try.func114, Try.ntmps114
      go_wp2_with (go_at_call 62; (with_reducible refine hC.mono ?_); rintro e w2 ⟨rfl, rfl⟩)
      go_ret3
      rw [E.out]
      exact ⟨by first | rfl | simp [swB], rfl⟩
set_option maxHeartbeats 4000000 in
theorem si_step_no (A : Option Addr) (n c : Nat) (f : Nat → Int) (p : Nat) (x : Int) (s u : Bool) (w : World) (h : Rd w w.heap.size A n (U8 f)) (hf : ∀ j, j < n → 0 ≤ f j ∧ f j ≤ 255) (hx : x = p) (hpn : p ≤ n) (hp : n < p + swB s u) (hn : n ≤ 140737488355328) :
    Calls Try.prog 114 #[.slice A n c, .int .i64 x, .bool s, .bool u] w fun e w' => e = .returned (.tuple #[.int .i64 0, .int .i64 (swB s u), .int .i64 3]) ∧ w' = w := by
  have hpn' : (p : Int) ≤ 140737488355328 := by omega
  subst hx
  cases s
  · cases u
    · have hp' : n < p + 2 := hp
      have hC := s_out A n c f p 2 p 2 w h hf rfl rfl (by omega) hp' (by omega) hn
      clear h hf hp hp' hpn
      go_enter Try.func114, Try.ntmps114
      go_wp2_with (go_at_call 72; (with_reducible refine hC.mono ?_); rintro e w2 ⟨rfl, rfl⟩)
      go_ret3
      exact ⟨by first | rfl | simp [swB], rfl⟩
    · exact absurd hp (by simp [swB]; omega)
  · have hp' : n < p + 1 := hp
    have hC := u_out A n c f p 1 p 1 w h hf rfl rfl (by omega) hp' (by omega) hn
    clear h hf hp hp' hpn
    cases u
    all_goals
      go_enter Try.func114, Try.ntmps114
      go_wp2_with (go_at_call 62; (with_reducible refine hC.mono ?_); rintro e w2 ⟨rfl, rfl⟩)
      go_ret3
      exact ⟨by first | rfl | simp [swB], rfl⟩
end Go.Proofs.Ytpplnapfpoloiaa
