/-
  Layer 12: the program's visit where the walk has failed, or does at once.
-/
import Derived.Test.YtcjjcjpkmjbfkaaExE
namespace Go.Proofs.Ytcjjcjpkmjbfkaa
open Go.RowKit Go.ChangeShapes Go.WideShapes Go.Deep
set_option linter.unusedVariables false
set_option linter.unusedSimpArgs false

/-- Does a visit fail at once? With what? -/
def first12 (N : Nat) (id d V1 : Int) : Int := if 16 < d then 10 else if id < 0 ∨ (N : Int) ≤ id then 8 else if 4096 < V1 then 7 else 0
/-- The walk's error behind that. -/
def errF (E x : Int) : Int := if E = 0 then x else E
set_option maxRecDepth 1000000 in
set_option maxHeartbeats 16000000 in
theorem ex_visit_no (q : Nat) (A : Option Addr) (N c : Nat) (V V1 E : Int) (id d : Int) (w : World) (hR : BoxX w q (RdrF A N c V E)) (hV : IntKind.i64.wrap (V + 1) = V1) (hN : N ≤ 9223372036854775807) (hE : errF E (first12 N id d V1) ≠ 0) :
    Calls Try.prog 21 #[.pointer (some ⟨q, 0, none⟩), .int .i64 id, .int .i64 d] w fun e w' => e = .returned (.slice none 0 0) ∧ BoxX w' q (RdrF A N c V1 (errF E (first12 N id d V1))) ∧ Nigh q w w' := by
  have hNI : (N : Int) ≤ 9223372036854775807 := by omega
  obtain ⟨c0, c1, c2, f1, f2, hq⟩ := rdr_cells hR.row
  have hR1 := Lib.hid (hR.at V1)
  have hN1 := Lib.hid ((Nigh.refl q w).set 1 (.int .i64 V1))
  have HFL := Lib.hid (fun (x : Int) (w2 : World) (h2 : BoxX w2 q (RdrF A N c V1 E)) => ex_fail q A N c V1 E x w2 h2)
  clear hR
  unfold first12 at hE ⊢
  by_cases h1 : 16 < d
  · rw [if_pos h1] at hE ⊢
    have HE := Lib.hid (show errF E 10 = if E = 0 then 10 else E from rfl)
    have HF := Lib.hid (HFL.out 10 _ hR1.out)
    rw [← HE.out] at HF
    obtain ⟨EE, hEE⟩ : ∃ EE, EE = errF E 10 := ⟨_, rfl⟩
    rw [← hEE] at HF hE ⊢
    have dE : (EE == 0) = false := by simpa using hE
    clear HE HFL hEE
    go_enter Try.func21, Try.ntmps21
    go_wp2_with (go_at_call 30; (with_reducible refine HF.out.mono ?_); rintro e w3 ⟨rfl, hR3, hN3⟩; obtain ⟨k0, k1, k2, k3, k4, k5⟩ := rdr_cells hR3.row)
    go_ret
    exact ⟨by first | rfl | simp, hR3, hN1.out.trans hN3⟩
  · rw [if_neg h1] at hE ⊢
    by_cases h2 : id < 0 ∨ (N : Int) ≤ id
    · rw [if_pos h2] at hE ⊢
      have HE := Lib.hid (show errF E 8 = if E = 0 then 8 else E from rfl)
      have HF := Lib.hid (HFL.out 8 _ hR1.out)
      rw [← HE.out] at HF
      obtain ⟨EE, hEE⟩ : ∃ EE, EE = errF E 8 := ⟨_, rfl⟩
      rw [← hEE] at HF hE ⊢
      have dE : (EE == 0) = false := by simpa using hE
      clear HE HFL hEE
      by_cases h3 : id < 0
      · clear h2
        have d3 : decide (id < 0) = true := by simpa using h3
        go_enter Try.func21, Try.ntmps21
        go_wp2_with (go_at_call 30; (with_reducible refine HF.out.mono ?_); rintro e w3 ⟨rfl, hR3, hN3⟩; obtain ⟨k0, k1, k2, k3, k4, k5⟩ := rdr_cells hR3.row)
        go_ret
        exact ⟨by first | rfl | simp, hR3, hN1.out.trans hN3⟩
      · have h4 : (N : Int) ≤ id := by omega
        clear h2
        have d3 : decide (id < 0) = false := by simpa using h3
        go_enter Try.func21, Try.ntmps21
        go_wp2_with (go_at_call 30; (with_reducible refine HF.out.mono ?_); rintro e w3 ⟨rfl, hR3, hN3⟩; obtain ⟨k0, k1, k2, k3, k4, k5⟩ := rdr_cells hR3.row)
        go_ret
        exact ⟨by first | rfl | simp, hR3, hN1.out.trans hN3⟩
    · rw [if_neg h2] at hE ⊢
      have h3 : ¬ id < 0 := by omega
      have h4 : ¬ (N : Int) ≤ id := by omega
      have d3 : decide (id < 0) = false := by simpa using h3
      clear h2
      by_cases h5 : 4096 < V1
      · rw [if_pos h5] at hE ⊢
        have HE := Lib.hid (show errF E 7 = if E = 0 then 7 else E from rfl)
        have HF := Lib.hid (HFL.out 7 _ hR1.out)
        rw [← HE.out] at HF
        obtain ⟨EE, hEE⟩ : ∃ EE, EE = errF E 7 := ⟨_, rfl⟩
        rw [← hEE] at HF hE ⊢
        have dE : (EE == 0) = false := by simpa using hE
        clear HE HFL hEE
        go_enter Try.func21, Try.ntmps21
        go_wp2_with (go_at_call 30; (with_reducible refine HF.out.mono ?_); rintro e w3 ⟨rfl, hR3, hN3⟩; obtain ⟨k0, k1, k2, k3, k4, k5⟩ := rdr_cells hR3.row)
        go_ret
        exact ⟨by first | rfl | simp, hR3, hN1.out.trans hN3⟩
      · rw [if_neg h5] at hE ⊢
        have hE0 : E ≠ 0 := fun e => hE (by unfold errF; rw [if_pos e])
        have HE := Lib.hid (show errF E 0 = E by unfold errF; rw [if_neg hE0])
        have dE : (E == 0) = false := by simpa using hE0
        rw [HE.out]
        clear HE HFL hE
        go_enter Try.func21, Try.ntmps21
        go_wp2_with fail
        go_ret
        exact ⟨by first | rfl | simp, hR1.out, hN1.out⟩
end Go.Proofs.Ytcjjcjpkmjbfkaa
