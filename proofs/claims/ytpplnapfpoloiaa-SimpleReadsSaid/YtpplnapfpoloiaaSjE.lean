/-
  Layer 7: the reference's steps: one number of two bytes, read or not.
-/
import Derived.Test.YtpplnapfpoloiaaSjD
namespace Go.Proofs.Ytpplnapfpoloiaa
open Go.RowKit Go.ChangeShapes Go.WideShapes Go.Deep
set_option linter.unusedVariables false
set_option linter.unusedSimpArgs false

theorem rf_s2_in (q B : Nat) (A : Option Addr) (n c : Nat) (f : Nat → Int) (p : Nat) (w : World) (hR : Row w q 3 (RdrF A n c (p : Int) 0)) (h : Rd w B A n (U8 f)) (hB : B ≤ q) (hf : ∀ j, j < n → 0 ≤ f j ∧ f j ≤ 255) (hp : p + 2 ≤ n) (hn : n ≤ 140737488355328) :
    Calls Try.prog 77 #[.pointer (some ⟨q, 0, none⟩)] w fun e w' => e = .returned (.int .i64 (sgn 2 (numAt f p 2))) ∧ (-32768 ≤ sgn 2 (numAt f p 2) ∧ sgn 2 (numAt f p 2) ≤ 32767) ∧ Row w' q 3 (RdrF A n c ((p + 2 : Nat) : Int) 0) ∧ Near q w w' := by
  refine (rf_s7 q A n c f p 3 (p : Int) 0 w hR (h.more (by have := hR.2.2; omega)) hf (by omega) hn (.inr ⟨rfl, rfl, rfl, by omega⟩)).mono ?_
  rintro e w' ⟨v, p', E, rfl, hR', hN, hst, hv, hvb, hv0⟩
  rcases hst with ⟨rfl, _, h3⟩ | ⟨rfl, _, rfl, _⟩
  · have := h3 rfl; omega
  · have e := hv rfl
    subst e
    exact ⟨rfl, hvb, hR', hN⟩
theorem rf_s2_out (q B : Nat) (A : Option Addr) (n c : Nat) (f : Nat → Int) (p : Nat) (w : World) (hR : Row w q 3 (RdrF A n c (p : Int) 0)) (h : Rd w B A n (U8 f)) (hB : B ≤ q) (hf : ∀ j, j < n → 0 ≤ f j ∧ f j ≤ 255) (hp : p ≤ n) (hp1 : n < p + 2) (hn : n ≤ 140737488355328) :
    Calls Try.prog 77 #[.pointer (some ⟨q, 0, none⟩)] w fun e w' => e = .returned (.int .i64 0) ∧ (∃ p' : Int, Row w' q 3 (RdrF A n c p' 3)) ∧ Near q w w' := by
  refine (rf_s7 q A n c f p 3 (p : Int) 0 w hR (h.more (by have := hR.2.2; omega)) hf (by omega) hn (.inr ⟨rfl, rfl, rfl, hp⟩)).mono ?_
  rintro e w' ⟨v, p', E, rfl, hR', hN, hst, hv, hvb, hv0⟩
  rcases hst with ⟨rfl, h0, h3⟩ | ⟨rfl, _, rfl, h4⟩
  · exact ⟨by rw [hv0 h0], ⟨p', hR'⟩, hN⟩
  · omega
/-- What 'steps' leaves. -/
def RfSt (q : Nat) (A : Option Addr) (n c : Nat) (T : Fl7) (w : World) (e : Ending) (w' : World) : Prop :=
  ∃ v L p, e = .returned v ∧ OwnI w' w.heap.size v L ∧ Row w' q 3 (RdrF A n c p T.e) ∧ Near q w w' ∧ (T.e = 0 → L = T.L ∧ p = (T.p : Int))
end Go.Proofs.Ytpplnapfpoloiaa
