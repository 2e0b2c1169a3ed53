/-
  Layer 8: the reference's reader, walked.
-/
import Derived.Test.YtcjjcjpkmjbfkaaCoF
import Derived.Test.YtcjjcjpkmjbfkaaMhC
import Derived.Test.YtcjjcjpkmjbfkaaMhE
namespace Go.Proofs.Ytcjjcjpkmjbfkaa
open Go.RowKit Go.ChangeShapes Go.WideShapes Go.Deep
set_option linter.unusedVariables false

/-- What 's' leaves. -/
def RsPost (q : Nat) (A : Option Addr) (n c : Nat) (f : Nat → Int) (x m : Nat) (E0 : Int) (w : World) (e : Ending) (w' : World) : Prop :=
  ∃ v p E, e = .returned (.int .i64 v) ∧ Row w' q 3 (RdrF A n c p E) ∧ Nigh q w w' ∧ StR n (x + m) E0 p E ∧ (E = 0 → v = sgn m (numAt f x m)) ∧ (E ≠ 0 → v = 0)
set_option maxRecDepth 100000 in
set_option maxHeartbeats 8000000 in
theorem rf_s8 (q : Nat) (A : Option Addr) (n c : Nat) (f : Nat → Int) (x m : Nat) (y E0 p E : Int) (w : World) (hR : Row w q 3 (RdrF A n c p E)) (h : Rd w w.heap.size A n (U8 f)) (hf : ∀ j, j < n → 0 ≤ f j ∧ f j ≤ 255) (hy : y = m) (hm : 1 ≤ m ∧ m ≤ 4) (hx : x ≤ 140737488455328) (hn : n ≤ 140737488355328) (hst : StR n x E0 p E) :
    Calls Try.prog 49 #[.pointer (some ⟨q, 0, none⟩), .int .i64 y] w (RsPost q A n c f x m E0 w) := by
  subst hy
  obtain ⟨c0, c1, c2, f1, f2, hq⟩ := rdr_cells hR
  have hm1 : (m : Int) ≤ 4 := by omega
  have hm0 : (1 : Int) ≤ m := by omega
  rcases hst with ⟨rfl, h0, h3⟩ | ⟨rfl, rfl, rfl, hxn⟩
  · have d0 : (E == 0) = false := by simpa using h0
    have H1 : RsPost q A n c f x m E w (.returned (.int .i64 0)) w := ⟨0, p, E, rfl, hR, Nigh.refl _ _, .inl ⟨rfl, h0, fun e => by have := h3 e; omega⟩, fun e => absurd e h0, fun _ => rfl⟩
    have HH := Lib.hid H1
    clear H1 h h3 hf hR
    go_enter Try.func49, Try.ntmps49
    go_wp2_with fail
    go_ret
    exact HH.out
  · have hxi : (x : Int) ≤ 140737488455328 := by omega
    have hx0 : (0 : Int) ≤ x := by omega
    by_cases hfit : x + m ≤ n
    · have hC := fun w2 h2 => rs_in A n c f x m x m w2 h2 hf rfl rfl hm hfit (by omega)
      have H1 : ∀ k, RsPost q A n c f x m 3 w (.returned (.int .i64 (sgn m (numAt f x m)))) ((w.drewN k).setCell ⟨q, 1, none⟩ (.int .i64 ((x : Int) + m))) := fun k => ⟨_, _, 0, rfl, rdr_at (hR.drewN k) _, ((Nigh.refl q w).drewN k).set _ _, .inr ⟨rfl, rfl, by omega, hfit⟩, fun _ => rfl, fun e => absurd rfl e⟩
      generalize hv : sgn m (numAt f x m) = v at *
      have HH := Lib.hid H1
      have HC := Lib.hid hC
      clear H1 hf hR hv hC
      go_enter Try.func49, Try.ntmps49
      go_wp2_with fail
      go_quiet ((go_at_call 64; exact Calls.quiet_of_same (HC.out _ (h.drewN _))))
      go_wp2_with fail
      go_ret
      exact HH.out nq
    · have hC := fun w2 h2 => rs_out A n c f x m x m w2 h2 hf rfl rfl hm (by omega) (by omega) (by omega)
      have H1 : ∀ k, RsPost q A n c f x m 3 w (.returned (.int .i64 0)) ((w.drewN k).setCell ⟨q, 2, none⟩ (.int .i64 3)) := fun k => ⟨_, _, 3, rfl, rdr_e (hR.drewN k) _, ((Nigh.refl q w).drewN k).set _ _, .inl ⟨rfl, by omega, fun _ => by omega⟩, fun e => absurd e (by omega), fun _ => rfl⟩
      have HH := Lib.hid H1
      have HC := Lib.hid hC
      clear H1 hf hR hC
      go_enter Try.func49, Try.ntmps49
      go_wp2_with fail
      go_quiet ((go_at_call 64; exact Calls.quiet_of_same (HC.out _ (h.drewN _))))
      go_wp2_with fail
      go_ret
      exact HH.out nq
/-- What 'u' leaves. -/
def RuPost (q : Nat) (A : Option Addr) (n c : Nat) (f : Nat → Int) (x : Nat) (E0 : Int) (w : World) (e : Ending) (w' : World) : Prop :=
  ∃ v p E, e = .returned (.int .i64 v) ∧ Row w' q 3 (RdrF A n c p E) ∧ Nigh q w w' ∧ StR n (x + 2) E0 p E ∧ (E = 0 → v = numAt f x 2) ∧ (0 ≤ v ∧ v < 65536)
set_option maxRecDepth 100000 in
set_option maxHeartbeats 8000000 in
theorem rf_u8 (q : Nat) (A : Option Addr) (n c : Nat) (f : Nat → Int) (x : Nat) (E0 p E : Int) (w : World) (hR : Row w q 3 (RdrF A n c p E)) (h : Rd w w.heap.size A n (U8 f)) (hf : ∀ j, j < n → 0 ≤ f j ∧ f j ≤ 255) (hx : x ≤ 140737488455328) (hn : n ≤ 140737488355328) (hst : StR n x E0 p E) :
    Calls Try.prog 50 #[.pointer (some ⟨q, 0, none⟩)] w (RuPost q A n c f x E0 w) := by
  have hC := rf_s8 q A n c f x 2 2 E0 p E w hR h hf rfl (by omega) hx hn hst
  have hrange : x + 2 ≤ n → 0 ≤ numAt f x 2 ∧ numAt f x 2 < 65536 := fun hx2 => by
    have := numAt_range (f := f) (p := x) (k := 2) (fun j hj => hf j (by omega))
    simpa using this
  have K : ∀ v p' E' w', Row w' q 3 (RdrF A n c p' E') → Nigh q w w' → StR n (x + 2) E0 p' E' → (E' = 0 → v = sgn 2 (numAt f x 2)) → (E' ≠ 0 → v = 0) → (-32768 ≤ v ∧ v ≤ 32767) ∧ (v < 0 → RuPost q A n c f x E0 w (.returned (.int .i64 (v + 65536))) w') ∧ (¬ v < 0 → RuPost q A n c f x E0 w (.returned (.int .i64 v)) w') := by
    intro v p' E' w' k1 k2 k3 k4 k5
    by_cases e : E' = 0
    · have hfit : x + 2 ≤ n := by
        rcases k3 with ⟨a, b, _⟩ | ⟨_, _, _, b⟩
        · exact absurd (a.symm.trans e) b
        · exact b
      have hr := hrange hfit
      have hv := k4 e
      have hs : sgn 2 (numAt f x 2) = if 65536 ≤ 2 * numAt f x 2 then numAt f x 2 - 65536 else numAt f x 2 := by unfold sgn; simp only [Int.reducePow]
      rw [hs] at hv
      by_cases hg : 65536 ≤ 2 * numAt f x 2
      · rw [if_pos hg] at hv
        exact ⟨by omega, fun _ => ⟨_, p', E', rfl, k1, k2, k3, fun _ => by omega, by omega⟩, fun h => absurd (by omega) h⟩
      · rw [if_neg hg] at hv
        exact ⟨by omega, fun h => absurd h (by omega), fun _ => ⟨_, p', E', rfl, k1, k2, k3, fun _ => hv, by omega⟩⟩
    · have hv := k5 e
      exact ⟨by omega, fun h => absurd h (by omega), fun _ => ⟨_, p', E', rfl, k1, k2, k3, fun h => absurd h e, by omega⟩⟩
  have HK := Lib.hid K
  clear hR h hf hst K hrange
  go_enter Try.func50, Try.ntmps50
  go_wp2_with (go_at_call 49; (with_reducible refine hC.mono ?_); rintro e w2 ⟨v, p', E', rfl, k1, k2, k3, k4, k5⟩; obtain ⟨hvr, hv1, hv2⟩ := HK.out v p' E' w2 k1 k2 k3 k4 k5; have HV1 := Lib.hid hv1; have HV2 := Lib.hid hv2; clear hv1 hv2 k1 k2 k3 k4 k5)
  all_goals go_ret
  · exact HV1.out (by assumption)
  · exact HV2.out (by omega)
end Go.Proofs.Ytcjjcjpkmjbfkaa
