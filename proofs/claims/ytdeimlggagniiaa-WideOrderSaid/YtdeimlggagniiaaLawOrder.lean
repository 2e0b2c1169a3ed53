/-
  The law WideOrder of layer 1, walked.
-/
import Derived.Test.YtdeimlggagniiaaAlive
import Derived.Deep.DeepCutAuto
namespace Go.Proofs.Ytdeimlggagniiaa
open Go.RowKit
set_option linter.unusedVariables false

/-- The cells of a number of two words. -/
def Wf (n : Int) (j : Nat) : Value := if j = 0 then .int .i64 (hiW n) else .int .u64 (loW n)
def Zf (j : Nat) : Value := if j = 0 then .int .i64 0 else .int .u64 0
theorem wrow (w : World) (b : Nat) (hb : b = w.heap.size) (t : TypeId) (n : Int) : Row (w.alloc (.cells #[.int .i64 (hiW n), .int .u64 (loW n)] t)) b 2 (Wf n) := by
  subst hb
  refine Row.of_cells fun j hj => ?_
  have h : j = 0 ∨ j = 1 := by omega
  rcases h with rfl | rfl <;> rfl
theorem wput {w : World} {b : Nat} (h : Row w b 2 Zf) (n : Int) : Row ((w.setCell ⟨b, 0, none⟩ (.int .i64 (hiW n))).setCell ⟨b, 1, none⟩ (.int .u64 (loW n))) b 2 (Wf n) := by
  refine ((h.set 0 _).set 1 _).congr fun j hj => ?_
  have hh : j = 0 ∨ j = 1 := by omega
  rcases hh with rfl | rfl <;> rfl
theorem wzero (w : World) (b : Nat) (hb : b = w.heap.size) (t : TypeId) : Row (w.alloc (.cells #[.int .i64 0, .int .u64 0] t)) b 2 Zf := by
  subst hb
  refine Row.of_cells fun j hj => ?_
  have h : j = 0 ∨ j = 1 := by omega
  rcases h with rfl | rfl <;> rfl
/-- What the walk reads of such cells. -/
theorem wcells {w : World} {b : Nat} {n : Int} (h : Row w b 2 (Wf n)) : w.cell? ⟨b, 0, none⟩ = some (.int .i64 (hiW n)) ∧ w.cell? ⟨b, 1, none⟩ = some (.int .u64 (loW n)) ∧ b < w.heap.size := ⟨h.1 0 (by omega), h.1 1 (by omega), h.2.2⟩


/-- A number whose high word is halved. -/
def hw (n : Int) : Int := hiW n / 2 * 18446744073709551616 + loW n
theorem hw_hi (n : Int) : hiW (hw n) = hiW n / 2 := by have := lo_bd n; exact hi_mk _ _ this.1 this.2
theorem hw_lo (n : Int) : loW (hw n) = loW n := by have := lo_bd n; exact lo_mk _ _ this.1 this.2
theorem hw_in {n : Int} (h : In128 n) : -85070591730234615865843651857942052864 ≤ hw n ∧ hw n < 85070591730234615865843651857942052864 := by
  have := lo_bd n; have := hi_bd h; unfold hw; omega
theorem cmp_swap (a b : Int) : cmpI b a = -cmpI a b := by unfold cmpI; split <;> split <;> (try split) <;> omega
theorem cmp_diff (a b : Int) : signI (a - b) = cmpI a b := by unfold signI cmpI; split <;> split <;> (try split) <;> (try split) <;> omega
theorem cmp_self (a : Int) : cmpI a a = 0 := by unfold cmpI; simp
theorem cmp_bd (a b : Int) : -1 ≤ cmpI a b ∧ cmpI a b ≤ 1 := by unfold cmpI; split <;> (try split) <;> omega

set_option maxHeartbeats 1600000 in
theorem walk_order (a b : Int) (ha : In128 a) (hb : In128 b) (w : World) :
    Calls Try.prog 10 #[W a, W b] w fun e w' => e = .returned (.bool true) ∧ Since w w' := by
  go_enter Try.func10, Try.ntmps10
  go_wp2_with (go_at_call 11; refine (alive_any _).mono ?_; rintro e w1 ⟨rfl, hS1⟩; have hT := hS1; obtain ⟨hc1, hf1, hz1, hb1⟩ := hT; (try (have hq1_0_0 := hz1 (w.heap.size) (by first | with_reducible assumption | (simp; done) | (simp; omega) | omega); have hp1_0_0 := Nat.ne_of_lt hq1_0_0; have hl1_0_0 := Nat.le_of_lt hq1_0_0)); (try (have hq1_0_1 := hz1 (w.heap.size + 1) (by first | with_reducible assumption | (simp; done) | (simp; omega) | omega); have hp1_0_1 := Nat.ne_of_lt hq1_0_1; have hl1_0_1 := Nat.le_of_lt hq1_0_1)); (try (have hq1_0_2 := hz1 (w.heap.size + 1 + 1) (by first | with_reducible assumption | (simp; done) | (simp; omega) | omega); have hp1_0_2 := Nat.ne_of_lt hq1_0_2; have hl1_0_2 := Nat.le_of_lt hq1_0_2)); (try (have hq1_0_3 := hz1 (w.heap.size + 1 + 1 + 1) (by first | with_reducible assumption | (simp; done) | (simp; omega) | omega); have hp1_0_3 := Nat.ne_of_lt hq1_0_3; have hl1_0_3 := Nat.le_of_lt hq1_0_3)); (try (have hq1_1_0 := hz1 (w1.heap.size) (by first | with_reducible assumption | (simp; done) | (simp; omega) | omega); have hp1_1_0 := Nat.ne_of_lt hq1_1_0; have hl1_1_0 := Nat.le_of_lt hq1_1_0)); (try (have hq1_1_1 := hz1 (w1.heap.size + 1) (by first | with_reducible assumption | (simp; done) | (simp; omega) | omega); have hp1_1_1 := Nat.ne_of_lt hq1_1_1; have hl1_1_1 := Nat.le_of_lt hq1_1_1)); (try (have hq1_2_0 := hz1 (w2.heap.size) (by first | with_reducible assumption | (simp; done) | (simp; omega) | omega); have hp1_2_0 := Nat.ne_of_lt hq1_2_0; have hl1_2_0 := Nat.le_of_lt hq1_2_0)); (try (have hq1_2_1 := hz1 (w2.heap.size + 1) (by first | with_reducible assumption | (simp; done) | (simp; omega) | omega); have hp1_2_1 := Nat.ne_of_lt hq1_2_1; have hl1_2_1 := Nat.le_of_lt hq1_2_1)); (try (have hq1_3_0 := hz1 (w3.heap.size) (by first | with_reducible assumption | (simp; done) | (simp; omega) | omega); have hp1_3_0 := Nat.ne_of_lt hq1_3_0; have hl1_3_0 := Nat.le_of_lt hq1_3_0)); (try (have hq1_3_1 := hz1 (w3.heap.size + 1) (by first | with_reducible assumption | (simp; done) | (simp; omega) | omega); have hp1_3_1 := Nat.ne_of_lt hq1_3_1; have hl1_3_1 := Nat.le_of_lt hq1_3_1)); (try (have hq1_4_0 := hz1 (w4.heap.size) (by first | with_reducible assumption | (simp; done) | (simp; omega) | omega); have hp1_4_0 := Nat.ne_of_lt hq1_4_0; have hl1_4_0 := Nat.le_of_lt hq1_4_0)); (try (have hq1_4_1 := hz1 (w4.heap.size + 1) (by first | with_reducible assumption | (simp; done) | (simp; omega) | omega); have hp1_4_1 := Nat.ne_of_lt hq1_4_1; have hl1_4_1 := Nat.le_of_lt hq1_4_1)); (try (have hq1_5_0 := hz1 (w5.heap.size) (by first | with_reducible assumption | (simp; done) | (simp; omega) | omega); have hp1_5_0 := Nat.ne_of_lt hq1_5_0; have hl1_5_0 := Nat.le_of_lt hq1_5_0)); (try (have hq1_5_1 := hz1 (w5.heap.size + 1) (by first | with_reducible assumption | (simp; done) | (simp; omega) | omega); have hp1_5_1 := Nat.ne_of_lt hq1_5_1; have hl1_5_1 := Nat.le_of_lt hq1_5_1)); (try (have hq1_6_0 := hz1 (w6.heap.size) (by first | with_reducible assumption | (simp; done) | (simp; omega) | omega); have hp1_6_0 := Nat.ne_of_lt hq1_6_0; have hl1_6_0 := Nat.le_of_lt hq1_6_0)); (try (have hq1_6_1 := hz1 (w6.heap.size + 1) (by first | with_reducible assumption | (simp; done) | (simp; omega) | omega); have hp1_6_1 := Nat.ne_of_lt hq1_6_1; have hl1_6_1 := Nat.le_of_lt hq1_6_1)); (try (have hq1_7_0 := hz1 (w7.heap.size) (by first | with_reducible assumption | (simp; done) | (simp; omega) | omega); have hp1_7_0 := Nat.ne_of_lt hq1_7_0; have hl1_7_0 := Nat.le_of_lt hq1_7_0)); (try (have hq1_7_1 := hz1 (w7.heap.size + 1) (by first | with_reducible assumption | (simp; done) | (simp; omega) | omega); have hp1_7_1 := Nat.ne_of_lt hq1_7_1; have hl1_7_1 := Nat.le_of_lt hq1_7_1)); (try (have hq1_8_0 := hz1 (w8.heap.size) (by first | with_reducible assumption | (simp; done) | (simp; omega) | omega); have hp1_8_0 := Nat.ne_of_lt hq1_8_0; have hl1_8_0 := Nat.le_of_lt hq1_8_0)); (try (have hq1_8_1 := hz1 (w8.heap.size + 1) (by first | with_reducible assumption | (simp; done) | (simp; omega) | omega); have hp1_8_1 := Nat.ne_of_lt hq1_8_1; have hl1_8_1 := Nat.le_of_lt hq1_8_1)); (try (have hq1_9_0 := hz1 (w9.heap.size) (by first | with_reducible assumption | (simp; done) | (simp; omega) | omega); have hp1_9_0 := Nat.ne_of_lt hq1_9_0; have hl1_9_0 := Nat.le_of_lt hq1_9_0)); (try (have hq1_9_1 := hz1 (w9.heap.size + 1) (by first | with_reducible assumption | (simp; done) | (simp; omega) | omega); have hp1_9_1 := Nat.ne_of_lt hq1_9_1; have hl1_9_1 := Nat.le_of_lt hq1_9_1)))
  refine wp_named fun w0 hw0 => ?_
  have hA : Row w0 w.heap.size 2 (Wf a) := by subst hw0; exact ((wrow w _ rfl _ a).alloc _).since hS1
  have hB : Row w0 (w.heap.size + 1) 2 (Wf b) := by subst hw0; exact (wrow _ _ (by simp) _ b).since hS1
  have hS : Since w w0 := by subst hw0; (repeat (first | with_reducible (exact Since.refl _) | with_reducible assumption | with_reducible (refine Since.drew ?_) | with_reducible (refine Since.drewN ?_ _) | with_reducible (refine Since.alloc ?_ _) | (with_reducible (refine Since.setCell ?_ ?_ _); rotate_left; focus (first | (simp; done) | (simp; omega) | omega)) | (with_reducible (refine Since.trans ?_ (by with_reducible assumption)))))
  clear hw0 hc1 hf1 hz1 hb1 hS1
  obtain ⟨hA1, hA2, hA3⟩ := wcells hA
  obtain ⟨hB1, hB2, hB3⟩ := wcells hB
  go_cut [5, 6] (fun x y wx => ∃ bx b2 : Nat, x = .pointer (some ⟨bx, 0, none⟩) ∧ y = .pointer (some ⟨b2, 0, none⟩) ∧ Since w wx ∧ Row wx bx 2 (Wf (hw a)) ∧ Row wx b2 2 (Wf (hw b)))
  case first =>
    rw [← hw_lo a] at hA2
    rw [← hw_lo b] at hB2
    have e1 := (hw_hi a).symm
    have e2 := (hw_hi b).symm
    (refine wp_named fun wr1 hwr1 => ?_; go_region_held3 (fun w' => (∀ b o, b < wr1.heap.size → w'.cell? ⟨b, o, none⟩ = wr1.cell? ⟨b, o, none⟩) ∧ (∀ b o, b < wr1.heap.size → w'.frozen? ⟨b, o, none⟩ = wr1.frozen? ⟨b, o, none⟩) ∧ (∀ k, k < wr1.heap.size → k < w'.heap.size) ∧ Below wr1.heap.size wr1 w') ((subst hwr1; (repeat (with_reducible (refine since_put ?_ ?_ _); rotate_left; focus (first | (simp; done) | (simp; omega) | omega))); first | assumption | (refine since_step (by assumption) ?_; first | assumption | ((repeat (first | with_reducible (exact Since.refl _) | with_reducible assumption | with_reducible (refine Since.drew ?_) | with_reducible (refine Since.drewN ?_ _) | with_reducible (refine Since.alloc ?_ _) | (with_reducible (refine Since.setCell ?_ ?_ _); rotate_left; focus (first | (simp; done) | (simp; omega) | omega)))); done)) | (refine since_step (Since.refl _) ?_; first | assumption | ((repeat (first | with_reducible (exact Since.refl _) | with_reducible assumption | with_reducible (refine Since.drew ?_) | with_reducible (refine Since.drewN ?_ _) | with_reducible (refine Since.alloc ?_ _) | (with_reducible (refine Since.setCell ?_ ?_ _); rotate_left; focus (first | (simp; done) | (simp; omega) | omega)) | (with_reducible (refine Since.trans ?_ (by with_reducible assumption))))); done)))) (fail); all_goals (rename_i hHeld; have hR1 : Since wr1 _ := hHeld; obtain ⟨hcR1, hfR1, hzR1, hbR1⟩ := hHeld; subst hwr1))
    all_goals (go_wp2_with fail)
    all_goals go_meet
    all_goals refine ⟨_, _, rfl, rfl, ?_, ?_, ?_⟩
    all_goals (first | ((repeat (first | with_reducible (exact Since.refl _) | with_reducible assumption | with_reducible (refine Since.drew ?_) | with_reducible (refine Since.drewN ?_ _) | with_reducible (refine Since.alloc ?_ _) | (with_reducible (refine Since.setCell ?_ ?_ _); rotate_left; focus (first | (simp; done) | (simp; omega) | omega)) | (with_reducible (refine Since.trans ?_ (by with_reducible assumption))))); done) | ((repeat (first | with_reducible assumption | (with_reducible (refine wrow _ _ ?_ _ _); first | with_reducible rfl | (simp; done)) | (with_reducible (refine wzero _ _ ?_ _); first | with_reducible rfl | (simp; done)) | with_reducible (refine wput ?_ _) | with_reducible (refine Row.drewN ?_ _) | with_reducible (refine Row.drew ?_) | with_reducible (refine Row.alloc ?_ _) | (with_reducible (refine Row.far ?_ ?_ _ _); rotate_left; focus (first | (simp; done) | (simp; omega) | omega)) | with_reducible (refine Row.since ?_ hS9) | with_reducible (refine Row.since ?_ hS8) | with_reducible (refine Row.since ?_ hS7) )); done) | trace_state)
  case rest =>
    clear hA1 hA2 hA3 hB1 hB2 hB3 hS
    obtain ⟨bx, b2, rfl, rfl, hS0, hX, hY⟩ := hcut
    obtain ⟨hX1, hX2, hX3⟩ := wcells hX
    obtain ⟨hY1, hY2, hY3⟩ := wcells hY
    clear hA hB hX hY
    have hx := hw_in ha; have hy := hw_in hb
    have g1 : In128 (hw a) := by unfold In128; omega
    have g2 : In128 (hw b) := by unfold In128; omega
    have hd : w128 (hw a - hw b) = hw a - hw b := w128_of (by unfold In128; omega)
    have C : Hid (∀ W', Calls Try.prog 17 #[W (hw a), W (hw b)] W' fun e w' => e = .returned (W (hw a - hw b)) ∧ Since W' w') := by
      intro W'
      have c := wide_sub (hw a) (hw b) g1 g2 W'
      rw [hd] at c
      exact c
    have s1 := cmp_diff (hw a) (hw b)
    have s2 := cmp_swap (hw a) (hw b)
    have s3 := cmp_self (hw a)
    obtain ⟨s4, s5⟩ := cmp_bd (hw a) (hw b)
    have s6 : IntKind.i64.wrap (-(-cmpI (hw a) (hw b))) = cmpI (hw a) (hw b) := by rw [IntKind.wrap_i64]; omega
    have s7 : IntKind.i64.wrap (- -cmpI (hw a) (hw b)) = cmpI (hw a) (hw b) := by rw [IntKind.wrap_i64]; omega
    have s8 : IntKind.i64.wrap (cmpI (hw a) (hw b)) = cmpI (hw a) (hw b) := by rw [IntKind.wrap_i64]; omega
    clear hx hy hd
    generalize hw a = x at *
    generalize hw b = y at *
    go_wp2_with fail
    (refine wp_named fun wr2 hwr2 => ?_; go_region_held3 (fun w' => (∀ b o, b < wr2.heap.size → w'.cell? ⟨b, o, none⟩ = wr2.cell? ⟨b, o, none⟩) ∧ (∀ b o, b < wr2.heap.size → w'.frozen? ⟨b, o, none⟩ = wr2.frozen? ⟨b, o, none⟩) ∧ (∀ k, k < wr2.heap.size → k < w'.heap.size) ∧ Below wr2.heap.size wr2 w') ((subst hwr2; (repeat (with_reducible (refine since_put ?_ ?_ _); rotate_left; focus (first | (simp; done) | (simp; omega) | omega))); first | assumption | (refine since_step (by assumption) ?_; first | assumption | ((repeat (first | with_reducible (exact Since.refl _) | with_reducible assumption | with_reducible (refine Since.drew ?_) | with_reducible (refine Since.drewN ?_ _) | with_reducible (refine Since.alloc ?_ _) | (with_reducible (refine Since.setCell ?_ ?_ _); rotate_left; focus (first | (simp; done) | (simp; omega) | omega)))); done)) | (refine since_step (Since.refl _) ?_; first | assumption | ((repeat (first | with_reducible (exact Since.refl _) | with_reducible assumption | with_reducible (refine Since.drew ?_) | with_reducible (refine Since.drewN ?_ _) | with_reducible (refine Since.alloc ?_ _) | (with_reducible (refine Since.setCell ?_ ?_ _); rotate_left; focus (first | (simp; done) | (simp; omega) | omega)) | (with_reducible (refine Since.trans ?_ (by with_reducible assumption))))); done)))) (first | (go_at_call 21; refine (wide_cmp _ _ _).mono ?_; rintro e w1 ⟨rfl, hS⟩; have hZ := hS.below.size; (try simp at hZ)) | (go_at_call 17; refine (C.out _).mono ?_; rintro e w1 ⟨rfl, hS⟩; have hZ := hS.below.size; (try simp at hZ)) | (go_at_call 23; refine (wide_sign _ _).mono ?_; rintro e w1 ⟨rfl, hS⟩; have hZ := hS.below.size; (try simp at hZ))); all_goals (rename_i hHeld; have hR2 : Since wr2 _ := hHeld; obtain ⟨hcR2, hfR2, hzR2, hbR2⟩ := hHeld; subst hwr2))
    go_wp2
    go_ret
    exact ⟨rfl, by (repeat (first | with_reducible (exact Since.refl _) | with_reducible assumption | with_reducible (refine Since.drew ?_) | with_reducible (refine Since.drewN ?_ _) | with_reducible (refine Since.alloc ?_ _) | (with_reducible (refine Since.setCell ?_ ?_ _); rotate_left; focus (first | (simp; done) | (simp; omega) | omega)) | (with_reducible (refine Since.trans ?_ (by with_reducible assumption)))))⟩
end Go.Proofs.Ytdeimlggagniiaa
