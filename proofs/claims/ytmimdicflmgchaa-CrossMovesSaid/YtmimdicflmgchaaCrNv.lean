/-
  Layer 15: the law CrossMoves whole.
-/
import Derived.Test.YtmimdicflmgchaaCrMv
namespace Go.Proofs.Ytmimdicflmgchaa
open Go.RowKit
set_option linter.unusedVariables false

theorem rf_more (x y u v : Int) (h1 : -16777216 ≤ x ∧ x ≤ 16777216) (h2 : -16777216 ≤ y ∧ y ≤ 16777216) (h3 : -16777216 ≤ u ∧ u ≤ 16777216) (h4 : -16777216 ≤ v ∧ v ≤ 16777216) (w : World) :
    Calls Try.prog 19 #[Pt x y, Pt u v] w fun e w' => e = .returned (Pt (x + u) (y + v)) ∧ Since w w' := by
  unfold Pt
  go_enter Try.func19, Try.ntmps19
  go_wp2
  refine bodyPost_ret (by simp only [results, Try.results19]; go_simp) rfl ⟨rfl, ?_⟩
  (repeat (first | with_reducible (exact Since.refl _) | with_reducible assumption | with_reducible (refine Since.drew ?_) | with_reducible (refine Since.drewN ?_ _) | with_reducible (refine Since.alloc ?_ _) | (with_reducible (refine Since.setCell ?_ ?_ _); rotate_left; focus (first | (simp; done) | (simp; omega) | omega)) | (with_reducible (refine Since.trans ?_ (by with_reducible assumption)))))
theorem in16_wf {a : Int} (h : (Lit.int .i16 a).wf = true) : -32768 ≤ a ∧ a ≤ 32767 := by
  simpa [Lit.wf, IntKind.min, IntKind.max, IntKind.signed, IntKind.bits] using h
theorem crossmoves_ln (s t : Ln) (hs : ∀ x, x = s.ax ∨ x = s.ay ∨ x = s.bx ∨ x = s.bz → -1048576 ≤ x ∧ x ≤ 1048576) (ht : ∀ x, x = t.ax ∨ x = t.ay ∨ x = t.bx ∨ x = t.bz → -1048576 ≤ x ∧ x ≤ 1048576) (q0 q1 q2 q3 q4 q5 q6 q7 g h : Int) (hg : -32768 ≤ g ∧ g ≤ 32767) (hh : -32768 ≤ h ∧ h ≤ 32767) (w : World)
    (hL : ∀ w, Calls Try.prog 16 #[.agg #[.int .i32 q0, .int .i32 q1, .int .i32 q2, .int .i32 q3, .int .i32 q4, .int .i32 q5, .int .i32 q6, .int .i32 q7]] w fun e w' => e = .returned (.tuple #[s.v, t.v]) ∧ Since w w') :
    Calls Try.prog 5 #[.agg #[.int .i32 q0, .int .i32 q1, .int .i32 q2, .int .i32 q3, .int .i32 q4, .int .i32 q5, .int .i32 q6, .int .i32 q7], .agg #[.int .i16 g, .int .i16 h]] w fun e w' => e = .returned (.bool true) ∧ Since w w' := by
  have s1 := hs _ (.inl rfl); have s2 := hs _ (.inr (.inl rfl)); have s3 := hs _ (.inr (.inr (.inl rfl))); have s4 := hs _ (.inr (.inr (.inr rfl)))
  have t1 := ht _ (.inl rfl); have t2 := ht _ (.inr (.inl rfl)); have t3 := ht _ (.inr (.inr (.inl rfl))); have t4 := ht _ (.inr (.inr (.inr rfl)))
  have hm : -8192 ≤ g / 4 ∧ g / 4 ≤ 8191 := by omega
  have hn : -8192 ≤ h / 4 ∧ h / 4 ≤ 8191 := by omega
  generalize hgm : g / 4 = m at *
  generalize hhn : h / 4 = n at *
  have g1 : lnG s = true := by unfold lnG; rw [goodB_iff.2 (by omega), goodB_iff.2 (by omega)]; rfl
  have g2 : lnG t = true := by unfold lnG; rw [goodB_iff.2 (by omega), goodB_iff.2 (by omega)]; rfl
  have g3 : lnG (mvL s (64 * m) (64 * n)) = true := by unfold lnG mvL; simp only; rw [goodB_iff.2 (by omega), goodB_iff.2 (by omega)]; rfl
  have g4 : lnG (mvL t (64 * m) (64 * n)) = true := by unfold lnG mvL; simp only; rw [goodB_iff.2 (by omega), goodB_iff.2 (by omega)]; rfl
  have hM := fun w => meet_ok s t g1 g2 w
  have hM2 := fun w => meet_ok _ _ g3 g4 w
  have hP := fun w => pixel_ok s t g1 g2 w
  have hP2 := fun w => pixel_ok _ _ g3 g4 w
  have hk1 := meetG_in s t
  have hmv := meetG_mv s t (64 * m) (64 * n) g1 g3 g2 g4
  rw [hmv] at hM2 hP2
  have hpx : ((meetG s t).k == 1) = true → pixX (mvP (meetG s t) (64 * m) (64 * n)) = pixX (meetG s t) + m ∧ pixY (mvP (meetG s t) (64 * m) (64 * n)) = pixY (meetG s t) + n := fun hk => by
    have hk : (meetG s t).k = 1 := by simpa using hk
    have hd := (hk1 hk).1
    unfold pixX pixY mvP
    simp only [hk, if_true]
    exact ⟨midI_mv _ _ _ hd, midI_mv _ _ _ hd⟩
  have hr : ((meetG s t).k == 1) = true → (-131073 ≤ pixX (meetG s t) ∧ pixX (meetG s t) ≤ 131073) ∧ (-131073 ≤ pixY (meetG s t) ∧ pixY (meetG s t) ≤ 131073) := fun hk => by
    have hk : (meetG s t).k = 1 := by simpa using hk
    have h := meet_sh s t g1 g2 hk
    unfold pixX pixY
    simp only [hk, if_true]
    exact ⟨mid_in h.1, mid_in h.2⟩
  have ek : (mvP (meetG s t) (64 * m) (64 * n)).k = (meetG s t).k := rfl
  rw [ek] at hP2
  refine crossmoves_of q0 q1 q2 q3 q4 q5 q6 q7 g h s.ax s.ay s.bx s.bz t.ax t.ay t.bx t.bz (s.ax + 64 * m) (s.ay + 64 * n) (s.bx + 64 * m) (s.bz + 64 * n) (t.ax + 64 * m) (t.ay + 64 * n) (t.bx + 64 * m) (t.bz + 64 * n)
    (meetG s t).k (meetG s t).x (meetG s t).y (meetG s t).d (mvP (meetG s t) (64 * m) (64 * n)).x (mvP (meetG s t) (64 * m) (64 * n)).y (mvP (meetG s t) (64 * m) (64 * n)).d _ _ (pixX (mvP (meetG s t) (64 * m) (64 * n))) (pixY (mvP (meetG s t) (64 * m) (64 * n))) m n ((meetG s t).k == 1) w hg hh hgm hhn hL hM
    (fun w => rf_more _ _ _ _ (by omega) (by omega) (by omega) (by omega) w) (fun w => rf_more _ _ _ _ (by omega) (by omega) (by omega) (by omega) w) (fun w => rf_more _ _ _ _ (by omega) (by omega) (by omega) (by omega) w) (fun w => rf_more _ _ _ _ (by omega) (by omega) (by omega) (by omega) w) hM2 hP hP2 (fun hk w => ?_)
  obtain ⟨e1, e2⟩ := hpx hk
  obtain ⟨b1, b2⟩ := hr hk
  rw [e1, e2]
  exact rf_more _ _ _ _ (by omega) (by omega) (by omega) (by omega) w
theorem walk_crossmoves (q0 q1 q2 q3 q4 q5 q6 q7 g h : Int) (h0 : In32 q0) (h1 : In32 q1) (h2 : In32 q2) (h3 : In32 q3) (h4 : In32 q4) (h5 : In32 q5) (h6 : In32 q6) (h7 : In32 q7) (hg : -32768 ≤ g ∧ g ≤ 32767) (hh : -32768 ≤ h ∧ h ≤ 32767) (w : World) :
    Calls Try.prog 5 #[.agg #[.int .i32 q0, .int .i32 q1, .int .i32 q2, .int .i32 q3, .int .i32 q4, .int .i32 q5, .int .i32 q6, .int .i32 q7], .agg #[.int .i16 g, .int .i16 h]] w fun e w' => e = .returned (.bool true) ∧ Since w w' :=
  crossmoves_ln ⟨sm q0, sm q1, sm q2, sm q3⟩ ⟨sm q4, sm q5, sm q6, sm q7⟩ (fun x hx => by rcases hx with rfl | rfl | rfl | rfl; exact sm_range h0; exact sm_range h1; exact sm_range h2; exact sm_range h3) (fun x hx => by rcases hx with rfl | rfl | rfl | rfl; exact sm_range h4; exact sm_range h5; exact sm_range h6; exact sm_range h7) q0 q1 q2 q3 q4 q5 q6 q7 g h hg hh w (fun w => law_lines q0 q1 q2 q3 q4 q5 q6 q7 h0 h1 h2 h3 h4 h5 h6 h7 w)
end Go.Proofs.Ytmimdicflmgchaa
