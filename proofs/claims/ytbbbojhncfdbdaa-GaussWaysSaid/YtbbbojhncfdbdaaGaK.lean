/-
  Layer 10: the law GaussTurns, walked.
-/
import Derived.Test.YtbbbojhncfdbdaaGaI
namespace Go.Proofs.Ytbbbojhncfdbdaa
open Go.RowKit
set_option linter.unusedVariables false

/-- A block holds three points. -/
def SixAt (w : World) (b : Nat) (x y u v p q : Int) : Prop := w.cell? ⟨b, 0, none⟩ = some (.int .i64 x) ∧ w.cell? ⟨b, 1, none⟩ = some (.int .i64 y) ∧ w.cell? ⟨b, 2, none⟩ = some (.int .i64 u) ∧ w.cell? ⟨b, 3, none⟩ = some (.int .i64 v) ∧ w.cell? ⟨b, 4, none⟩ = some (.int .i64 p) ∧ w.cell? ⟨b, 5, none⟩ = some (.int .i64 q) ∧ b < w.heap.size
section
variable {w w' : World} {b : Nat} {x y u v p q : Int}
theorem six_mk (h1 : w.cell? ⟨b, 0, none⟩ = some (.int .i64 x)) (h2 : w.cell? ⟨b, 1, none⟩ = some (.int .i64 y)) (h3 : w.cell? ⟨b, 2, none⟩ = some (.int .i64 u)) (h4 : w.cell? ⟨b, 3, none⟩ = some (.int .i64 v)) (h5 : w.cell? ⟨b, 4, none⟩ = some (.int .i64 p)) (h6 : w.cell? ⟨b, 5, none⟩ = some (.int .i64 q)) (h7 : b < w.heap.size) : SixAt w b x y u v p q := ⟨h1, h2, h3, h4, h5, h6, h7⟩
theorem SixAt.since (h : SixAt w b x y u v p q) (k : Since w w') : SixAt w' b x y u v p q := by
  obtain ⟨h1, h2, h3, h4, h5, h6, h7⟩ := h
  exact ⟨(k.1 _ _ h7).trans h1, (k.1 _ _ h7).trans h2, (k.1 _ _ h7).trans h3, (k.1 _ _ h7).trans h4, (k.1 _ _ h7).trans h5, (k.1 _ _ h7).trans h6, k.2.2.1 _ h7⟩
theorem SixAt.alloc (h : SixAt w b x y u v p q) (o : Obj) : SixAt (w.alloc o) b x y u v p q := h.since ((Since.refl w).alloc o)
theorem six_new (w : World) (x y u v p q : Int) (t : TypeId) : SixAt (w.alloc (.cells #[.int .i64 x, .int .i64 y, .int .i64 u, .int .i64 v, .int .i64 p, .int .i64 q] t)) w.heap.size x y u v p q := by
  refine ⟨?_, ?_, ?_, ?_, ?_, ?_, by simp⟩ <;> (rw [World.cell?_alloc_new]; rfl)
theorem SixAt.rdp (h : SixAt w b x y u v p q) : RdP w w.heap.size (some ⟨b, 0, none⟩) 3 (three x u p) (three y v q) := fun _ => by
  obtain ⟨h1, h2, h3, h4, h5, h6, h7⟩ := h
  refine ⟨b, 0, rfl, h7, fun j hj => ?_⟩
  have hh : j = 0 ∨ j = 1 ∨ j = 2 := by omega
  rcases hh with rfl | rfl | rfl
  · exact ⟨h1, h2⟩
  · exact ⟨h3, h4⟩
  · exact ⟨h5, h6⟩
end
theorem rf_all3 (b : Nat) (x y u v p q : Int) (w : World) (h : SixAt w b x y u v p q) : Calls Try.prog 26 #[.slice (some ⟨b, 0, none⟩) 3 3] w fun e w' => e = .returned (.bool (goodB x y && goodB u v && goodB p q)) ∧ Since w w' := by
  have h := rf_all _ 3 3 _ _ w h.rdp (by decide)
  simpa [allG, three] using h


set_option maxRecDepth 100000 in
set_option maxHeartbeats 8000000 in
theorem turns_no (x y u v p q n : Int) (h : InP x y) (h' : InP u v) (h'' : InP p q) (hn : In64 n) (hg : goodB x y = false) (hr : (goodB u v && goodB p q) = true) (w : World) :
    Calls Try.prog 4 #[.agg #[.int .i64 x, .int .i64 y, .int .i64 u, .int .i64 v, .int .i64 p, .int .i64 q], .int .i64 n] w fun e w' => e = .returned (.bool true) ∧ Since w w' := by
  have cT := fun w => ga_turn x y u v p q h h' h'' w
  have cQ := fun w => ga_quarter x y n h w
  have cG := fun w => rf_good x y w
  have cA := fun b w hs => rf_all3 b x y u v p q w hs
  rw [Bool.and_assoc, hg, hr] at cT
  simp only [Bool.and_assoc] at cA
  rw [hg, hr] at cA
  rw [hg] at cQ cG
  simp only [Bool.false_and, Bool.false_eq_true, if_false, okE] at cT cQ cA
  generalize turnI x y u v p q = T at *
  generalize (resQ x y n).1 = qx at *
  generalize (resQ x y n).2 = qy at *
  unfold Pt at *
  have CT := Lib.hid cT; have CQ := Lib.hid cQ; have CG := Lib.hid cG; have CA := Lib.hid cA
  clear cT cQ cG cA h h' h'' hg hr
  go_enter Try.func4, Try.ntmps4
  go_wp2_with (first | (go_at_call 15; (with_reducible refine (alive10 _).mono ?_); rintro e w1 ⟨rfl, hS1⟩; have hX1 := (six_new w x y u v p q _).since hS1; have hT1 : Since w w1 := (by (repeat (first | with_reducible (exact Since.refl _) | with_reducible assumption | with_reducible (refine Since.drew ?_) | with_reducible (refine Since.drewN ?_ _) | with_reducible (refine Since.alloc ?_ _) | (with_reducible (refine Since.setCell ?_ ?_ _); rotate_left; focus (first | (simp; done) | (simp; omega) | omega)) | (with_reducible (refine Since.trans ?_ (by with_reducible assumption)))))); clear hS1; obtain ⟨s1, s2, s3, s4, s5, s6, s7⟩ := hX1) | (go_at_call 23; (with_reducible refine (CT.out _).mono ?_); rintro e w2 ⟨rfl, hS2⟩; have hX2 := SixAt.since ⟨s1, s2, s3, s4, s5, s6, s7⟩ hS2; have hT2 := hT1.trans hS2; clear hS2 hT1; clear s1 s2 s3 s4 s5 s6 s7; obtain ⟨s1, s2, s3, s4, s5, s6, s7⟩ := hX2) | (go_at_call 24; (with_reducible refine (CQ.out _).mono ?_); rintro e w3 ⟨rfl, hS3⟩; have hX3 := (SixAt.since ⟨s1, s2, s3, s4, s5, s6, s7⟩ hS3).alloc (.cells #[.int .i64 (0), .int .i64 (0)] 23); have hP3 := pt_new w3 _ rfl (0) (0) 23; have hT3 := (hT2.trans hS3).alloc (.cells #[.int .i64 (0), .int .i64 (0)] 23); clear hS3 hT2; clear s1 s2 s3 s4 s5 s6 s7; obtain ⟨s1, s2, s3, s4, s5, s6, s7⟩ := hX3) | (go_at_call 16; (with_reducible refine (CG.out _).mono ?_); rintro e w4 ⟨rfl, hS4⟩; have hX4 := SixAt.since ⟨s1, s2, s3, s4, s5, s6, s7⟩ hS4; have hP4 := hP3.since hS4; have hT4 := hT3.trans hS4; clear hS4 hT3 hP3; clear s1 s2 s3 s4 s5 s6 s7; obtain ⟨s1, s2, s3, s4, s5, s6, s7⟩ := hX4; obtain ⟨p1, p2, p3⟩ := hP4; have tok4 := True.intro) | (go_at_call 26; (with_reducible refine (CA.out _ _ (six_mk s1 s2 s3 s4 s5 s6 s7)).mono ?_); rintro e w5 ⟨rfl, hS5⟩; have hX5 := SixAt.since ⟨s1, s2, s3, s4, s5, s6, s7⟩ hS5; have hT5 := hT4.trans hS5; clear hS5 p1 p2 p3; clear s1 s2 s3 s4 s5 s6 s7; obtain ⟨s1, s2, s3, s4, s5, s6, s7⟩ := hX5))
  go_ret
  exact ⟨rfl, hT5⟩

set_option maxRecDepth 100000 in
set_option maxHeartbeats 8000000 in
theorem turns_no2 (x y u v p q n : Int) (h : InP x y) (h' : InP u v) (h'' : InP p q) (hn : In64 n) (hg : goodB x y = false) (hr : (goodB u v && goodB p q) = false) (w : World) :
    Calls Try.prog 4 #[.agg #[.int .i64 x, .int .i64 y, .int .i64 u, .int .i64 v, .int .i64 p, .int .i64 q], .int .i64 n] w fun e w' => e = .returned (.bool true) ∧ Since w w' := by
  have cT := fun w => ga_turn x y u v p q h h' h'' w
  have cQ := fun w => ga_quarter x y n h w
  have cG := fun w => rf_good x y w
  have cA := fun b w hs => rf_all3 b x y u v p q w hs
  rw [Bool.and_assoc, hg, hr] at cT
  simp only [Bool.and_assoc] at cA
  rw [hg, hr] at cA
  rw [hg] at cQ cG
  simp only [Bool.and_self, Bool.false_eq_true, if_false, okE] at cT cQ cA
  generalize turnI x y u v p q = T at *
  generalize (resQ x y n).1 = qx at *
  generalize (resQ x y n).2 = qy at *
  unfold Pt at *
  have CT := Lib.hid cT; have CQ := Lib.hid cQ; have CG := Lib.hid cG; have CA := Lib.hid cA
  clear cT cQ cG cA h h' h'' hg hr
  go_enter Try.func4, Try.ntmps4
  go_wp2_with (first | (go_at_call 15; (with_reducible refine (alive10 _).mono ?_); rintro e w1 ⟨rfl, hS1⟩; have hX1 := (six_new w x y u v p q _).since hS1; have hT1 : Since w w1 := (by (repeat (first | with_reducible (exact Since.refl _) | with_reducible assumption | with_reducible (refine Since.drew ?_) | with_reducible (refine Since.drewN ?_ _) | with_reducible (refine Since.alloc ?_ _) | (with_reducible (refine Since.setCell ?_ ?_ _); rotate_left; focus (first | (simp; done) | (simp; omega) | omega)) | (with_reducible (refine Since.trans ?_ (by with_reducible assumption)))))); clear hS1; obtain ⟨s1, s2, s3, s4, s5, s6, s7⟩ := hX1) | (go_at_call 23; (with_reducible refine (CT.out _).mono ?_); rintro e w2 ⟨rfl, hS2⟩; have hX2 := SixAt.since ⟨s1, s2, s3, s4, s5, s6, s7⟩ hS2; have hT2 := hT1.trans hS2; clear hS2 hT1; clear s1 s2 s3 s4 s5 s6 s7; obtain ⟨s1, s2, s3, s4, s5, s6, s7⟩ := hX2) | (go_at_call 24; (with_reducible refine (CQ.out _).mono ?_); rintro e w3 ⟨rfl, hS3⟩; have hX3 := (SixAt.since ⟨s1, s2, s3, s4, s5, s6, s7⟩ hS3).alloc (.cells #[.int .i64 (0), .int .i64 (0)] 23); have hP3 := pt_new w3 _ rfl (0) (0) 23; have hT3 := (hT2.trans hS3).alloc (.cells #[.int .i64 (0), .int .i64 (0)] 23); clear hS3 hT2; clear s1 s2 s3 s4 s5 s6 s7; obtain ⟨s1, s2, s3, s4, s5, s6, s7⟩ := hX3) | (go_at_call 16; (with_reducible refine (CG.out _).mono ?_); rintro e w4 ⟨rfl, hS4⟩; have hX4 := SixAt.since ⟨s1, s2, s3, s4, s5, s6, s7⟩ hS4; have hP4 := hP3.since hS4; have hT4 := hT3.trans hS4; clear hS4 hT3 hP3; clear s1 s2 s3 s4 s5 s6 s7; obtain ⟨s1, s2, s3, s4, s5, s6, s7⟩ := hX4; obtain ⟨p1, p2, p3⟩ := hP4; have tok4 := True.intro) | (go_at_call 26; (with_reducible refine (CA.out _ _ (six_mk s1 s2 s3 s4 s5 s6 s7)).mono ?_); rintro e w5 ⟨rfl, hS5⟩; have hX5 := SixAt.since ⟨s1, s2, s3, s4, s5, s6, s7⟩ hS5; have hT5 := hT4.trans hS5; clear hS5 p1 p2 p3; clear s1 s2 s3 s4 s5 s6 s7; obtain ⟨s1, s2, s3, s4, s5, s6, s7⟩ := hX5))
  go_ret
  exact ⟨rfl, hT5⟩

set_option maxRecDepth 100000 in
set_option maxHeartbeats 8000000 in
theorem turns_mid (x y u v p q n : Int) (h : InP x y) (h' : InP u v) (h'' : InP p q) (hn : In64 n) (hg : goodB x y = true) (hr : (goodB u v && goodB p q) = false) (w : World) :
    Calls Try.prog 4 #[.agg #[.int .i64 x, .int .i64 y, .int .i64 u, .int .i64 v, .int .i64 p, .int .i64 q], .int .i64 n] w fun e w' => e = .returned (.bool true) ∧ Since w w' := by
  have cT := fun w => ga_turn x y u v p q h h' h'' w
  have cQ := fun w => ga_quarter x y n h w
  have cG := fun w => rf_good x y w
  have cA := fun b w hs => rf_all3 b x y u v p q w hs
  obtain ⟨t1, t2⟩ := tiny_of hg
  have cR := fun w => rf_quarter x y n t1 t2 hn w
  rw [Bool.and_assoc, hg, hr] at cT
  simp only [Bool.and_assoc] at cA
  rw [hg, hr] at cA
  rw [hg] at cQ cG
  simp only [Bool.and_false, Bool.false_eq_true, if_false, if_true, okE] at cT cQ cA
  generalize turnI x y u v p q = T at *
  generalize (resQ x y n).1 = qx at *
  generalize (resQ x y n).2 = qy at *
  unfold Pt at *
  have CT := Lib.hid cT; have CQ := Lib.hid cQ; have CG := Lib.hid cG; have CA := Lib.hid cA
  clear cT cQ cG cA h h' h'' hg hr
  have CR := Lib.hid cR
  clear cR t1 t2
  go_enter Try.func4, Try.ntmps4
  go_wp2_with (first | (go_at_call 15; (with_reducible refine (alive10 _).mono ?_); rintro e w1 ⟨rfl, hS1⟩; have hX1 := (six_new w x y u v p q _).since hS1; have hT1 : Since w w1 := (by (repeat (first | with_reducible (exact Since.refl _) | with_reducible assumption | with_reducible (refine Since.drew ?_) | with_reducible (refine Since.drewN ?_ _) | with_reducible (refine Since.alloc ?_ _) | (with_reducible (refine Since.setCell ?_ ?_ _); rotate_left; focus (first | (simp; done) | (simp; omega) | omega)) | (with_reducible (refine Since.trans ?_ (by with_reducible assumption)))))); clear hS1; obtain ⟨s1, s2, s3, s4, s5, s6, s7⟩ := hX1) | (go_at_call 23; (with_reducible refine (CT.out _).mono ?_); rintro e w2 ⟨rfl, hS2⟩; have hX2 := SixAt.since ⟨s1, s2, s3, s4, s5, s6, s7⟩ hS2; have hT2 := hT1.trans hS2; clear hS2 hT1; clear s1 s2 s3 s4 s5 s6 s7; obtain ⟨s1, s2, s3, s4, s5, s6, s7⟩ := hX2) | (go_at_call 24; (with_reducible refine (CQ.out _).mono ?_); rintro e w3 ⟨rfl, hS3⟩; have hX3 := (SixAt.since ⟨s1, s2, s3, s4, s5, s6, s7⟩ hS3).alloc (.cells #[.int .i64 (qx), .int .i64 (qy)] 23); have hP3 := pt_new w3 _ rfl (qx) (qy) 23; have hT3 := (hT2.trans hS3).alloc (.cells #[.int .i64 (qx), .int .i64 (qy)] 23); clear hS3 hT2; clear s1 s2 s3 s4 s5 s6 s7; obtain ⟨s1, s2, s3, s4, s5, s6, s7⟩ := hX3) | (go_at_call 16; (with_reducible refine (CG.out _).mono ?_); rintro e w4 ⟨rfl, hS4⟩; have hX4 := SixAt.since ⟨s1, s2, s3, s4, s5, s6, s7⟩ hS4; have hP4 := hP3.since hS4; have hT4 := hT3.trans hS4; clear hS4 hT3 hP3; clear s1 s2 s3 s4 s5 s6 s7; obtain ⟨s1, s2, s3, s4, s5, s6, s7⟩ := hX4; obtain ⟨p1, p2, p3⟩ := hP4; have tok4 := True.intro))
  (refine wp_named fun wr1 hwr1 => ?_; go_region_held3 (fun w' => (∀ b o, b < wr1.heap.size → w'.cell? ⟨b, o, none⟩ = wr1.cell? ⟨b, o, none⟩) ∧ (∀ b o, b < wr1.heap.size → w'.frozen? ⟨b, o, none⟩ = wr1.frozen? ⟨b, o, none⟩) ∧ (∀ k, k < wr1.heap.size → k < w'.heap.size) ∧ Below wr1.heap.size wr1 w') ((subst hwr1; (repeat (with_reducible (refine since_put ?_ ?_ _); rotate_left; focus (first | (simp; done) | (simp; omega) | omega))); first | assumption | (refine since_step (by assumption) ?_; first | assumption | ((repeat (first | with_reducible (exact Since.refl _) | with_reducible assumption | with_reducible (refine Since.drew ?_) | with_reducible (refine Since.drewN ?_ _) | with_reducible (refine Since.alloc ?_ _) | (with_reducible (refine Since.setCell ?_ ?_ _); rotate_left; focus (first | (simp; done) | (simp; omega) | omega)))); done)) | (refine since_step (Since.refl _) ?_; first | assumption | ((repeat (first | with_reducible (exact Since.refl _) | with_reducible assumption | with_reducible (refine Since.drew ?_) | with_reducible (refine Since.drewN ?_ _) | with_reducible (refine Since.alloc ?_ _) | (with_reducible (refine Since.setCell ?_ ?_ _); rotate_left; focus (first | (simp; done) | (simp; omega) | omega)) | (with_reducible (refine Since.trans ?_ (by with_reducible assumption))))); done)))) ((go_at_call 25; (with_reducible refine (CR.out _).mono ?_); rintro e w1 ⟨rfl, hS⟩; have hZ := hS.below.size; (try simp at hZ))); all_goals (rename_i hHeld; have hR1 : Since wr1 _ := hHeld; obtain ⟨hcR1, hfR1, hzR1, hbR1⟩ := hHeld; subst hwr1))
  obtain ⟨s1, s2, s3, s4, s5, s6, s7⟩ := SixAt.since ⟨s1, s2, s3, s4, s5, s6, s7⟩ hR1
  go_wp2_with (go_at_call 26; (with_reducible refine (CA.out _ _ (six_mk s1 s2 s3 s4 s5 s6 s7)).mono ?_); rintro e w5 ⟨rfl, hS5⟩; have hX5 := SixAt.since ⟨s1, s2, s3, s4, s5, s6, s7⟩ hS5; have hT5 : Since w w5 := (by (repeat (first | with_reducible (exact Since.refl _) | with_reducible assumption | with_reducible (refine Since.drew ?_) | with_reducible (refine Since.drewN ?_ _) | with_reducible (refine Since.alloc ?_ _) | (with_reducible (refine Since.setCell ?_ ?_ _); rotate_left; focus (first | (simp; done) | (simp; omega) | omega)) | (with_reducible (refine Since.trans ?_ (by with_reducible assumption)))))); clear s1 s2 s3 s4 s5 s6 s7; obtain ⟨s1, s2, s3, s4, s5, s6, s7⟩ := hX5)
  go_ret
  exact ⟨rfl, hT5⟩

set_option maxRecDepth 100000 in
set_option maxHeartbeats 8000000 in
theorem turns_yes (x y u v p q n : Int) (h : InP x y) (h' : InP u v) (h'' : InP p q) (hn : In64 n) (hg : goodB x y = true) (hr : (goodB u v && goodB p q) = true) (w : World) :
    Calls Try.prog 4 #[.agg #[.int .i64 x, .int .i64 y, .int .i64 u, .int .i64 v, .int .i64 p, .int .i64 q], .int .i64 n] w fun e w' => e = .returned (.bool true) ∧ Since w w' := by
  have cT := fun w => ga_turn x y u v p q h h' h'' w
  have cQ := fun w => ga_quarter x y n h w
  have cG := fun w => rf_good x y w
  have cA := fun b w hs => rf_all3 b x y u v p q w hs
  obtain ⟨t1, t2⟩ := tiny_of hg
  have cR := fun w => rf_quarter x y n t1 t2 hn w
  obtain ⟨hr1, hr2⟩ := Bool.and_eq_true_iff.1 hr
  obtain ⟨t3, t4⟩ := tiny_of hr1
  obtain ⟨t5, t6⟩ := tiny_of hr2
  have cU := fun w => rf_turn x y u v p q t1 t2 t3 t4 t5 t6 w
  rw [Bool.and_assoc, hg, hr] at cT
  simp only [Bool.and_assoc] at cA
  rw [hg, hr] at cA
  rw [hg] at cQ cG
  simp only [Bool.and_self, if_true, okE] at cT cQ cA
  generalize turnI x y u v p q = T at *
  generalize (resQ x y n).1 = qx at *
  generalize (resQ x y n).2 = qy at *
  unfold Pt at *
  have CT := Lib.hid cT; have CQ := Lib.hid cQ; have CG := Lib.hid cG; have CA := Lib.hid cA
  clear cT cQ cG cA h h' h'' hg hr
  have CR := Lib.hid cR
  clear cR t1 t2
  have CU := Lib.hid cU
  clear cU t3 t4 t5 t6 hr1 hr2
  go_enter Try.func4, Try.ntmps4
  go_wp2_with (first | (go_at_call 15; (with_reducible refine (alive10 _).mono ?_); rintro e w1 ⟨rfl, hS1⟩; have hX1 := (six_new w x y u v p q _).since hS1; have hT1 : Since w w1 := (by (repeat (first | with_reducible (exact Since.refl _) | with_reducible assumption | with_reducible (refine Since.drew ?_) | with_reducible (refine Since.drewN ?_ _) | with_reducible (refine Since.alloc ?_ _) | (with_reducible (refine Since.setCell ?_ ?_ _); rotate_left; focus (first | (simp; done) | (simp; omega) | omega)) | (with_reducible (refine Since.trans ?_ (by with_reducible assumption)))))); clear hS1; obtain ⟨s1, s2, s3, s4, s5, s6, s7⟩ := hX1) | (go_at_call 23; (with_reducible refine (CT.out _).mono ?_); rintro e w2 ⟨rfl, hS2⟩; have hX2 := SixAt.since ⟨s1, s2, s3, s4, s5, s6, s7⟩ hS2; have hT2 := hT1.trans hS2; clear hS2 hT1; clear s1 s2 s3 s4 s5 s6 s7; obtain ⟨s1, s2, s3, s4, s5, s6, s7⟩ := hX2) | (go_at_call 24; (with_reducible refine (CQ.out _).mono ?_); rintro e w3 ⟨rfl, hS3⟩; have hX3 := (SixAt.since ⟨s1, s2, s3, s4, s5, s6, s7⟩ hS3).alloc (.cells #[.int .i64 (qx), .int .i64 (qy)] 23); have hP3 := pt_new w3 _ rfl (qx) (qy) 23; have hT3 := (hT2.trans hS3).alloc (.cells #[.int .i64 (qx), .int .i64 (qy)] 23); clear hS3 hT2; clear s1 s2 s3 s4 s5 s6 s7; obtain ⟨s1, s2, s3, s4, s5, s6, s7⟩ := hX3) | (go_at_call 16; (with_reducible refine (CG.out _).mono ?_); rintro e w4 ⟨rfl, hS4⟩; have hX4 := SixAt.since ⟨s1, s2, s3, s4, s5, s6, s7⟩ hS4; have hP4 := hP3.since hS4; have hT4 := hT3.trans hS4; clear hS4 hT3 hP3; clear s1 s2 s3 s4 s5 s6 s7; obtain ⟨s1, s2, s3, s4, s5, s6, s7⟩ := hX4; obtain ⟨p1, p2, p3⟩ := hP4; have tok4 := True.intro))
  (refine wp_named fun wr1 hwr1 => ?_; go_region_held3 (fun w' => (∀ b o, b < wr1.heap.size → w'.cell? ⟨b, o, none⟩ = wr1.cell? ⟨b, o, none⟩) ∧ (∀ b o, b < wr1.heap.size → w'.frozen? ⟨b, o, none⟩ = wr1.frozen? ⟨b, o, none⟩) ∧ (∀ k, k < wr1.heap.size → k < w'.heap.size) ∧ Below wr1.heap.size wr1 w') ((subst hwr1; (repeat (with_reducible (refine since_put ?_ ?_ _); rotate_left; focus (first | (simp; done) | (simp; omega) | omega))); first | assumption | (refine since_step (by assumption) ?_; first | assumption | ((repeat (first | with_reducible (exact Since.refl _) | with_reducible assumption | with_reducible (refine Since.drew ?_) | with_reducible (refine Since.drewN ?_ _) | with_reducible (refine Since.alloc ?_ _) | (with_reducible (refine Since.setCell ?_ ?_ _); rotate_left; focus (first | (simp; done) | (simp; omega) | omega)))); done)) | (refine since_step (Since.refl _) ?_; first | assumption | ((repeat (first | with_reducible (exact Since.refl _) | with_reducible assumption | with_reducible (refine Since.drew ?_) | with_reducible (refine Since.drewN ?_ _) | with_reducible (refine Since.alloc ?_ _) | (with_reducible (refine Since.setCell ?_ ?_ _); rotate_left; focus (first | (simp; done) | (simp; omega) | omega)) | (with_reducible (refine Since.trans ?_ (by with_reducible assumption))))); done)))) ((go_at_call 25; (with_reducible refine (CR.out _).mono ?_); rintro e w1 ⟨rfl, hS⟩; have hZ := hS.below.size; (try simp at hZ))); all_goals (rename_i hHeld; have hR1 : Since wr1 _ := hHeld; obtain ⟨hcR1, hfR1, hzR1, hbR1⟩ := hHeld; subst hwr1))
  obtain ⟨s1, s2, s3, s4, s5, s6, s7⟩ := SixAt.since ⟨s1, s2, s3, s4, s5, s6, s7⟩ hR1
  go_wp2_with (first | (go_at_call 26; (with_reducible refine (CA.out _ _ (six_mk s1 s2 s3 s4 s5 s6 s7)).mono ?_); rintro e w5 ⟨rfl, hS5⟩; have hX5 := SixAt.since ⟨s1, s2, s3, s4, s5, s6, s7⟩ hS5; have hT5 : Since w w5 := (by (repeat (first | with_reducible (exact Since.refl _) | with_reducible assumption | with_reducible (refine Since.drew ?_) | with_reducible (refine Since.drewN ?_ _) | with_reducible (refine Since.alloc ?_ _) | (with_reducible (refine Since.setCell ?_ ?_ _); rotate_left; focus (first | (simp; done) | (simp; omega) | omega)) | (with_reducible (refine Since.trans ?_ (by with_reducible assumption)))))); clear s1 s2 s3 s4 s5 s6 s7; obtain ⟨s1, s2, s3, s4, s5, s6, s7⟩ := hX5) | (go_at_call 27; (with_reducible refine (CU.out _).mono ?_); rintro e w6 ⟨rfl, hS6⟩; have hT6 := hT5.trans hS6))
  go_ret
  exact ⟨by first | rfl | simp, hT6⟩

theorem walk_turns (x y u v p q n : Int) (h : InP x y) (h' : InP u v) (h'' : InP p q) (hn : In64 n) (w : World) :
    Calls Try.prog 4 #[.agg #[.int .i64 x, .int .i64 y, .int .i64 u, .int .i64 v, .int .i64 p, .int .i64 q], .int .i64 n] w fun e w' => e = .returned (.bool true) ∧ Since w w' := by
  cases hg : goodB x y with
  | false =>
    cases hr : (goodB u v && goodB p q) with
    | false => exact turns_no2 x y u v p q n h h' h'' hn hg hr w
    | true => exact turns_no x y u v p q n h h' h'' hn hg hr w
  | true =>
    cases hr : (goodB u v && goodB p q) with
    | false => exact turns_mid x y u v p q n h h' h'' hn hg hr w
    | true => exact turns_yes x y u v p q n h h' h'' hn hg hr w
end Go.Proofs.Ytbbbojhncfdbdaa
