/-
  Layer 10: 'Cross', 'Dot', 'Times', walked.
-/
import Derived.Test.YtbbbojhncfdbdaaGaB
namespace Go.Proofs.Ytbbbojhncfdbdaa
open Go.RowKit
set_option linter.unusedVariables false

def two (a b : Int) (j : Nat) : Int := if j = 0 then a else b
def three (a b c : Int) (j : Nat) : Int := if j = 0 then a else if j = 1 then b else c
theorem rdp_one (w : World) (b : Nat) (hb : b = w.heap.size) (x y : Int) (t : TypeId) : RdP (w.alloc (.cells #[.int .i64 x, .int .i64 y] t)) (w.alloc (.cells #[.int .i64 x, .int .i64 y] t)).heap.size (some ⟨b, 0, none⟩) 1 (fun _ => x) (fun _ => y) := fun _ => by
  subst hb
  refine ⟨w.heap.size, 0, rfl, by simp, fun j hj => ?_⟩
  obtain rfl : j = 0 := by omega
  exact ⟨by rw [World.cell?_alloc_new]; rfl, by rw [World.cell?_alloc_new]; rfl⟩
theorem rdp_two (w : World) (b : Nat) (hb : b = w.heap.size) (x y u v : Int) (t : TypeId) : RdP (w.alloc (.cells #[.int .i64 x, .int .i64 y, .int .i64 u, .int .i64 v] t)) (w.alloc (.cells #[.int .i64 x, .int .i64 y, .int .i64 u, .int .i64 v] t)).heap.size (some ⟨b, 0, none⟩) 2 (two x u) (two y v) := fun _ => by
  subst hb
  refine ⟨w.heap.size, 0, rfl, by simp, fun j hj => ?_⟩
  have h : j = 0 ∨ j = 1 := by omega
  rcases h with rfl | rfl <;> exact ⟨by rw [World.cell?_alloc_new]; rfl, by rw [World.cell?_alloc_new]; rfl⟩
theorem rdp_three (w : World) (b : Nat) (hb : b = w.heap.size) (x y u v p q : Int) (t : TypeId) : RdP (w.alloc (.cells #[.int .i64 x, .int .i64 y, .int .i64 u, .int .i64 v, .int .i64 p, .int .i64 q] t)) (w.alloc (.cells #[.int .i64 x, .int .i64 y, .int .i64 u, .int .i64 v, .int .i64 p, .int .i64 q] t)).heap.size (some ⟨b, 0, none⟩) 3 (three x u p) (three y v q) := fun _ => by
  subst hb
  refine ⟨w.heap.size, 0, rfl, by simp, fun j hj => ?_⟩
  have h : j = 0 ∨ j = 1 ∨ j = 2 := by omega
  rcases h with rfl | rfl | rfl <;> exact ⟨by rw [World.cell?_alloc_new]; rfl, by rw [World.cell?_alloc_new]; rfl⟩
def InP (x y : Int) : Prop := In64 x ∧ In64 y
theorem good1 (w : World) (b : Nat) (hb : b = w.heap.size) (x y : Int) (t : TypeId) (h : InP x y) : Calls Try.prog 20 #[.slice (some ⟨b, 0, none⟩) 1 1] (w.alloc (.cells #[.int .i64 x, .int .i64 y] t)) fun e w' => e = .returned (.bool (goodB x y)) ∧ Since (w.alloc (.cells #[.int .i64 x, .int .i64 y] t)) w' := by
  have h := ga_good _ 1 1 _ _ _ (rdp_one w b hb x y t) (fun j hj => h) (by decide)
  simpa [allG] using h
theorem good2 (w : World) (b : Nat) (hb : b = w.heap.size) (x y u v : Int) (t : TypeId) (h : InP x y) (h' : InP u v) : Calls Try.prog 20 #[.slice (some ⟨b, 0, none⟩) 2 2] (w.alloc (.cells #[.int .i64 x, .int .i64 y, .int .i64 u, .int .i64 v] t)) fun e w' => e = .returned (.bool (goodB x y && goodB u v)) ∧ Since (w.alloc (.cells #[.int .i64 x, .int .i64 y, .int .i64 u, .int .i64 v] t)) w' := by
  have h := ga_good _ 2 2 _ _ _ (rdp_two w b hb x y u v t) (fun j hj => by unfold two; split; exact h; exact h') (by decide)
  simpa [allG, two] using h
theorem good3 (w : World) (b : Nat) (hb : b = w.heap.size) (x y u v p q : Int) (t : TypeId) (h : InP x y) (h' : InP u v) (h'' : InP p q) : Calls Try.prog 20 #[.slice (some ⟨b, 0, none⟩) 3 3] (w.alloc (.cells #[.int .i64 x, .int .i64 y, .int .i64 u, .int .i64 v, .int .i64 p, .int .i64 q] t)) fun e w' => e = .returned (.bool (goodB x y && goodB u v && goodB p q)) ∧ Since (w.alloc (.cells #[.int .i64 x, .int .i64 y, .int .i64 u, .int .i64 v, .int .i64 p, .int .i64 q] t)) w' := by
  have h := ga_good _ 3 3 _ _ _ (rdp_three w b hb x y u v p q t) (fun j hj => by unfold three; split; exact h; split; exact h'; exact h'') (by decide)
  simpa [allG, three] using h
theorem good_near {x y : Int} (h : goodB x y = true) : Near x ∧ Near y ∧ x.natAbs ≤ 9007199254740991 ∧ y.natAbs ≤ 9007199254740991 := by
  have := goodB_iff.1 h
  unfold Near
  omega

/-- A block holds a point. -/
def PtAt (w : World) (b : Nat) (x y : Int) : Prop := w.cell? ⟨b, 0, none⟩ = some (.int .i64 x) ∧ w.cell? ⟨b, 1, none⟩ = some (.int .i64 y) ∧ b < w.heap.size
theorem PtAt.since {w w' : World} {b : Nat} {x y : Int} (h : PtAt w b x y) (k : Since w w') : PtAt w' b x y := ⟨(k.1 _ _ h.2.2).trans h.1, (k.1 _ _ h.2.2).trans h.2.1, k.2.2.1 _ h.2.2⟩
theorem PtAt.alloc {w : World} {b : Nat} {x y : Int} (h : PtAt w b x y) (o : Obj) : PtAt (w.alloc o) b x y := h.since ((Since.refl w).alloc o)
theorem pt_new (w : World) (b : Nat) (hb : b = w.heap.size) (x y : Int) (t : TypeId) : PtAt (w.alloc (.cells #[.int .i64 x, .int .i64 y] t)) b x y := by
  subst hb
  exact ⟨by rw [World.cell?_alloc_new]; rfl, by rw [World.cell?_alloc_new]; rfl, by simp⟩
/-- A block holds nought, and may be written. -/
def Zero2 (w : World) (b : Nat) : Prop := PtAt w b 0 0 ∧ ∀ j, w.frozen? ⟨b, j, none⟩ = false
theorem zero2_new (w : World) (b : Nat) (hb : b = w.heap.size) (t : TypeId) : Zero2 (w.alloc (.cells #[.int .i64 0, .int .i64 0] t)) b := by
  refine ⟨pt_new w b hb 0 0 t, fun j => ?_⟩
  subst hb
  rw [frozen?_alloc_cells]
  simp [World.frozen?]
theorem Zero2.since {w w' : World} {b : Nat} (h : Zero2 w b) (k : Since w w') : Zero2 w' b := ⟨h.1.since k, fun j => (k.2.1 _ _ h.1.2.2).trans (h.2 j)⟩
theorem Zero2.alloc {w : World} {b : Nat} (h : Zero2 w b) (o : Obj) : Zero2 (w.alloc o) b := h.since ((Since.refl w).alloc o)
def crossI (x y u v : Int) : Int := x * v - y * u
def dotI (x y u v : Int) : Int := x * u + y * v
def okE (b : Bool) : Int := if b then 0 else 6
set_option maxHeartbeats 4000000 in
theorem ga_cross (x y u v : Int) (h : InP x y) (h' : InP u v) (w : World) :
    Calls Try.prog 17 #[Pt x y, Pt u v] w fun e w' => e = .returned (.tuple #[.int .i64 (if goodB x y && goodB u v then crossI x y u v else 0), .int .i64 (okE (goodB x y && goodB u v))]) ∧ Since w w' := by
  have hg := fun w b hb t => good2 w b hb x y u v t h h'
  by_cases hgg : (goodB x y && goodB u v) = true
  · obtain ⟨g1, g2⟩ := Bool.and_eq_true_iff.1 hgg
    obtain ⟨n1, n2, m1, m2⟩ := good_near g1
    obtain ⟨n3, n4, m3, m4⟩ := good_near g2
    have hI := inB_stands (fl_stands m1) (fl_stands m2) (fl_stands m3) (fl_stands m4) n1 n2 n3 n4
    have hin := fun w => ga_inner (fl x) (fl y) (fl u) (fl v) (fl_stands m1) (fl_stands m2) (fl_stands m3) (fl_stands m4) n1 n2 n3 n4 w
    have b1 := near_mul n1 n4; have b2 := near_mul n2 n3
    have hcv := toInt_run hI.2.2 (by omega)
    rw [hgg] at hg ⊢
    simp only [if_true, okE]
    unfold crossI
    generalize (inB (fl x) (fl y) (fl u) (fl v)).1 = z1 at *
    generalize (inB (fl x) (fl y) (fl u) (fl v)).2 = z2 at *
    generalize x * v - y * u = N at *
    clear hI hgg g1 g2 n1 n2 n3 n4 m1 m2 m3 m4 b1 b2 h h'
    unfold Pt
    have hnum := fun x y w => ga_number x y w
    unfold Pt at hnum
    have HG := Lib.hid hg; have HI := Lib.hid hin; have HN := Lib.hid hnum
    clear hg hin hnum
    go_enter Try.func17, Try.ntmps17
    go_wp2_with (go_at_call 20; (with_reducible refine (HG.out _ _ (by simp) _).mono ?_); rintro e w1 ⟨rfl, hS1⟩; have hP1 := (((pt_new w _ rfl x y _).alloc _).alloc _).since hS1; have hP2 := ((pt_new _ (w.heap.size + 1) (by simp) u v _).alloc _).since hS1; have hS : Since w w1 := by (repeat (first | with_reducible (exact Since.refl _) | with_reducible assumption | with_reducible (refine Since.drew ?_) | with_reducible (refine Since.drewN ?_ _) | with_reducible (refine Since.alloc ?_ _) | (with_reducible (refine Since.setCell ?_ ?_ _); rotate_left; focus (first | (simp; done) | (simp; omega) | omega)) | (with_reducible (refine Since.trans ?_ (by with_reducible assumption))))))
    obtain ⟨p1, p2, p3⟩ := hP1
    obtain ⟨p4, p5, p6⟩ := hP2
    clear hS1
    (refine wp_named fun wr1 hwr1 => ?_; go_region_held3 (fun w' => (∀ b o, b < wr1.heap.size → w'.cell? ⟨b, o, none⟩ = wr1.cell? ⟨b, o, none⟩) ∧ (∀ b o, b < wr1.heap.size → w'.frozen? ⟨b, o, none⟩ = wr1.frozen? ⟨b, o, none⟩) ∧ (∀ k, k < wr1.heap.size → k < w'.heap.size) ∧ Below wr1.heap.size wr1 w') ((subst hwr1; (repeat (with_reducible (refine since_put ?_ ?_ _); rotate_left; focus (first | (simp; done) | (simp; omega) | omega))); first | assumption | (refine since_step (by assumption) ?_; first | assumption | ((repeat (first | with_reducible (exact Since.refl _) | with_reducible assumption | with_reducible (refine Since.drew ?_) | with_reducible (refine Since.drewN ?_ _) | with_reducible (refine Since.alloc ?_ _) | (with_reducible (refine Since.setCell ?_ ?_ _); rotate_left; focus (first | (simp; done) | (simp; omega) | omega)))); done)) | (refine since_step (Since.refl _) ?_; first | assumption | ((repeat (first | with_reducible (exact Since.refl _) | with_reducible assumption | with_reducible (refine Since.drew ?_) | with_reducible (refine Since.drewN ?_ _) | with_reducible (refine Since.alloc ?_ _) | (with_reducible (refine Since.setCell ?_ ?_ _); rotate_left; focus (first | (simp; done) | (simp; omega) | omega)) | (with_reducible (refine Since.trans ?_ (by with_reducible assumption))))); done)))) (first | (go_at_call 49; refine (HN.out _ _ _).mono ?_; rintro e w1 ⟨rfl, hS⟩; have hZ := hS.below.size; (try simp at hZ)) | (go_at_call 48; refine (HI.out _).mono ?_; rintro e w1 ⟨rfl, hS⟩; have hZ := hS.below.size; (try simp at hZ))); all_goals (rename_i hHeld; have hR1 : Since wr1 _ := hHeld; obtain ⟨hcR1, hfR1, hzR1, hbR1⟩ := hHeld; subst hwr1))
    go_wp2
    go_ret2
    exact ⟨rfl, by (repeat (first | with_reducible (exact Since.refl _) | with_reducible assumption | with_reducible (refine Since.drew ?_) | with_reducible (refine Since.drewN ?_ _) | with_reducible (refine Since.alloc ?_ _) | (with_reducible (refine Since.setCell ?_ ?_ _); rotate_left; focus (first | (simp; done) | (simp; omega) | omega)) | (with_reducible (refine Since.trans ?_ (by with_reducible assumption)))))⟩
  · have hgf : (goodB x y && goodB u v) = false := by simpa using hgg
    rw [hgf] at hg ⊢
    have HG := Lib.hid hg
    clear hg hgg hgf
    simp only [okE]
    unfold Pt
    go_enter Try.func17, Try.ntmps17
    go_wp2_with (go_at_call 20; (with_reducible refine (HG.out _ _ (by simp) _).mono ?_); rintro e w1 ⟨rfl, hS1⟩)
    go_ret2
    exact ⟨rfl, by (repeat (first | with_reducible (exact Since.refl _) | with_reducible assumption | with_reducible (refine Since.drew ?_) | with_reducible (refine Since.drewN ?_ _) | with_reducible (refine Since.alloc ?_ _) | (with_reducible (refine Since.setCell ?_ ?_ _); rotate_left; focus (first | (simp; done) | (simp; omega) | omega)) | (with_reducible (refine Since.trans ?_ (by with_reducible assumption)))))⟩
set_option maxHeartbeats 4000000 in
theorem ga_dot (x y u v : Int) (h : InP x y) (h' : InP u v) (w : World) :
    Calls Try.prog 18 #[Pt x y, Pt u v] w fun e w' => e = .returned (.tuple #[.int .i64 (if goodB x y && goodB u v then dotI x y u v else 0), .int .i64 (okE (goodB x y && goodB u v))]) ∧ Since w w' := by
  have hg := fun w b hb t => good2 w b hb x y u v t h h'
  by_cases hgg : (goodB x y && goodB u v) = true
  · obtain ⟨g1, g2⟩ := Bool.and_eq_true_iff.1 hgg
    obtain ⟨n1, n2, m1, m2⟩ := good_near g1
    obtain ⟨n3, n4, m3, m4⟩ := good_near g2
    have hI := inB_stands (fl_stands m1) (fl_stands m2) (fl_stands m3) (fl_stands m4) n1 n2 n3 n4
    have hin := fun w => ga_inner (fl x) (fl y) (fl u) (fl v) (fl_stands m1) (fl_stands m2) (fl_stands m3) (fl_stands m4) n1 n2 n3 n4 w
    have b1 := near_mul n1 n3; have b2 := near_mul n2 n4
    have hcv := toInt_run hI.2.1 (by omega)
    rw [hgg] at hg ⊢
    simp only [if_true, okE]
    unfold dotI
    generalize (inB (fl x) (fl y) (fl u) (fl v)).1 = z1 at *
    generalize (inB (fl x) (fl y) (fl u) (fl v)).2 = z2 at *
    generalize x * u + y * v = N at *
    clear hI hgg g1 g2 n1 n2 n3 n4 m1 m2 m3 m4 b1 b2 h h'
    unfold Pt
    have hnum := fun x y w => ga_number x y w
    unfold Pt at hnum
    have HG := Lib.hid hg; have HI := Lib.hid hin; have HN := Lib.hid hnum
    clear hg hin hnum
    go_enter Try.func18, Try.ntmps18
    go_wp2_with (go_at_call 20; (with_reducible refine (HG.out _ _ (by simp) _).mono ?_); rintro e w1 ⟨rfl, hS1⟩; have hP1 := (((pt_new w _ rfl x y _).alloc _).alloc _).since hS1; have hP2 := ((pt_new _ (w.heap.size + 1) (by simp) u v _).alloc _).since hS1; have hS : Since w w1 := by (repeat (first | with_reducible (exact Since.refl _) | with_reducible assumption | with_reducible (refine Since.drew ?_) | with_reducible (refine Since.drewN ?_ _) | with_reducible (refine Since.alloc ?_ _) | (with_reducible (refine Since.setCell ?_ ?_ _); rotate_left; focus (first | (simp; done) | (simp; omega) | omega)) | (with_reducible (refine Since.trans ?_ (by with_reducible assumption))))))
    obtain ⟨p1, p2, p3⟩ := hP1
    obtain ⟨p4, p5, p6⟩ := hP2
    clear hS1
    (refine wp_named fun wr1 hwr1 => ?_; go_region_held3 (fun w' => (∀ b o, b < wr1.heap.size → w'.cell? ⟨b, o, none⟩ = wr1.cell? ⟨b, o, none⟩) ∧ (∀ b o, b < wr1.heap.size → w'.frozen? ⟨b, o, none⟩ = wr1.frozen? ⟨b, o, none⟩) ∧ (∀ k, k < wr1.heap.size → k < w'.heap.size) ∧ Below wr1.heap.size wr1 w') ((subst hwr1; (repeat (with_reducible (refine since_put ?_ ?_ _); rotate_left; focus (first | (simp; done) | (simp; omega) | omega))); first | assumption | (refine since_step (by assumption) ?_; first | assumption | ((repeat (first | with_reducible (exact Since.refl _) | with_reducible assumption | with_reducible (refine Since.drew ?_) | with_reducible (refine Since.drewN ?_ _) | with_reducible (refine Since.alloc ?_ _) | (with_reducible (refine Since.setCell ?_ ?_ _); rotate_left; focus (first | (simp; done) | (simp; omega) | omega)))); done)) | (refine since_step (Since.refl _) ?_; first | assumption | ((repeat (first | with_reducible (exact Since.refl _) | with_reducible assumption | with_reducible (refine Since.drew ?_) | with_reducible (refine Since.drewN ?_ _) | with_reducible (refine Since.alloc ?_ _) | (with_reducible (refine Since.setCell ?_ ?_ _); rotate_left; focus (first | (simp; done) | (simp; omega) | omega)) | (with_reducible (refine Since.trans ?_ (by with_reducible assumption))))); done)))) (first | (go_at_call 49; refine (HN.out _ _ _).mono ?_; rintro e w1 ⟨rfl, hS⟩; have hZ := hS.below.size; (try simp at hZ)) | (go_at_call 48; refine (HI.out _).mono ?_; rintro e w1 ⟨rfl, hS⟩; have hZ := hS.below.size; (try simp at hZ))); all_goals (rename_i hHeld; have hR1 : Since wr1 _ := hHeld; obtain ⟨hcR1, hfR1, hzR1, hbR1⟩ := hHeld; subst hwr1))
    go_wp2
    go_ret2
    exact ⟨rfl, by (repeat (first | with_reducible (exact Since.refl _) | with_reducible assumption | with_reducible (refine Since.drew ?_) | with_reducible (refine Since.drewN ?_ _) | with_reducible (refine Since.alloc ?_ _) | (with_reducible (refine Since.setCell ?_ ?_ _); rotate_left; focus (first | (simp; done) | (simp; omega) | omega)) | (with_reducible (refine Since.trans ?_ (by with_reducible assumption)))))⟩
  · have hgf : (goodB x y && goodB u v) = false := by simpa using hgg
    rw [hgf] at hg ⊢
    have HG := Lib.hid hg
    clear hg hgg hgf
    simp only [okE]
    unfold Pt
    go_enter Try.func18, Try.ntmps18
    go_wp2_with (go_at_call 20; (with_reducible refine (HG.out _ _ (by simp) _).mono ?_); rintro e w1 ⟨rfl, hS1⟩)
    go_ret2
    exact ⟨rfl, by (repeat (first | with_reducible (exact Since.refl _) | with_reducible assumption | with_reducible (refine Since.drew ?_) | with_reducible (refine Since.drewN ?_ _) | with_reducible (refine Since.alloc ?_ _) | (with_reducible (refine Since.setCell ?_ ?_ _); rotate_left; focus (first | (simp; done) | (simp; omega) | omega)) | (with_reducible (refine Since.trans ?_ (by with_reducible assumption)))))⟩

def timesX (x y u v : Int) : Int := x * u - y * v
def timesY (x y u v : Int) : Int := x * v + y * u
set_option maxHeartbeats 4000000 in
theorem ga_times (x y u v : Int) (h : InP x y) (h' : InP u v) (w : World) :
    Calls Try.prog 19 #[Pt x y, Pt u v] w fun e w' => e = .returned (.tuple #[if goodB x y && goodB u v then Pt (timesX x y u v) (timesY x y u v) else Pt 0 0, .int .i64 (okE (goodB x y && goodB u v))]) ∧ Since w w' := by
  have hg := fun w b hb t => good2 w b hb x y u v t h h'
  by_cases hgg : (goodB x y && goodB u v) = true
  · obtain ⟨g1, g2⟩ := Bool.and_eq_true_iff.1 hgg
    obtain ⟨n1, n2, m1, m2⟩ := good_near g1
    obtain ⟨n3, n4, m3, m4⟩ := good_near g2
    have hI := muB_stands (fl_stands m1) (fl_stands m2) (fl_stands m3) (fl_stands m4) n1 n2 n3 n4
    have hmul := fun t w => run_complex_mul (P := Try.prog) w t (fl x) (fl y) (fl u) (fl v) _ _ hI.1
    have b1 := near_mul n1 n3; have b2 := near_mul n2 n4; have b3 := near_mul n1 n4; have b4 := near_mul n2 n3
    have hpt := fun w => ga_point _ _ hI.2.1 hI.2.2 (by omega) (by omega) w
    rw [hgg] at hg ⊢
    simp only [if_true, okE]
    unfold timesX timesY
    generalize (muB (fl x) (fl y) (fl u) (fl v)).1 = z1 at *
    generalize (muB (fl x) (fl y) (fl u) (fl v)).2 = z2 at *
    generalize x * u - y * v = N at *
    generalize x * v + y * u = M at *
    clear hI hgg g1 g2 n1 n2 n3 n4 m1 m2 m3 m4 b1 b2 b3 b4 h h'
    have hnum := fun x y w => ga_number x y w
    unfold Pt at *
    have HG := Lib.hid hg; have HI := Lib.hid hpt; have HN := Lib.hid hnum
    clear hg hpt hnum
    go_enter Try.func19, Try.ntmps19
    go_wp2_with (go_at_call 20; (with_reducible refine (HG.out _ _ (by simp) _).mono ?_); rintro e w1 ⟨rfl, hS1⟩; have hP1 := ((((pt_new w _ rfl x y _).alloc _).alloc _).alloc _).since hS1; have hP2 := (((pt_new _ (w.heap.size + 1) (by simp) u v _).alloc _).alloc _).since hS1; have hP3 := ((zero2_new _ (w.heap.size + 1 + 1) (by simp) _).alloc _).since hS1; have hS : Since w w1 := by (repeat (first | with_reducible (exact Since.refl _) | with_reducible assumption | with_reducible (refine Since.drew ?_) | with_reducible (refine Since.drewN ?_ _) | with_reducible (refine Since.alloc ?_ _) | (with_reducible (refine Since.setCell ?_ ?_ _); rotate_left; focus (first | (simp; done) | (simp; omega) | omega)) | (with_reducible (refine Since.trans ?_ (by with_reducible assumption))))))
    obtain ⟨p1, p2, p3⟩ := hP1
    obtain ⟨p4, p5, p6⟩ := hP2
    obtain ⟨⟨p7, p8, p9⟩, pF⟩ := hP3
    have pF0 := pF 0
    have pF1 := pF 1
    clear pF
    clear hS1
    (refine wp_named fun wr1 hwr1 => ?_; go_region_held3 (fun w' => (∀ b o, b < (w.heap.size + 1 + 1) → w'.cell? ⟨b, o, none⟩ = wr1.cell? ⟨b, o, none⟩) ∧ (∀ b o, b < wr1.heap.size → w'.frozen? ⟨b, o, none⟩ = wr1.frozen? ⟨b, o, none⟩) ∧ (∀ k, k < wr1.heap.size → k < w'.heap.size) ∧ Below ((w.heap.size + 1 + 1)) wr1 w' ∧ (∀ o, o < 2 → w'.cell? ⟨(w.heap.size + 1 + 1), o, none⟩ = some (cellD w' ((w.heap.size + 1 + 1)) o))) ((subst hwr1; (repeat with_reducible (refine sr_set ?_ _ _)); first | assumption | (refine sr_step (by first | assumption | omega | (simp; done) | (simp; omega)) (by assumption) ?_; first | assumption | (repeat (first | with_reducible (exact Since.refl _) | with_reducible assumption | with_reducible (refine Since.drew ?_) | with_reducible (refine Since.drewN ?_ _) | with_reducible (refine Since.alloc ?_ _) | (with_reducible (refine Since.setCell ?_ ?_ _); rotate_left; focus (first | (simp; done) | (simp; omega) | omega))))) | (refine sr_step (by first | assumption | omega | (simp; done) | (simp; omega)) (sr_start (fun o ho => by (have ho' : o = 0 ∨ o = 1 := by omega); rcases ho' with rfl | rfl <;> (first | (simp [go_sem]; done) | simp_all))) ?_; first | assumption | (repeat (first | with_reducible (exact Since.refl _) | with_reducible assumption | with_reducible (refine Since.drew ?_) | with_reducible (refine Since.drewN ?_ _) | with_reducible (refine Since.alloc ?_ _) | (with_reducible (refine Since.setCell ?_ ?_ _); rotate_left; focus (first | (simp; done) | (simp; omega) | omega))))))) (first | (go_at_call 49; refine (HN.out _ _ _).mono ?_; rintro e w1 ⟨rfl, hS⟩; have hZ := hS.below.size; (try simp at hZ)) | (go_at_call 50; refine (HI.out _).mono ?_; rintro e w1 ⟨rfl, hS⟩; have hZ := hS.below.size; (try simp at hZ))); all_goals (rename_i hHeld; obtain ⟨hcR1, hfR1, hzR1, hbR1, hoR1⟩ := hHeld; have hiR := fun o ho => there_of (hoR1 o ho); (try simp only [there_set] at hiR); clear hoR1; subst hwr1; have hR1 : Since w _ := sr_out hbR1 (by (repeat (first | with_reducible (exact Since.refl _) | with_reducible assumption | with_reducible (refine Since.drew ?_) | with_reducible (refine Since.drewN ?_ _) | with_reducible (refine Since.alloc ?_ _) | (with_reducible (refine Since.setCell ?_ ?_ _); rotate_left; focus (first | (simp; done) | (simp; omega) | omega)) | (with_reducible (refine Since.trans ?_ (by with_reducible assumption)))))) (by first | (simp; done) | (simp; omega) | omega)))
    all_goals go_wp2
    all_goals refine bodyPost_ret (by simp only [results, Try.results19]; go_simp) rfl ⟨rfl, ?_⟩
    all_goals (repeat (first | with_reducible (exact Since.refl _) | with_reducible assumption | with_reducible (refine Since.drew ?_) | with_reducible (refine Since.drewN ?_ _) | with_reducible (refine Since.alloc ?_ _) | (with_reducible (refine Since.setCell ?_ ?_ _); rotate_left; focus (first | (simp; done) | (simp; omega) | omega)) | (with_reducible (refine Since.trans ?_ (by with_reducible assumption)))))
  · have hgf : (goodB x y && goodB u v) = false := by simpa using hgg
    rw [hgf] at hg ⊢
    have HG := Lib.hid hg
    clear hg hgg hgf
    simp only [okE]
    unfold Pt
    go_enter Try.func19, Try.ntmps19
    go_wp2_with (go_at_call 20; (with_reducible refine (HG.out _ _ (by simp) _).mono ?_); rintro e w1 ⟨rfl, hS1⟩; have hP3 := ((zero2_new _ (w.heap.size + 1 + 1) (by simp) _).alloc _).since hS1; obtain ⟨⟨p7, p8, p9⟩, pF⟩ := hP3; have pF0 := pF 0; have pF1 := pF 1; clear pF)
    refine bodyPost_ret (by simp only [results, Try.results19]; go_simp) rfl ⟨rfl, ?_⟩
    (repeat (first | with_reducible (exact Since.refl _) | with_reducible assumption | with_reducible (refine Since.drew ?_) | with_reducible (refine Since.drewN ?_ _) | with_reducible (refine Since.alloc ?_ _) | (with_reducible (refine Since.setCell ?_ ?_ _); rotate_left; focus (first | (simp; done) | (simp; omega) | omega)) | (with_reducible (refine Since.trans ?_ (by with_reducible assumption)))))
end Go.Proofs.Ytbbbojhncfdbdaa
