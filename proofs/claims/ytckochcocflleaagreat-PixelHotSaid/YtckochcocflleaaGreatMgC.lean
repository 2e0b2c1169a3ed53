/-
  Texts of this seat, put together: each with its own head.
-/
import Derived.Test.YtckochcocflleaaGreatMgG
import Derived.Test.YtckochcocflleaaGreatMgM

/-
  Layer 10: the reference's 'Turn', 'Quarter', 'All', 'Same', walked.
-/
namespace Go.Proofs.YtckochcocflleaaGreat
open Go.RowKit
set_option linter.unusedVariables false

def Tiny (x : Int) : Prop := -4194304 ≤ x ∧ x ≤ 4194304
theorem Tiny.near {x : Int} (h : Tiny x) : Near x := by unfold Tiny at h; unfold Near; omega
theorem Tiny.sub {x y : Int} (h : Tiny x) (k : Tiny y) : Near (x - y) := by unfold Tiny at *; unfold Near; omega
theorem tiny_of {x y : Int} (h : goodB x y = true) : Tiny x ∧ Tiny y := by have := goodB_iff.1 h; unfold Tiny; omega
theorem cross_in64 {x y u v : Int} (h1 : Near x) (h2 : Near y) (h3 : Near u) (h4 : Near v) : In64 (crossI x y u v) := by
  have b1 := near_mul h1 h4; have b2 := near_mul h2 h3
  unfold crossI In64
  omega

set_option maxHeartbeats 8000000 in
theorem rf_turn (x y u v p q : Int) (h1 : Tiny x) (h2 : Tiny y) (h3 : Tiny u) (h4 : Tiny v) (h5 : Tiny p) (h6 : Tiny q) (w : World) :
    Calls Tryz.prog 72 #[Pt x y, Pt u v, Pt p q] w fun e w' => e = .returned (.int .i64 (turnI x y u v p q)) ∧ Since w w' := by
  have n1 := h3.sub h1; have n2 := h4.sub h2; have n3 := h5.sub h1; have n4 := h6.sub h2
  have HL1 := Lib.hid (fun w => rf_less u v x y h3.near h4.near h1.near h2.near w)
  have HL2 := Lib.hid (fun w => rf_less p q x y h5.near h6.near h1.near h2.near w)
  have HC := Lib.hid (fun w => rf_cross (u - x) (v - y) (p - x) (q - y) n1 n2 n3 n4 w)
  have HSg := Lib.hid (fun w => rf_sign (crossI (u - x) (v - y) (p - x) (q - y)) (cross_in64 n1 n2 n3 n4) w)
  unfold turnI
  clear h1 h2 h3 h4 h5 h6 n1 n2 n3 n4
  generalize u - x = a at *
  generalize v - y = b at *
  generalize p - x = c at *
  generalize q - y = d at *
  generalize crossI a b c d = N at *
  unfold Pt at *
  go_enter Tryz.func72, Tryz.ntmps72
  go_wp2_with fail
  refine wp_named fun w1 hw1 => ?_
  have hP1 : PtAt w1 w.heap.size x y := by subst hw1; exact ((pt_new w _ rfl x y _).alloc _).alloc _
  have hP2 : PtAt w1 (w.heap.size + 1) u v := by subst hw1; exact (pt_new _ (w.heap.size + 1) (by simp) u v _).alloc _
  have hP3 : PtAt w1 (w.heap.size + 1 + 1) p q := by subst hw1; exact pt_new _ (w.heap.size + 1 + 1) (by simp) p q _
  have hS : Since w w1 := by subst hw1; (repeat (first | with_reducible (exact Since.refl _) | with_reducible assumption | with_reducible (refine Since.drew ?_) | with_reducible (refine Since.drewN ?_ _) | with_reducible (refine Since.alloc ?_ _) | (with_reducible (refine Since.setCell ?_ ?_ _); rotate_left; focus (first | (simp; done) | (simp; omega) | omega)) | (with_reducible (refine Since.trans ?_ (by with_reducible assumption)))))
  clear hw1
  obtain ⟨p1, p2, p3⟩ := hP1
  obtain ⟨p4, p5, p6⟩ := hP2
  obtain ⟨p7, p8, p9⟩ := hP3
  (refine wp_named fun wr1 hwr1 => ?_; go_region_held3 (fun w' => (∀ b o, b < wr1.heap.size → w'.cell? ⟨b, o, none⟩ = wr1.cell? ⟨b, o, none⟩) ∧ (∀ b o, b < wr1.heap.size → w'.frozen? ⟨b, o, none⟩ = wr1.frozen? ⟨b, o, none⟩) ∧ (∀ k, k < wr1.heap.size → k < w'.heap.size) ∧ Below wr1.heap.size wr1 w') ((subst hwr1; (repeat (with_reducible (refine since_put ?_ ?_ _); rotate_left; focus (first | (simp; done) | (simp; omega) | omega))); first | assumption | (refine since_step (by assumption) ?_; first | assumption | ((repeat (first | with_reducible (exact Since.refl _) | with_reducible assumption | with_reducible (refine Since.drew ?_) | with_reducible (refine Since.drewN ?_ _) | with_reducible (refine Since.alloc ?_ _) | (with_reducible (refine Since.setCell ?_ ?_ _); rotate_left; focus (first | (simp; done) | (simp; omega) | omega)))); done)) | (refine since_step (Since.refl _) ?_; first | assumption | ((repeat (first | with_reducible (exact Since.refl _) | with_reducible assumption | with_reducible (refine Since.drew ?_) | with_reducible (refine Since.drewN ?_ _) | with_reducible (refine Since.alloc ?_ _) | (with_reducible (refine Since.setCell ?_ ?_ _); rotate_left; focus (first | (simp; done) | (simp; omega) | omega)) | (with_reducible (refine Since.trans ?_ (by with_reducible assumption))))); done)))) (first | (go_at_call 44; (with_reducible refine (HL1.out _).mono ?_); rintro e w1 ⟨rfl, hS⟩; have hZ := hS.below.size; (try simp at hZ)) | (go_at_call 44; (with_reducible refine (HL2.out _).mono ?_); rintro e w1 ⟨rfl, hS⟩; have hZ := hS.below.size; (try simp at hZ)) | (go_at_call 45; refine (HC.out _).mono ?_; rintro e w1 ⟨rfl, hS⟩; have hZ := hS.below.size; (try simp at hZ)) | (go_at_call 96; refine (HSg.out _).mono ?_; rintro e w1 ⟨rfl, hS⟩; have hZ := hS.below.size; (try simp at hZ))); all_goals (rename_i hHeld; have hR1 : Since wr1 _ := hHeld; obtain ⟨hcR1, hfR1, hzR1, hbR1⟩ := hHeld; subst hwr1))
  go_wp2
  go_ret
  exact ⟨rfl, by (repeat (first | with_reducible (exact Since.refl _) | with_reducible assumption | with_reducible (refine Since.drew ?_) | with_reducible (refine Since.drewN ?_ _) | with_reducible (refine Since.alloc ?_ _) | (with_reducible (refine Since.setCell ?_ ?_ _); rotate_left; focus (first | (simp; done) | (simp; omega) | omega)) | (with_reducible (refine Since.trans ?_ (by with_reducible assumption)))))⟩

/-- A block holds a point, and may be written. -/
def PtW (w : World) (b : Nat) (x y : Int) : Prop := PtAt w b x y ∧ ∀ j, w.frozen? ⟨b, j, none⟩ = false
theorem ptw_new (w : World) (b : Nat) (hb : b = w.heap.size) (x y : Int) (t : TypeId) : PtW (w.alloc (.cells #[.int .i64 x, .int .i64 y] t)) b x y := by
  refine ⟨pt_new w b hb x y t, fun j => ?_⟩
  subst hb
  rw [frozen?_alloc_cells]
  simp [World.frozen?]
theorem PtW.since {w w' : World} {b : Nat} {x y : Int} (h : PtW w b x y) (k : Since w w') : PtW w' b x y := ⟨h.1.since k, fun j => (k.2.1 _ _ h.1.2.2).trans (h.2 j)⟩
theorem PtW.alloc {w : World} {b : Nat} {x y : Int} (h : PtW w b x y) (o : Obj) : PtW (w.alloc o) b x y := h.since ((Since.refl w).alloc o)
theorem PtW.put {w : World} {b : Nat} {x y : Int} (h : PtW w b x y) (u v : Int) : PtW ((w.setCell ⟨b, 0, none⟩ (.int .i64 u)).setCell ⟨b, 1, none⟩ (.int .i64 v)) b u v := by
  obtain ⟨⟨h1, h2, h3⟩, h4⟩ := h
  refine ⟨⟨?_, ?_, by simpa [World.setCell] using h3⟩, fun j => by rw [World.frozen?_setCell, World.frozen?_setCell]; exact h4 j⟩
  · rw [cell_set, if_neg (by omega), cell_set, if_pos ⟨rfl, rfl⟩, h1]; rfl
  · rw [cell_set, if_pos ⟨rfl, rfl⟩, cell_set, if_neg (by omega), h2]; rfl
theorem PtW.far {w : World} {b b' : Nat} {x y : Int} (h : PtW w b x y) (hb : b' ≠ b) (o : Nat) (v : Value) : PtW (w.setCell ⟨b', o, none⟩ v) b x y := by
  obtain ⟨⟨h1, h2, h3⟩, h4⟩ := h
  exact ⟨⟨by rw [cell_set, if_neg (fun e => hb e.1)]; exact h1, by rw [cell_set, if_neg (fun e => hb e.1)]; exact h2, by simpa [World.setCell] using h3⟩, fun j => by rw [World.frozen?_setCell]; exact h4 j⟩
theorem go_mod4 (n : Int) : (n.tmod 4 + 4).tmod 4 = n % 4 := by
  rcases Int.lt_or_le n 0 with h | h
  · have h1 : n.tmod 4 = -((-n) % 4) := by
      rw [← Int.tmod_eq_emod_of_nonneg (by omega : 0 ≤ -n), Int.neg_tmod]; omega
    rw [h1, Int.tmod_eq_emod_of_nonneg (by omega)]
    omega
  · rw [Int.tmod_eq_emod_of_nonneg h, Int.tmod_eq_emod_of_nonneg (by omega)]
    omega
end Go.Proofs.YtckochcocflleaaGreat

/-
  Layer 15: the reference's On and Good, walked.
-/
namespace Go.Proofs.YtckochcocflleaaGreat
open Go.RowKit
set_option linter.unusedVariables false

set_option maxHeartbeats 8000000 in
theorem r15_good (l : Ln) (w : World) : Calls Tryz.prog 21 #[l.v] w fun e w' => e = .returned (.bool (goodB l.ax l.ay && goodB l.bx l.bz)) ∧ Since w w' := by
  have hN := fun w b hb t => ln_new w b hb l t
  have c1 := fun w => rf_good l.ax l.ay w
  have c2 := fun w => rf_good l.bx l.bz w
  unfold Pt Ln.v at *
  generalize goodB l.ax l.ay = G1 at *
  generalize goodB l.bx l.bz = G2 at *
  have HN := Lib.hid hN
  have H1 := Lib.hid c1
  have H2 := Lib.hid c2
  clear hN c1 c2
  cases G1
  all_goals
    go_enter Tryz.func21, Tryz.ntmps21
    go_wp2_with (first | (go_at_call 41; (with_reducible refine Calls.mono (H1.out _) ?_); rintro e w1 ⟨rfl, hS1⟩; have hL := (HN.out w _ rfl _).since hS1; have hS : Since w w1 := (by (repeat (first | with_reducible (exact Since.refl _) | with_reducible assumption | with_reducible (refine Since.drew ?_) | with_reducible (refine Since.drewN ?_ _) | with_reducible (refine Since.alloc ?_ _) | (with_reducible (refine Since.setCell ?_ ?_ _); rotate_left; focus (first | (simp; done) | (simp; omega) | omega)) | (with_reducible (refine Since.trans ?_ (by with_reducible assumption)))))); clear hS1; have hLL := hL; obtain ⟨l1, l2, l3, l4, l5⟩ := hLL) | (go_at_call 41; (with_reducible refine Calls.mono (H2.out _) ?_); rintro e w2 ⟨rfl, hS2⟩; have hT2 := hS.trans hS2))
    go_ret
    exact ⟨by first | rfl | simp, by (repeat (first | with_reducible (exact Since.refl _) | with_reducible assumption | with_reducible (refine Since.drew ?_) | with_reducible (refine Since.drewN ?_ _) | with_reducible (refine Since.alloc ?_ _) | (with_reducible (refine Since.setCell ?_ ?_ _); rotate_left; focus (first | (simp; done) | (simp; omega) | omega)) | (with_reducible (refine Since.trans ?_ (by with_reducible assumption)))))⟩
set_option maxHeartbeats 8000000 in
theorem ron_of (px py : Int) (l : Ln) (T : Int) (t0 b1 b2 b3 b4 : Bool) (w : World) (ht : (T == 0) = t0) (h1 : decide (lo2 l.ax l.bx ≤ px) = b1) (h2 : decide (px ≤ hi2 l.ax l.bx) = b2) (h3 : decide (lo2 l.ay l.bz ≤ py) = b3) (h4 : decide (py ≤ hi2 l.ay l.bz) = b4)
    (hT : ∀ w, Calls Tryz.prog 72 #[Pt l.ax l.ay, Pt l.bx l.bz, Pt px py] w fun e w' => e = .returned (.int .i64 T) ∧ Since w w') :
    Calls Tryz.prog 46 #[Pt px py, l.v] w fun e w' => e = .returned (.bool (t0 && (b1 && b2) && (b3 && b4))) ∧ Since w w' := by
  have hN := fun w b hb t => ln_new w b hb l t
  have hmin := min2_run
  have hmax := max2_run
  unfold Pt Ln.v at *
  have HN := Lib.hid hN
  have HT := Lib.hid hT
  clear hN hT
  cases t0 <;> cases b1 <;> cases b2 <;> cases b3
  all_goals
    go_enter Tryz.func46, Tryz.ntmps46
    go_wp2_with (first | (go_at_call 72; (with_reducible refine Calls.mono (HT.out _) ?_); rintro e w1 ⟨rfl, hS1⟩; have hP := ((pt_new w _ rfl px py _).alloc _).since hS1; have hL := (HN.out _ (w.heap.size + 1) (by simp) _).since hS1; have hS : Since w w1 := (by (repeat (first | with_reducible (exact Since.refl _) | with_reducible assumption | with_reducible (refine Since.drew ?_) | with_reducible (refine Since.drewN ?_ _) | with_reducible (refine Since.alloc ?_ _) | (with_reducible (refine Since.setCell ?_ ?_ _); rotate_left; focus (first | (simp; done) | (simp; omega) | omega)) | (with_reducible (refine Since.trans ?_ (by with_reducible assumption)))))); clear hS1; obtain ⟨p1, p2, p3⟩ := hP; obtain ⟨l1, l2, l3, l4, l5⟩ := hL))
    go_ret
    exact ⟨by first | rfl | simp, by (repeat (first | with_reducible (exact Since.refl _) | with_reducible assumption | with_reducible (refine Since.drew ?_) | with_reducible (refine Since.drewN ?_ _) | with_reducible (refine Since.alloc ?_ _) | (with_reducible (refine Since.setCell ?_ ?_ _); rotate_left; focus (first | (simp; done) | (simp; omega) | omega)) | (with_reducible (refine Since.trans ?_ (by with_reducible assumption)))))⟩
theorem r15_on (px py : Int) (l : Ln) (hg : (goodB l.ax l.ay && goodB l.bx l.bz && goodB px py) = true) (w : World) :
    Calls Tryz.prog 46 #[Pt px py, l.v] w fun e w' => e = .returned (.bool (onB px py l)) ∧ Since w w' := by
  obtain ⟨h12, h3⟩ := Bool.and_eq_true_iff.1 hg
  obtain ⟨h1, h2⟩ := Bool.and_eq_true_iff.1 h12
  obtain ⟨t1, t2⟩ := tiny_of h1
  obtain ⟨t3, t4⟩ := tiny_of h2
  obtain ⟨t5, t6⟩ := tiny_of h3
  have h := ron_of px py l _ _ _ _ _ _ w rfl rfl rfl rfl rfl (fun w => rf_turn l.ax l.ay l.bx l.bz px py t1 t2 t3 t4 t5 t6 w)
  unfold onB btw
  rw [hg, Bool.true_and]
  exact h
end Go.Proofs.YtckochcocflleaaGreat
