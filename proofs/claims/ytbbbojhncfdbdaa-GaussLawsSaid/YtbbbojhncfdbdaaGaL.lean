/-
  Layer 10: the law GaussLaws, walked.
-/
import Derived.Test.YtbbbojhncfdbdaaGaI
import Derived.Deep.DeepCutAuto
namespace Go.Proofs.Ytbbbojhncfdbdaa
open Go.RowKit
set_option linter.unusedVariables false

/-- A block holds two short numbers. -/
def Sh2 (w : World) (b : Nat) (x y : Int) : Prop := w.cell? ⟨b, 0, none⟩ = some (.int .i16 x) ∧ w.cell? ⟨b, 1, none⟩ = some (.int .i16 y) ∧ b < w.heap.size
theorem Sh2.since {w w' : World} {b : Nat} {x y : Int} (h : Sh2 w b x y) (k : Since w w') : Sh2 w' b x y := ⟨(k.1 _ _ h.2.2).trans h.1, (k.1 _ _ h.2.2).trans h.2.1, k.2.2.1 _ h.2.2⟩
theorem sh_new (w : World) (b : Nat) (hb : b = w.heap.size) (x y : Int) (t : TypeId) : Sh2 (w.alloc (.cells #[.int .i16 x, .int .i16 y] t)) b x y := by
  subst hb
  exact ⟨by rw [World.cell?_alloc_new]; rfl, by rw [World.cell?_alloc_new]; rfl, by simp⟩
def Short (n : Int) : Prop := -32768 ≤ n ∧ n ≤ 32767
theorem short_good {x y : Int} (h : Short x) (k : Short y) : goodB x y = true := goodB_iff.2 (by unfold Short at *; omega)
theorem short_mul {p q : Int} (hp : Short p) (hq : Short q) : -1073741824 ≤ p * q ∧ p * q ≤ 1073741824 := by
  have h : (p * q).natAbs ≤ 1073741824 := by
    rw [Int.natAbs_mul]
    unfold Short at hp hq
    exact Nat.le_trans (Nat.mul_le_mul (show p.natAbs ≤ 32768 by omega) (show q.natAbs ≤ 32768 by omega)) (by decide)
  omega
theorem short_wf {a : Int} (h : (Lit.int .i16 a).wf = true) : Short a := by
  have h : -32768 ≤ a ∧ a ≤ 32767 := by simpa [Lit.wf, IntKind.min, IntKind.max, IntKind.signed, IntKind.bits] using h
  exact h
theorem lagrange (x y u v : Int) : crossI x y u v * crossI x y u v + dotI x y u v * dotI x y u v = dotI x y x y * dotI u v u v := by
  unfold crossI dotI
  simp only [Int.sub_mul, Int.mul_sub, Int.add_mul, Int.mul_add]
  have e1 : x * v * (x * v) = x * x * (v * v) := by simp only [Int.mul_assoc, Int.mul_left_comm]
  have e2 : x * v * (y * u) = x * u * (y * v) := by simp only [Int.mul_left_comm, Int.mul_comm]
  have e3 : y * u * (x * v) = x * u * (y * v) := by simp only [Int.mul_left_comm, Int.mul_comm]
  have e4 : y * u * (y * u) = y * y * (u * u) := by simp only [Int.mul_assoc, Int.mul_left_comm]
  have e5 : x * u * (x * u) = x * x * (u * u) := by simp only [Int.mul_assoc, Int.mul_left_comm]
  have e6 : y * v * (x * u) = x * u * (y * v) := Int.mul_comm _ _
  have e7 : y * v * (y * v) = y * y * (v * v) := by simp only [Int.mul_assoc, Int.mul_left_comm]
  rw [e1, e2, e3, e4, e5, e6, e7]
  omega
theorem sq_range {n : Int} (h : -2147483648 ≤ n ∧ n ≤ 2147483648) : 0 ≤ n * n ∧ n * n ≤ 4611686018427387904 := by
  have h1 : (n * n).natAbs ≤ 4611686018427387904 := by
    rw [Int.natAbs_mul]
    exact Nat.le_trans (Nat.mul_le_mul (show n.natAbs ≤ 2147483648 by omega) (show n.natAbs ≤ 2147483648 by omega)) (by decide)
  have h2 : 0 ≤ n * n := by
    rcases Int.le_total 0 n with g | g
    · exact Int.mul_nonneg g g
    · exact Int.mul_nonneg_of_nonpos_of_nonpos g g
  omega

theorem PtW.drew {w : World} {b : Nat} {x y : Int} (h : PtW w b x y) : PtW w.drew b x y := h.since (Since.refl w).drew

set_option maxRecDepth 100000 in
set_option maxHeartbeats 8000000 in
theorem walk_glaws (x y u v : Int) (h1 : Short x) (h2 : Short y) (h3 : Short u) (h4 : Short v) (w : World) :
    Calls Try.prog 6 #[.agg #[.int .i16 x, .int .i16 y], .agg #[.int .i16 u, .int .i16 v]] w fun e w' => e = .returned (.bool true) ∧ Since w w' := by
  have i1 : InP x y := inP_small (by unfold Short at *; omega) (by unfold Short at *; omega)
  have i2 : InP u v := inP_small (by unfold Short at *; omega) (by unfold Short at *; omega)
  have g1 := short_good h1 h2
  have g2 := short_good h3 h4
  have c1 := fun w => ga_cross x y u v i1 i2 w
  have c2 := fun w => ga_cross u v x y i2 i1 w
  have c3 := fun w => ga_cross x y x y i1 i1 w
  have c4 := fun w => ga_dot x y u v i1 i2 w
  have c5 := fun w => ga_dot x y x y i1 i1 w
  have c6 := fun w => ga_dot u v u v i2 i2 w
  simp only [g1, g2, Bool.and_self, if_true, okE] at c1 c2 c3 c4 c5 c6
  have b1 := short_mul h1 h4; have b2 := short_mul h2 h3; have b3 := short_mul h1 h3; have b4 := short_mul h2 h4
  have b5 := short_mul h1 h1; have b6 := short_mul h2 h2; have b7 := short_mul h3 h3; have b8 := short_mul h4 h4
  have hL := lagrange x y u v
  have e2 : crossI u v x y = -crossI x y u v := by unfold crossI; rw [Int.mul_comm u y, Int.mul_comm v x]; omega
  have e3 : crossI x y x y = 0 := by unfold crossI; rw [Int.mul_comm y x]; omega
  have r1 : -2147483648 ≤ crossI x y u v ∧ crossI x y u v ≤ 2147483648 := by unfold crossI; omega
  have r4 : -2147483648 ≤ dotI x y u v ∧ dotI x y u v ≤ 2147483648 := by unfold dotI; omega
  have r5 : -2147483648 ≤ dotI x y x y ∧ dotI x y x y ≤ 2147483648 := by unfold dotI; omega
  have r6 : -2147483648 ≤ dotI u v u v ∧ dotI u v u v ≤ 2147483648 := by unfold dotI; omega
  have z5 : 0 ≤ dotI x y x y := by
    have a := (sq_range (n := x) (by unfold Short at h1; omega)).1
    have b := (sq_range (n := y) (by unfold Short at h2; omega)).1
    unfold dotI; omega
  have z6 : 0 ≤ dotI u v u v := by
    have a := (sq_range (n := u) (by unfold Short at h3; omega)).1
    have b := (sq_range (n := v) (by unfold Short at h4; omega)).1
    unfold dotI; omega
  have wx : IntKind.i64.wrap x = x := IntWalk.i64_in _ (by unfold Short at h1; omega)
  have wy : IntKind.i64.wrap y = y := IntWalk.i64_in _ (by unfold Short at h2; omega)
  have wu : IntKind.i64.wrap u = u := IntWalk.i64_in _ (by unfold Short at h3; omega)
  have wv : IntKind.i64.wrap v = v := IntWalk.i64_in _ (by unfold Short at h4; omega)
  rw [e2] at c2
  rw [e3] at c3
  clear b1 b2 b3 b4 b5 b6 b7 b8 e2 e3 g1 g2 i1 i2 h1 h2 h3 h4
  generalize crossI x y u v = N at *
  generalize dotI x y u v = M at *
  generalize dotI x y x y = P at *
  generalize dotI u v u v = Q at *
  obtain ⟨n1, n2⟩ := r1
  obtain ⟨n5, n6⟩ := r5
  obtain ⟨n7, n8⟩ := r6
  obtain ⟨q1, q2⟩ := sq_range ⟨n1, n2⟩
  obtain ⟨q3, q4⟩ := sq_range r4
  have HL := Lib.hid hL
  generalize hNN : N * N = NN at *
  generalize hMM : M * M = MM at *
  have hb : ((NN + MM == P * Q) = true) := by rw [HL.out]; simp
  have k1 : IntKind.i64.wrap NN = NN := IntWalk.i64_in _ (by omega)
  have k2 : IntKind.i64.wrap MM = MM := IntWalk.i64_in _ (by omega)
  have k3 : IntKind.i64.wrap (-N) = -N := IntWalk.i64_in _ (by omega)
  have k3' : IntKind.i64.wrap (- -N) = N := (IntWalk.i64_in _ (by omega)).trans (by omega)
  have hPQ : 0 ≤ P * Q ∧ P * Q < 18446744073709551616 := by omega
  generalize hpq : P * Q = PQ at *
  unfold Pt at *
  have C1 := Lib.hid c1; have C2 := Lib.hid c2; have C3 := Lib.hid c3; have C4 := Lib.hid c4; have C5 := Lib.hid c5; have C6 := Lib.hid c6
  clear c1 c2 c3 c4 c5 c6 HL r4 hL
  go_enter Try.func6, Try.ntmps6
  go_wp2_with (go_at_call 15; (with_reducible refine (alive10 _).mono ?_); rintro e w1 ⟨rfl, hS1⟩; have hA1 := ((sh_new w _ rfl x y _).since ((Since.refl _).alloc _)).since hS1; have hB1 := (sh_new _ (w.heap.size + 1) (by simp) u v _).since hS1; have hT1 : Since w w1 := (by (repeat (first | with_reducible (exact Since.refl _) | with_reducible assumption | with_reducible (refine Since.drew ?_) | with_reducible (refine Since.drewN ?_ _) | with_reducible (refine Since.alloc ?_ _) | (with_reducible (refine Since.setCell ?_ ?_ _); rotate_left; focus (first | (simp; done) | (simp; omega) | omega)) | (with_reducible (refine Since.trans ?_ (by with_reducible assumption)))))); obtain ⟨a1, a2, a3⟩ := hA1; obtain ⟨b1, b2, b3⟩ := hB1; clear hS1)
  go_wp2
  go_cut [5, 6] (fun c d wx => ∃ bx by1 : Nat, c = .pointer (some ⟨bx, 0, none⟩) ∧ d = .pointer (some ⟨by1, 0, none⟩) ∧ Since w wx ∧ PtW wx bx x y ∧ PtW wx by1 u v)
  case first =>
    (refine wp_named fun wr1 hwr1 => ?_; go_region_held3 (fun w' => (∀ b o, b < wr1.heap.size → w'.cell? ⟨b, o, none⟩ = wr1.cell? ⟨b, o, none⟩) ∧ (∀ b o, b < wr1.heap.size → w'.frozen? ⟨b, o, none⟩ = wr1.frozen? ⟨b, o, none⟩) ∧ (∀ k, k < wr1.heap.size → k < w'.heap.size) ∧ Below wr1.heap.size wr1 w') ((subst hwr1; (repeat (with_reducible (refine since_put ?_ ?_ _); rotate_left; focus (first | (simp; done) | (simp; omega) | omega))); first | assumption | (refine since_step (by assumption) ?_; first | assumption | ((repeat (first | with_reducible (exact Since.refl _) | with_reducible assumption | with_reducible (refine Since.drew ?_) | with_reducible (refine Since.drewN ?_ _) | with_reducible (refine Since.alloc ?_ _) | (with_reducible (refine Since.setCell ?_ ?_ _); rotate_left; focus (first | (simp; done) | (simp; omega) | omega)))); done)) | (refine since_step (Since.refl _) ?_; first | assumption | ((repeat (first | with_reducible (exact Since.refl _) | with_reducible assumption | with_reducible (refine Since.drew ?_) | with_reducible (refine Since.drewN ?_ _) | with_reducible (refine Since.alloc ?_ _) | (with_reducible (refine Since.setCell ?_ ?_ _); rotate_left; focus (first | (simp; done) | (simp; omega) | omega)) | (with_reducible (refine Since.trans ?_ (by with_reducible assumption))))); done)))) (fail); all_goals (rename_i hHeld; have hR1 : Since wr1 _ := hHeld; obtain ⟨hcR1, hfR1, hzR1, hbR1⟩ := hHeld; subst hwr1))
    all_goals (go_wp2_with fail)
    all_goals go_meet
    all_goals refine ⟨_, _, rfl, rfl, ?_, ?_, ?_⟩
    all_goals (first | ((repeat (first | with_reducible (exact Since.refl _) | with_reducible assumption | with_reducible (refine Since.drew ?_) | with_reducible (refine Since.drewN ?_ _) | with_reducible (refine Since.alloc ?_ _) | (with_reducible (refine Since.setCell ?_ ?_ _); rotate_left; focus (first | (simp; done) | (simp; omega) | omega)) | (with_reducible (refine Since.trans ?_ (by with_reducible assumption))))); done) | (repeat (first | with_reducible assumption | with_reducible (refine PtW.drew ?_) | (with_reducible (refine ptw_new _ _ ?_ _ _ _); first | with_reducible rfl | (simp; done)) | with_reducible (refine PtW.alloc ?_ _))))
  case rest =>
    obtain ⟨bx, by1, rfl, rfl, hS0, ⟨hX, -⟩, ⟨hY, -⟩⟩ := hcut
    clear hT1 a1 a2 a3 b1 b2 b3
    obtain ⟨x1, x2, x3⟩ := hX
    obtain ⟨y1, y2, y3⟩ := hY
    have hT := hS0
    clear hS0
    go_wp2_with (first | (go_at_call 17; (with_reducible refine (C1.out _).mono ?_); rintro e wz ⟨rfl, hS⟩; have hX := PtAt.since ⟨x1, x2, x3⟩ hS; have hY := PtAt.since ⟨y1, y2, y3⟩ hS; have hT2 := hT.trans hS; clear hS hT x1 x2 x3 y1 y2 y3; obtain ⟨x1, x2, x3⟩ := hX; obtain ⟨y1, y2, y3⟩ := hY; have hT := hT2; clear hT2) | (go_at_call 17; (with_reducible refine (C2.out _).mono ?_); rintro e wz ⟨rfl, hS⟩; have hX := PtAt.since ⟨x1, x2, x3⟩ hS; have hY := PtAt.since ⟨y1, y2, y3⟩ hS; have hT2 := hT.trans hS; clear hS hT x1 x2 x3 y1 y2 y3; obtain ⟨x1, x2, x3⟩ := hX; obtain ⟨y1, y2, y3⟩ := hY; have hT := hT2; clear hT2) | (go_at_call 17; (with_reducible refine (C3.out _).mono ?_); rintro e wz ⟨rfl, hS⟩; have hX := PtAt.since ⟨x1, x2, x3⟩ hS; have hY := PtAt.since ⟨y1, y2, y3⟩ hS; have hT2 := hT.trans hS; clear hS hT x1 x2 x3 y1 y2 y3; obtain ⟨x1, x2, x3⟩ := hX; obtain ⟨y1, y2, y3⟩ := hY; have hT := hT2; clear hT2) | (go_at_call 18; (with_reducible refine (C4.out _).mono ?_); rintro e wz ⟨rfl, hS⟩; have hX := PtAt.since ⟨x1, x2, x3⟩ hS; have hY := PtAt.since ⟨y1, y2, y3⟩ hS; have hT2 := hT.trans hS; clear hS hT x1 x2 x3 y1 y2 y3; obtain ⟨x1, x2, x3⟩ := hX; obtain ⟨y1, y2, y3⟩ := hY; have hT := hT2; clear hT2) | (go_at_call 18; (with_reducible refine (C5.out _).mono ?_); rintro e wz ⟨rfl, hS⟩; have hX := PtAt.since ⟨x1, x2, x3⟩ hS; have hY := PtAt.since ⟨y1, y2, y3⟩ hS; have hT2 := hT.trans hS; clear hS hT x1 x2 x3 y1 y2 y3; obtain ⟨x1, x2, x3⟩ := hX; obtain ⟨y1, y2, y3⟩ := hY; have hT := hT2; clear hT2) | (go_at_call 18; (with_reducible refine (C6.out _).mono ?_); rintro e wz ⟨rfl, hS⟩; have hX := PtAt.since ⟨x1, x2, x3⟩ hS; have hY := PtAt.since ⟨y1, y2, y3⟩ hS; have hT2 := hT.trans hS; clear hS hT x1 x2 x3 y1 y2 y3; obtain ⟨x1, x2, x3⟩ := hX; obtain ⟨y1, y2, y3⟩ := hY; have hT := hT2; clear hT2))
    go_ret
    exact ⟨by first | rfl | simp, hT⟩
end Go.Proofs.Ytbbbojhncfdbdaa
