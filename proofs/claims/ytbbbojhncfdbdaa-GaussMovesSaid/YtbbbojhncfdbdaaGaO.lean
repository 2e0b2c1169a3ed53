/-
  Layer 10: the law GaussMoves, walked.
-/
import Derived.Test.YtbbbojhncfdbdaaGaN
namespace Go.Proofs.Ytbbbojhncfdbdaa
open Go.RowKit
set_option linter.unusedVariables false

def SixS (w : World) (b : Nat) (x y u v p q : Int) : Prop := w.cell? ⟨b, 0, none⟩ = some (.int .i32 x) ∧ w.cell? ⟨b, 1, none⟩ = some (.int .i32 y) ∧ w.cell? ⟨b, 2, none⟩ = some (.int .i32 u) ∧ w.cell? ⟨b, 3, none⟩ = some (.int .i32 v) ∧ w.cell? ⟨b, 4, none⟩ = some (.int .i32 p) ∧ w.cell? ⟨b, 5, none⟩ = some (.int .i32 q) ∧ b < w.heap.size
theorem SixS.since {w w' : World} {b : Nat} {x y u v p q : Int} (h : SixS w b x y u v p q) (k : Since w w') : SixS w' b x y u v p q := by
  obtain ⟨h1, h2, h3, h4, h5, h6, h7⟩ := h
  exact ⟨(k.1 _ _ h7).trans h1, (k.1 _ _ h7).trans h2, (k.1 _ _ h7).trans h3, (k.1 _ _ h7).trans h4, (k.1 _ _ h7).trans h5, (k.1 _ _ h7).trans h6, k.2.2.1 _ h7⟩
theorem sixs_new (w : World) (x y u v p q : Int) (t : TypeId) : SixS (w.alloc (.cells #[.int .i32 x, .int .i32 y, .int .i32 u, .int .i32 v, .int .i32 p, .int .i32 q] t)) w.heap.size x y u v p q := by
  refine ⟨?_, ?_, ?_, ?_, ?_, ?_, by simp⟩ <;> (rw [World.cell?_alloc_new]; rfl)
def TwoS (w : World) (b : Nat) (x y : Int) : Prop := w.cell? ⟨b, 0, none⟩ = some (.int .i32 x) ∧ w.cell? ⟨b, 1, none⟩ = some (.int .i32 y) ∧ b < w.heap.size
theorem TwoS.since {w w' : World} {b : Nat} {x y : Int} (h : TwoS w b x y) (k : Since w w') : TwoS w' b x y := ⟨(k.1 _ _ h.2.2).trans h.1, (k.1 _ _ h.2.2).trans h.2.1, k.2.2.1 _ h.2.2⟩
theorem twos_new (w : World) (b : Nat) (hb : b = w.heap.size) (x y : Int) (t : TypeId) : TwoS (w.alloc (.cells #[.int .i32 x, .int .i32 y] t)) b x y := by
  subst hb
  exact ⟨by rw [World.cell?_alloc_new]; rfl, by rw [World.cell?_alloc_new]; rfl, by simp⟩
theorem SixF.drew {w : World} {b : Nat} {x y u v p q : Int} (h : SixF w b x y u v p q) : SixF w.drew b x y u v p q := h.since (Since.refl w).drew
theorem PtAt.far {w : World} {b b' : Nat} {x y : Int} (h : PtAt w b x y) (hb : b' ≠ b) (o : Nat) (v : Value) : PtAt (w.setCell ⟨b', o, none⟩ v) b x y := by
  obtain ⟨h1, h2, h3⟩ := h
  exact ⟨by rw [cell_set, if_neg (fun e => hb e.1)]; exact h1, by rw [cell_set, if_neg (fun e => hb e.1)]; exact h2, by simpa [World.setCell] using h3⟩
def st (k i : Nat) (x : Int) : Int := if i < k then x else 0
def Small (x : Int) : Prop := -1048576 ≤ x ∧ x ≤ 1048576
theorem Small.near {x : Int} (h : Small x) : Near x := by unfold Small at h; unfold Near; omega
theorem Small.good {x y : Int} (h : Small x) (k : Small y) : goodB x y = true := goodB_iff.2 (by unfold Small at *; omega)
theorem Small.good2 {x y a b : Int} (h : Small x) (k : Small y) (h' : Small a) (k' : Small b) : goodB (x + a) (y + b) = true := goodB_iff.2 (by unfold Small at *; omega)
theorem good_inp {x y : Int} (h : goodB x y = true) : InP x y := inP_small (by have := goodB_iff.1 h; omega) (by have := goodB_iff.1 h; omega)
theorem turn_ok (x y u v p q T : Int) (h : goodB x y = true) (h' : goodB u v = true) (h'' : goodB p q = true) (hT : turnI x y u v p q = T) (w : World) :
    Calls Try.prog 23 #[.agg #[.int .i64 x, .int .i64 y], .agg #[.int .i64 u, .int .i64 v], .agg #[.int .i64 p, .int .i64 q]] w fun e w' => e = .returned (.tuple #[.int .i64 T, .int .i64 0]) ∧ Since w w' := by
  have k := ga_turn x y u v p q (good_inp h) (good_inp h') (good_inp h'') w
  rw [h, h', h'', hT] at k
  simpa [okE, Pt] using k
theorem quarter_ok (x y n : Int) (h : goodB x y = true) (w : World) :
    Calls Try.prog 24 #[.agg #[.int .i64 x, .int .i64 y], .int .i64 n] w fun e w' => e = .returned (.tuple #[.agg #[.int .i64 (resQ x y n).1, .int .i64 (resQ x y n).2], .int .i64 0]) ∧ Since w w' := by
  have k := ga_quarter x y n (good_inp h) w
  rw [h] at k
  simpa [okE, Pt] using k
theorem quarter_small {x y : Int} (h : Small x) (k : Small y) (n : Int) : goodB (resQ x y n).1 (resQ x y n).2 = true := by
  have hb := qu_near (x := x) (y := y) (B := 1048576) h k (n % 4).toNat
  unfold resQ
  exact goodB_iff.2 (by omega)

theorem idx0 (a b c d e f : Value) (w : World) : (Instr.index 50 (.agg #[a, b, c, d, e, f]) (.int .i64 0)).run Try.prog w = .ok (.agg #[a, b]) w := by rfl
theorem idx1 (a b c d e f : Value) (w : World) : (Instr.index 50 (.agg #[a, b, c, d, e, f]) (.int .i64 1)).run Try.prog w = .ok (.agg #[c, d]) w := by rfl
theorem idx2 (a b c d e f : Value) (w : World) : (Instr.index 50 (.agg #[a, b, c, d, e, f]) (.int .i64 2)).run Try.prog w = .ok (.agg #[e, f]) w := by rfl
set_option maxRecDepth 1000000 in
set_option maxHeartbeats 8000000 in
theorem walk_moves (x0 y0 x1 y1 x2 y2 a b n : Int) (hx0 : In32 x0) (hy0 : In32 y0) (hx1 : In32 x1) (hy1 : In32 y1) (hx2 : In32 x2) (hy2 : In32 y2) (ha : In32 a) (hb : In32 b) (w : World) :
    Calls Try.prog 7 #[.agg #[.int .i32 x0, .int .i32 y0, .int .i32 x1, .int .i32 y1, .int .i32 x2, .int .i32 y2], .agg #[.int .i32 a, .int .i32 b], .int .i64 n] w fun e w' => e = .returned (.bool true) ∧ Since w w' := by
  have s0 := law_small x0 y0 hx0 hy0
  have s1 := law_small x1 y1 hx1 hy1
  have s2 := law_small x2 y2 hx2 hy2
  have sd := law_small a b ha hb
  have r0 : Small (sm x0) := sm_range hx0
  have r0' : Small (sm y0) := sm_range hy0
  have r1 : Small (sm x1) := sm_range hx1
  have r1' : Small (sm y1) := sm_range hy1
  have r2 : Small (sm x2) := sm_range hx2
  have r2' : Small (sm y2) := sm_range hy2
  have rd : Small (sm a) := sm_range ha
  have rd' : Small (sm b) := sm_range hb
  unfold Pt at s0 s1 s2 sd
  generalize sm x0 = X0 at *
  generalize sm y0 = Y0 at *
  generalize sm x1 = X1 at *
  generalize sm y1 = Y1 at *
  generalize sm x2 = X2 at *
  generalize sm y2 = Y2 at *
  generalize sm a = A at *
  generalize sm b = B at *
  have m0 := rf_more X0 Y0 A B r0.near r0'.near rd.near rd'.near
  have m1 := rf_more X1 Y1 A B r1.near r1'.near rd.near rd'.near
  have m2 := rf_more X2 Y2 A B r2.near r2'.near rd.near rd'.near
  have q0 := quarter_ok X0 Y0 n (r0.good r0')
  have q1 := quarter_ok X1 Y1 n (r1.good r1')
  have q2 := quarter_ok X2 Y2 n (r2.good r2')
  obtain ⟨T, hT⟩ : ∃ T, turnI X0 Y0 X1 Y1 X2 Y2 = T := ⟨_, rfl⟩
  have t1 := turn_ok X0 Y0 X1 Y1 X2 Y2 T (r0.good r0') (r1.good r1') (r2.good r2') hT
  have t2 := turn_ok (X0 + A) (Y0 + B) (X1 + A) (Y1 + B) (X2 + A) (Y2 + B) T (r0.good2 r0' rd rd') (r1.good2 r1' rd rd') (r2.good2 r2' rd rd') ((turn_moved _ _ _ _ _ _ _ _).trans hT)
  have t3 := turn_ok (resQ X0 Y0 n).1 (resQ X0 Y0 n).2 (resQ X1 Y1 n).1 (resQ X1 Y1 n).2 (resQ X2 Y2 n).1 (resQ X2 Y2 n).2 T (quarter_small r0 r0' n) (quarter_small r1 r1' n) (quarter_small r2 r2' n) ((turn_quarter _ _ _ _ _ _ _).trans hT)
  have t4 := turn_ok X1 Y1 X0 Y0 X2 Y2 (-T) (r1.good r1') (r0.good r0') (r2.good r2') ((turn_swap _ _ _ _ _ _).trans (by rw [hT]))
  have t5 := turn_ok X1 Y1 X2 Y2 X0 Y0 T (r1.good r1') (r2.good r2') (r0.good r0') ((turn_cycle _ _ _ _ _ _).trans hT)
  have hT1 : IntKind.i64.wrap (- -T) = T := by
    have h := sgn_range (crossI (X1 - X0) (Y1 - Y0) (X2 - X0) (Y2 - Y0))
    have h' : sgnI (crossI (X1 - X0) (Y1 - Y0) (X2 - X0) (Y2 - Y0)) = T := hT
    rw [h'] at h
    exact (IntWalk.i64_in _ (by omega)).trans (by omega)
  have hT2 : IntKind.i64.wrap T = T := by
    have h := sgn_range (crossI (X1 - X0) (Y1 - Y0) (X2 - X0) (Y2 - Y0))
    have h' : sgnI (crossI (X1 - X0) (Y1 - Y0) (X2 - X0) (Y2 - Y0)) = T := hT
    rw [h'] at h
    exact IntWalk.i64_in _ (by omega)
  unfold Pt at m0 m1 m2
  clear r0 r0' r1 r1' r2 r2' rd rd' hx0 hy0 hx1 hy1 hx2 hy2 ha hb hT
  generalize X0 + A = U0 at *
  generalize Y0 + B = V0 at *
  generalize X1 + A = U1 at *
  generalize Y1 + B = V1 at *
  generalize X2 + A = U2 at *
  generalize Y2 + B = V2 at *
  generalize (resQ X0 Y0 n).1 = R0 at *
  generalize (resQ X0 Y0 n).2 = S0 at *
  generalize (resQ X1 Y1 n).1 = R1 at *
  generalize (resQ X1 Y1 n).2 = S1 at *
  generalize (resQ X2 Y2 n).1 = R2 at *
  generalize (resQ X2 Y2 n).2 = S2 at *
  replace s0 := Lib.hid s0; replace s1 := Lib.hid s1; replace s2 := Lib.hid s2; replace sd := Lib.hid sd
  replace m0 := Lib.hid m0; replace m1 := Lib.hid m1; replace m2 := Lib.hid m2
  replace q0 := Lib.hid q0; replace q1 := Lib.hid q1; replace q2 := Lib.hid q2
  replace t1 := Lib.hid t1; replace t2 := Lib.hid t2; replace t3 := Lib.hid t3; replace t4 := Lib.hid t4; replace t5 := Lib.hid t5
  go_enter Try.func7, Try.ntmps7
  go_wp2_with (first | (go_at_call 15; (with_reducible refine (alive10 _).mono ?_); rintro e w1 ⟨rfl, hS1⟩; have hA1 := ((sixs_new w x0 y0 x1 y1 x2 y2 _).since ((Since.refl _).alloc _)).since hS1; have hB1 := (twos_new _ (w.heap.size + 1) (by simp) a b _).since hS1; have hT1 : Since w w1 := (by (repeat (first | with_reducible (exact Since.refl _) | with_reducible assumption | with_reducible (refine Since.drew ?_) | with_reducible (refine Since.drewN ?_ _) | with_reducible (refine Since.alloc ?_ _) | (with_reducible (refine Since.setCell ?_ ?_ _); rotate_left; focus (first | (simp; done) | (simp; omega) | omega)) | (with_reducible (refine Since.trans ?_ (by with_reducible assumption)))))); obtain ⟨b1, b2, b3⟩ := hB1; clear hS1) | (go_at_call 31; (with_reducible refine (sd.out _).mono ?_); rintro e w2 ⟨rfl, hS2⟩; have hA2 := hA1.since hS2; have hT2 := hT1.trans hS2; obtain ⟨a1, a2, a3, a4, a5, a6, a7⟩ := hA2; have l0 := Nat.ne_of_lt a7; have l1 : w.heap.size ≠ w2.heap.size + 1 := (by omega); have l2 : w.heap.size ≠ w2.heap.size + 1 + 1 := (by omega); have l3 : w.heap.size ≠ w2.heap.size + 1 + 1 + 1 := (by omega); have l4 : w.heap.size < w2.heap.size + 1 := (by omega); have l5 : w.heap.size < w2.heap.size + 1 + 1 := (by omega); have l6 : w.heap.size < w2.heap.size + 1 + 1 + 1 := (by omega); have g0 : ¬ w2.heap.size = w.heap.size := (by omega); clear hS2 b1 b2 b3 hA1 hT1))
  refine wp_named fun w3 hw3 => ?_
  have hT3 : Since w w3 := (by subst hw3; (repeat (first | with_reducible (exact Since.refl _) | with_reducible assumption | with_reducible (refine Since.drew ?_) | with_reducible (refine Since.drewN ?_ _) | with_reducible (refine Since.alloc ?_ _) | (with_reducible (refine Since.setCell ?_ ?_ _); rotate_left; focus (first | (simp; done) | (simp; omega) | omega)) | (with_reducible (refine Since.trans ?_ (by with_reducible assumption))))))
  have hD : PtAt w3 w2.heap.size A B := (by subst hw3; exact (((pt_new w2 _ rfl A B _).alloc _).alloc _).alloc _)
  have h8 : SixF w3 (w2.heap.size + 1) 0 0 0 0 0 0 := (by subst hw3; exact ((six_newF _ _ (by simp) 0 0 0 0 0 0 _).alloc _).alloc _)
  have h9 : SixF w3 (w2.heap.size + 1 + 1) 0 0 0 0 0 0 := (by subst hw3; exact (six_newF _ _ (by simp) 0 0 0 0 0 0 _).alloc _)
  have h10 : SixF w3 (w2.heap.size + 1 + 1 + 1) 0 0 0 0 0 0 := (by subst hw3; exact six_newF _ _ (by simp) 0 0 0 0 0 0 _)
  have hb7 : w.heap.size ≤ w2.heap.size := hT2.below.size
  clear hw3 a1 a2 a3 a4 a5 a6 l0 l1 l2 l3 l4 l5 l6 g0 a7 hT2
  generalize w2.heap.size = b7 at *
  go_loopw [11, 12, 31] (fun _ _ c wr => ∃ (k : Nat) (z : Int), k ≤ 3 ∧ z = (k : Int) ∧ c = .int .i64 z ∧ Since w wr ∧ PtAt wr b7 A B ∧ SixF wr (b7 + 1) (st k 0 X0) (st k 0 Y0) (st k 1 X1) (st k 1 Y1) (st k 2 X2) (st k 2 Y2) ∧ SixF wr (b7 + 1 + 1) (st k 0 U0) (st k 0 V0) (st k 1 U1) (st k 1 V1) (st k 2 U2) (st k 2 V2) ∧ SixF wr (b7 + 1 + 1 + 1) (st k 0 R0) (st k 0 S0) (st k 1 R1) (st k 1 S1) (st k 2 R2) (st k 2 S2)) (fun _ _ c _ => 3 - (intOf c).toNat)
  case atStart => exact ⟨0, 0, by omega, rfl, rfl, hT3, hD, h8, h9, h10⟩
  case round =>
    have J0 := idx0; have J1 := idx1; have J2 := idx2
    clear hT3 hD h8 h9 h10
    obtain ⟨k, z, hk, hz, rfl, hSr, hD, h8, h9, h10⟩ := hrel
    rcases (show k = 0 ∨ k = 1 ∨ k = 2 ∨ k = 3 by omega) with rfl | rfl | rfl | rfl
    · obtain rfl : z = 0 := hz
      change SixF wr (b7 + 1) 0 0 0 0 0 0 at h8
      change SixF wr (b7 + 1 + 1) 0 0 0 0 0 0 at h9
      change SixF wr (b7 + 1 + 1 + 1) 0 0 0 0 0 0 at h10
      go_wp2_with (go_at_call 31; (with_reducible refine (s0.out _).mono ?_); rintro e w4 ⟨rfl, hS4⟩; have hW4 : Since wr w4 := (by (repeat (first | with_reducible (exact Since.refl _) | with_reducible assumption | with_reducible (refine Since.drew ?_) | with_reducible (refine Since.drewN ?_ _) | with_reducible (refine Since.alloc ?_ _) | (with_reducible (refine Since.setCell ?_ ?_ _); rotate_left; focus (first | (simp; done) | (simp; omega) | omega)) | (with_reducible (refine Since.trans ?_ (by with_reducible assumption)))))); have hD4 := hD.since hW4; have h84 := h8.since hW4; have h94 := h9.since hW4; have h104 := h10.since hW4; have hT4 := hSr.trans hW4; have h8c := h84; obtain ⟨⟨p0, p1, p2, p3, p4, p5, p6⟩, pF⟩ := h8c; have f0 := pF 0; have f1 := pF 1; clear pF hD h8 h9 h10 hS4 hW4)
      refine wp_named fun w5 hw5 => ?_
      have hT5 : Since w w5 := (by subst hw5; (repeat (first | with_reducible (exact Since.refl _) | with_reducible assumption | with_reducible (refine Since.drew ?_) | with_reducible (refine Since.drewN ?_ _) | with_reducible (refine Since.alloc ?_ _) | (with_reducible (refine Since.setCell ?_ ?_ _); rotate_left; focus (first | (simp; done) | (simp; omega) | omega)) | (with_reducible (refine Since.trans ?_ (by with_reducible assumption))))))
      have h85 : SixF w5 (b7 + 1) X0 Y0 0 0 0 0 := (by subst hw5; exact h84.put0 _ _)
      have h95 : SixF w5 (b7 + 1 + 1) 0 0 0 0 0 0 := (by subst hw5; exact (h94.far (by omega) _ _).far (by omega) _ _)
      have h105 : SixF w5 (b7 + 1 + 1 + 1) 0 0 0 0 0 0 := (by subst hw5; exact (h104.far (by omega) _ _).far (by omega) _ _)
      have hD5 : PtAt w5 b7 A B := (by subst hw5; exact (hD4.far (by omega) _ _).far (by omega) _ _)
      clear hw5 h84 h94 h104 hD4 hT4 f0 f1 p0 p1 p2 p3 p4 p5 p6
      have h8c := h85; obtain ⟨⟨p0, p1, p2, p3, p4, p5, p6⟩, pF⟩ := h8c
      have hDc := hD5; obtain ⟨d0, d1, d2⟩ := hDc
      go_region_held3 (fun w' => w'.cell? ⟨b7 + 1, 0, none⟩ = some (.int .i64 X0) ∧ w'.cell? ⟨b7 + 1, 1, none⟩ = some (.int .i64 Y0) ∧ w'.cell? ⟨b7, 0, none⟩ = some (.int .i64 A) ∧ w'.cell? ⟨b7, 1, none⟩ = some (.int .i64 B)) ((refine ⟨?_, ?_, ?_, ?_⟩ <;> (first | assumption | (rw [cell_set, if_neg (by omega), cell_set, if_neg (by omega)]; assumption)))) ((go_at_call 32; (with_reducible refine (m0.out _).mono ?_); rintro e w6 ⟨rfl, hS6⟩; have hW6 : Since w5 w6 := (by (repeat (first | with_reducible (exact Since.refl _) | with_reducible assumption | with_reducible (refine Since.drew ?_) | with_reducible (refine Since.drewN ?_ _) | with_reducible (refine Since.alloc ?_ _) | (with_reducible (refine Since.setCell ?_ ?_ _); rotate_left; focus (first | (simp; done) | (simp; omega) | omega)) | (with_reducible (refine Since.trans ?_ (by with_reducible assumption)))))); have h86 := h85.since hW6; have h96 := h95.since hW6; have h106 := h105.since hW6; have hD6 := hD5.since hW6; have hT6 := hT5.trans hW6; have h9c := h96; obtain ⟨⟨g0, g1, g2, g3, g4, g5, g6⟩, gF⟩ := h9c; have f0 := gF 0; have f1 := gF 1; have h8d := h86; obtain ⟨⟨e0, e1, e2, e3, e4, e5, e6⟩, eF⟩ := h8d; have hDd := hD6; obtain ⟨i0, i1, i2⟩ := hDd; clear gF eF))
      all_goals (rename_i hHeld; clear hHeld)
      clear h85 h95 h105 hD5 hT5 p0 p1 p2 p3 p4 p5 p6 d0 d1 d2
      go_wp2_with (go_at_call 24; (with_reducible refine (q0.out _).mono ?_); rintro e w8 ⟨rfl, hS8⟩; have hW8 : Since ((w6.setCell ⟨b7 + 1 + 1, 0, none⟩ (.int .i64 U0)).setCell ⟨b7 + 1 + 1, 1, none⟩ (.int .i64 V0)) w8 := (by (repeat (first | with_reducible (exact Since.refl _) | with_reducible assumption | with_reducible (refine Since.drew ?_) | with_reducible (refine Since.drewN ?_ _) | with_reducible (refine Since.alloc ?_ _) | (with_reducible (refine Since.setCell ?_ ?_ _); rotate_left; focus (first | (simp; done) | (simp; omega) | omega)) | (with_reducible (refine Since.trans ?_ (by with_reducible assumption)))))); have h88 : SixF w8 (b7 + 1) X0 Y0 0 0 0 0 := (((h86.far (by omega) _ _).far (by omega) _ _).since hW8); have h98 : SixF w8 (b7 + 1 + 1) U0 V0 0 0 0 0 := (h96.put0 _ _).since hW8; have h108 : SixF w8 (b7 + 1 + 1 + 1) 0 0 0 0 0 0 := (((h106.far (by omega) _ _).far (by omega) _ _).since hW8); have hD8 : PtAt w8 b7 A B := (((hD6.far (by omega) _ _).far (by omega) _ _).since hW8); have hT8 : Since w w8 := (by (repeat (first | with_reducible (exact Since.refl _) | with_reducible assumption | with_reducible (refine Since.drew ?_) | with_reducible (refine Since.drewN ?_ _) | with_reducible (refine Since.alloc ?_ _) | (with_reducible (refine Since.setCell ?_ ?_ _); rotate_left; focus (first | (simp; done) | (simp; omega) | omega)) | (with_reducible (refine Since.trans ?_ (by with_reducible assumption)))))); have h10c := h108; obtain ⟨⟨j0, j1, j2, j3, j4, j5, j6⟩, jF⟩ := h10c; have f2 := jF 0; have f3 := jF 1; clear jF)
      refine ⟨⟨1, 1, by omega, rfl, by first | rfl | simp, ?_, (hD8.far (by omega) _ _).far (by omega) _ _, (h88.far (by omega) _ _).far (by omega) _ _, (h98.far (by omega) _ _).far (by omega) _ _, h108.put0 _ _⟩, by simp [intOf]⟩
      (repeat (first | with_reducible (exact Since.refl _) | with_reducible assumption | with_reducible (refine Since.drew ?_) | with_reducible (refine Since.drewN ?_ _) | with_reducible (refine Since.alloc ?_ _) | (with_reducible (refine Since.setCell ?_ ?_ _); rotate_left; focus (first | (simp; done) | (simp; omega) | omega)) | (with_reducible (refine Since.trans ?_ (by with_reducible assumption)))))
    · obtain rfl : z = 1 := hz
      change SixF wr (b7 + 1) X0 Y0 0 0 0 0 at h8
      change SixF wr (b7 + 1 + 1) U0 V0 0 0 0 0 at h9
      change SixF wr (b7 + 1 + 1 + 1) R0 S0 0 0 0 0 at h10
      go_wp2_with (go_at_call 31; (with_reducible refine (s1.out _).mono ?_); rintro e w4 ⟨rfl, hS4⟩; have hW4 : Since wr w4 := (by (repeat (first | with_reducible (exact Since.refl _) | with_reducible assumption | with_reducible (refine Since.drew ?_) | with_reducible (refine Since.drewN ?_ _) | with_reducible (refine Since.alloc ?_ _) | (with_reducible (refine Since.setCell ?_ ?_ _); rotate_left; focus (first | (simp; done) | (simp; omega) | omega)) | (with_reducible (refine Since.trans ?_ (by with_reducible assumption)))))); have hD4 := hD.since hW4; have h84 := h8.since hW4; have h94 := h9.since hW4; have h104 := h10.since hW4; have hT4 := hSr.trans hW4; have h8c := h84; obtain ⟨⟨p0, p1, p2, p3, p4, p5, p6⟩, pF⟩ := h8c; have f0 := pF 2; have f1 := pF 3; clear pF hD h8 h9 h10 hS4 hW4)
      refine wp_named fun w5 hw5 => ?_
      have hT5 : Since w w5 := (by subst hw5; (repeat (first | with_reducible (exact Since.refl _) | with_reducible assumption | with_reducible (refine Since.drew ?_) | with_reducible (refine Since.drewN ?_ _) | with_reducible (refine Since.alloc ?_ _) | (with_reducible (refine Since.setCell ?_ ?_ _); rotate_left; focus (first | (simp; done) | (simp; omega) | omega)) | (with_reducible (refine Since.trans ?_ (by with_reducible assumption))))))
      have h85 : SixF w5 (b7 + 1) X0 Y0 X1 Y1 0 0 := (by subst hw5; exact h84.put1 _ _)
      have h95 : SixF w5 (b7 + 1 + 1) U0 V0 0 0 0 0 := (by subst hw5; exact (h94.far (by omega) _ _).far (by omega) _ _)
      have h105 : SixF w5 (b7 + 1 + 1 + 1) R0 S0 0 0 0 0 := (by subst hw5; exact (h104.far (by omega) _ _).far (by omega) _ _)
      have hD5 : PtAt w5 b7 A B := (by subst hw5; exact (hD4.far (by omega) _ _).far (by omega) _ _)
      clear hw5 h84 h94 h104 hD4 hT4 f0 f1 p0 p1 p2 p3 p4 p5 p6
      have h8c := h85; obtain ⟨⟨p0, p1, p2, p3, p4, p5, p6⟩, pF⟩ := h8c
      have hDc := hD5; obtain ⟨d0, d1, d2⟩ := hDc
      go_region_held3 (fun w' => w'.cell? ⟨b7 + 1, 2, none⟩ = some (.int .i64 X1) ∧ w'.cell? ⟨b7 + 1, 3, none⟩ = some (.int .i64 Y1) ∧ w'.cell? ⟨b7, 0, none⟩ = some (.int .i64 A) ∧ w'.cell? ⟨b7, 1, none⟩ = some (.int .i64 B)) ((refine ⟨?_, ?_, ?_, ?_⟩ <;> (first | assumption | (rw [cell_set, if_neg (by omega), cell_set, if_neg (by omega)]; assumption)))) ((go_at_call 32; (with_reducible refine (m1.out _).mono ?_); rintro e w6 ⟨rfl, hS6⟩; have hW6 : Since w5 w6 := (by (repeat (first | with_reducible (exact Since.refl _) | with_reducible assumption | with_reducible (refine Since.drew ?_) | with_reducible (refine Since.drewN ?_ _) | with_reducible (refine Since.alloc ?_ _) | (with_reducible (refine Since.setCell ?_ ?_ _); rotate_left; focus (first | (simp; done) | (simp; omega) | omega)) | (with_reducible (refine Since.trans ?_ (by with_reducible assumption)))))); have h86 := h85.since hW6; have h96 := h95.since hW6; have h106 := h105.since hW6; have hD6 := hD5.since hW6; have hT6 := hT5.trans hW6; have h9c := h96; obtain ⟨⟨g0, g1, g2, g3, g4, g5, g6⟩, gF⟩ := h9c; have f0 := gF 2; have f1 := gF 3; have h8d := h86; obtain ⟨⟨e0, e1, e2, e3, e4, e5, e6⟩, eF⟩ := h8d; have hDd := hD6; obtain ⟨i0, i1, i2⟩ := hDd; clear gF eF))
      all_goals (rename_i hHeld; clear hHeld)
      clear h85 h95 h105 hD5 hT5 p0 p1 p2 p3 p4 p5 p6 d0 d1 d2
      go_wp2_with (go_at_call 24; (with_reducible refine (q1.out _).mono ?_); rintro e w8 ⟨rfl, hS8⟩; have hW8 : Since ((w6.setCell ⟨b7 + 1 + 1, 2, none⟩ (.int .i64 U1)).setCell ⟨b7 + 1 + 1, 3, none⟩ (.int .i64 V1)) w8 := (by (repeat (first | with_reducible (exact Since.refl _) | with_reducible assumption | with_reducible (refine Since.drew ?_) | with_reducible (refine Since.drewN ?_ _) | with_reducible (refine Since.alloc ?_ _) | (with_reducible (refine Since.setCell ?_ ?_ _); rotate_left; focus (first | (simp; done) | (simp; omega) | omega)) | (with_reducible (refine Since.trans ?_ (by with_reducible assumption)))))); have h88 : SixF w8 (b7 + 1) X0 Y0 X1 Y1 0 0 := (((h86.far (by omega) _ _).far (by omega) _ _).since hW8); have h98 : SixF w8 (b7 + 1 + 1) U0 V0 U1 V1 0 0 := (h96.put1 _ _).since hW8; have h108 : SixF w8 (b7 + 1 + 1 + 1) R0 S0 0 0 0 0 := (((h106.far (by omega) _ _).far (by omega) _ _).since hW8); have hD8 : PtAt w8 b7 A B := (((hD6.far (by omega) _ _).far (by omega) _ _).since hW8); have hT8 : Since w w8 := (by (repeat (first | with_reducible (exact Since.refl _) | with_reducible assumption | with_reducible (refine Since.drew ?_) | with_reducible (refine Since.drewN ?_ _) | with_reducible (refine Since.alloc ?_ _) | (with_reducible (refine Since.setCell ?_ ?_ _); rotate_left; focus (first | (simp; done) | (simp; omega) | omega)) | (with_reducible (refine Since.trans ?_ (by with_reducible assumption)))))); have h10c := h108; obtain ⟨⟨j0, j1, j2, j3, j4, j5, j6⟩, jF⟩ := h10c; have f2 := jF 2; have f3 := jF 3; clear jF)
      refine ⟨⟨2, 2, by omega, rfl, by first | rfl | simp, ?_, (hD8.far (by omega) _ _).far (by omega) _ _, (h88.far (by omega) _ _).far (by omega) _ _, (h98.far (by omega) _ _).far (by omega) _ _, h108.put1 _ _⟩, by simp [intOf]⟩
      (repeat (first | with_reducible (exact Since.refl _) | with_reducible assumption | with_reducible (refine Since.drew ?_) | with_reducible (refine Since.drewN ?_ _) | with_reducible (refine Since.alloc ?_ _) | (with_reducible (refine Since.setCell ?_ ?_ _); rotate_left; focus (first | (simp; done) | (simp; omega) | omega)) | (with_reducible (refine Since.trans ?_ (by with_reducible assumption)))))
    · obtain rfl : z = 2 := hz
      change SixF wr (b7 + 1) X0 Y0 X1 Y1 0 0 at h8
      change SixF wr (b7 + 1 + 1) U0 V0 U1 V1 0 0 at h9
      change SixF wr (b7 + 1 + 1 + 1) R0 S0 R1 S1 0 0 at h10
      go_wp2_with (go_at_call 31; (with_reducible refine (s2.out _).mono ?_); rintro e w4 ⟨rfl, hS4⟩; have hW4 : Since wr w4 := (by (repeat (first | with_reducible (exact Since.refl _) | with_reducible assumption | with_reducible (refine Since.drew ?_) | with_reducible (refine Since.drewN ?_ _) | with_reducible (refine Since.alloc ?_ _) | (with_reducible (refine Since.setCell ?_ ?_ _); rotate_left; focus (first | (simp; done) | (simp; omega) | omega)) | (with_reducible (refine Since.trans ?_ (by with_reducible assumption)))))); have hD4 := hD.since hW4; have h84 := h8.since hW4; have h94 := h9.since hW4; have h104 := h10.since hW4; have hT4 := hSr.trans hW4; have h8c := h84; obtain ⟨⟨p0, p1, p2, p3, p4, p5, p6⟩, pF⟩ := h8c; have f0 := pF 4; have f1 := pF 5; clear pF hD h8 h9 h10 hS4 hW4)
      refine wp_named fun w5 hw5 => ?_
      have hT5 : Since w w5 := (by subst hw5; (repeat (first | with_reducible (exact Since.refl _) | with_reducible assumption | with_reducible (refine Since.drew ?_) | with_reducible (refine Since.drewN ?_ _) | with_reducible (refine Since.alloc ?_ _) | (with_reducible (refine Since.setCell ?_ ?_ _); rotate_left; focus (first | (simp; done) | (simp; omega) | omega)) | (with_reducible (refine Since.trans ?_ (by with_reducible assumption))))))
      have h85 : SixF w5 (b7 + 1) X0 Y0 X1 Y1 X2 Y2 := (by subst hw5; exact h84.put2 _ _)
      have h95 : SixF w5 (b7 + 1 + 1) U0 V0 U1 V1 0 0 := (by subst hw5; exact (h94.far (by omega) _ _).far (by omega) _ _)
      have h105 : SixF w5 (b7 + 1 + 1 + 1) R0 S0 R1 S1 0 0 := (by subst hw5; exact (h104.far (by omega) _ _).far (by omega) _ _)
      have hD5 : PtAt w5 b7 A B := (by subst hw5; exact (hD4.far (by omega) _ _).far (by omega) _ _)
      clear hw5 h84 h94 h104 hD4 hT4 f0 f1 p0 p1 p2 p3 p4 p5 p6
      have h8c := h85; obtain ⟨⟨p0, p1, p2, p3, p4, p5, p6⟩, pF⟩ := h8c
      have hDc := hD5; obtain ⟨d0, d1, d2⟩ := hDc
      go_region_held3 (fun w' => w'.cell? ⟨b7 + 1, 4, none⟩ = some (.int .i64 X2) ∧ w'.cell? ⟨b7 + 1, 5, none⟩ = some (.int .i64 Y2) ∧ w'.cell? ⟨b7, 0, none⟩ = some (.int .i64 A) ∧ w'.cell? ⟨b7, 1, none⟩ = some (.int .i64 B)) ((refine ⟨?_, ?_, ?_, ?_⟩ <;> (first | assumption | (rw [cell_set, if_neg (by omega), cell_set, if_neg (by omega)]; assumption)))) ((go_at_call 32; (with_reducible refine (m2.out _).mono ?_); rintro e w6 ⟨rfl, hS6⟩; have hW6 : Since w5 w6 := (by (repeat (first | with_reducible (exact Since.refl _) | with_reducible assumption | with_reducible (refine Since.drew ?_) | with_reducible (refine Since.drewN ?_ _) | with_reducible (refine Since.alloc ?_ _) | (with_reducible (refine Since.setCell ?_ ?_ _); rotate_left; focus (first | (simp; done) | (simp; omega) | omega)) | (with_reducible (refine Since.trans ?_ (by with_reducible assumption)))))); have h86 := h85.since hW6; have h96 := h95.since hW6; have h106 := h105.since hW6; have hD6 := hD5.since hW6; have hT6 := hT5.trans hW6; have h9c := h96; obtain ⟨⟨g0, g1, g2, g3, g4, g5, g6⟩, gF⟩ := h9c; have f0 := gF 4; have f1 := gF 5; have h8d := h86; obtain ⟨⟨e0, e1, e2, e3, e4, e5, e6⟩, eF⟩ := h8d; have hDd := hD6; obtain ⟨i0, i1, i2⟩ := hDd; clear gF eF))
      all_goals (rename_i hHeld; clear hHeld)
      clear h85 h95 h105 hD5 hT5 p0 p1 p2 p3 p4 p5 p6 d0 d1 d2
      go_wp2_with (go_at_call 24; (with_reducible refine (q2.out _).mono ?_); rintro e w8 ⟨rfl, hS8⟩; have hW8 : Since ((w6.setCell ⟨b7 + 1 + 1, 4, none⟩ (.int .i64 U2)).setCell ⟨b7 + 1 + 1, 5, none⟩ (.int .i64 V2)) w8 := (by (repeat (first | with_reducible (exact Since.refl _) | with_reducible assumption | with_reducible (refine Since.drew ?_) | with_reducible (refine Since.drewN ?_ _) | with_reducible (refine Since.alloc ?_ _) | (with_reducible (refine Since.setCell ?_ ?_ _); rotate_left; focus (first | (simp; done) | (simp; omega) | omega)) | (with_reducible (refine Since.trans ?_ (by with_reducible assumption)))))); have h88 : SixF w8 (b7 + 1) X0 Y0 X1 Y1 X2 Y2 := (((h86.far (by omega) _ _).far (by omega) _ _).since hW8); have h98 : SixF w8 (b7 + 1 + 1) U0 V0 U1 V1 U2 V2 := (h96.put2 _ _).since hW8; have h108 : SixF w8 (b7 + 1 + 1 + 1) R0 S0 R1 S1 0 0 := (((h106.far (by omega) _ _).far (by omega) _ _).since hW8); have hD8 : PtAt w8 b7 A B := (((hD6.far (by omega) _ _).far (by omega) _ _).since hW8); have hT8 : Since w w8 := (by (repeat (first | with_reducible (exact Since.refl _) | with_reducible assumption | with_reducible (refine Since.drew ?_) | with_reducible (refine Since.drewN ?_ _) | with_reducible (refine Since.alloc ?_ _) | (with_reducible (refine Since.setCell ?_ ?_ _); rotate_left; focus (first | (simp; done) | (simp; omega) | omega)) | (with_reducible (refine Since.trans ?_ (by with_reducible assumption)))))); have h10c := h108; obtain ⟨⟨j0, j1, j2, j3, j4, j5, j6⟩, jF⟩ := h10c; have f2 := jF 4; have f3 := jF 5; clear jF)
      refine ⟨⟨3, 3, by omega, rfl, by first | rfl | simp, ?_, (hD8.far (by omega) _ _).far (by omega) _ _, (h88.far (by omega) _ _).far (by omega) _ _, (h98.far (by omega) _ _).far (by omega) _ _, h108.put2 _ _⟩, by simp [intOf]⟩
      (repeat (first | with_reducible (exact Since.refl _) | with_reducible assumption | with_reducible (refine Since.drew ?_) | with_reducible (refine Since.drewN ?_ _) | with_reducible (refine Since.alloc ?_ _) | (with_reducible (refine Since.setCell ?_ ?_ _); rotate_left; focus (first | (simp; done) | (simp; omega) | omega)) | (with_reducible (refine Since.trans ?_ (by with_reducible assumption)))))
    · obtain rfl : z = 3 := hz
      clear hk
      change SixF wr (b7 + 1) X0 Y0 X1 Y1 X2 Y2 at h8
      change SixF wr (b7 + 1 + 1) U0 V0 U1 V1 U2 V2 at h9
      change SixF wr (b7 + 1 + 1 + 1) R0 S0 R1 S1 R2 S2 at h10
      have h8c := h8; obtain ⟨⟨p0, p1, p2, p3, p4, p5, p6⟩, pF⟩ := h8c
      have h9c := h9; obtain ⟨⟨g0, g1, g2, g3, g4, g5, g6⟩, gF⟩ := h9c
      have h10c := h10; obtain ⟨⟨j0, j1, j2, j3, j4, j5, j6⟩, jF⟩ := h10c
      clear pF gF jF hD
      go_wp2_with (first | (go_at_call 23; (with_reducible refine (t1.out _).mono ?_); rintro e wz ⟨rfl, hS⟩; have h8z := h8.since hS; have h9z := h9.since hS; have h10z := h10.since hS; have hTz := hSr.trans hS; clear h8 h9 h10 hSr hS; clear p0 p1 p2 p3 p4 p5 p6 g0 g1 g2 g3 g4 g5 g6 j0 j1 j2 j3 j4 j5 j6; have h8 := h8z; have h9 := h9z; have h10 := h10z; have hSr := hTz; clear h8z h9z h10z hTz; have h8c := h8; obtain ⟨⟨p0, p1, p2, p3, p4, p5, p6⟩, pF⟩ := h8c; have h9c := h9; obtain ⟨⟨g0, g1, g2, g3, g4, g5, g6⟩, gF⟩ := h9c; have h10c := h10; obtain ⟨⟨j0, j1, j2, j3, j4, j5, j6⟩, jF⟩ := h10c; clear pF gF jF) | (go_at_call 23; (with_reducible refine (t2.out _).mono ?_); rintro e wz ⟨rfl, hS⟩; have h8z := h8.since hS; have h9z := h9.since hS; have h10z := h10.since hS; have hTz := hSr.trans hS; clear h8 h9 h10 hSr hS; clear p0 p1 p2 p3 p4 p5 p6 g0 g1 g2 g3 g4 g5 g6 j0 j1 j2 j3 j4 j5 j6; have h8 := h8z; have h9 := h9z; have h10 := h10z; have hSr := hTz; clear h8z h9z h10z hTz; have h8c := h8; obtain ⟨⟨p0, p1, p2, p3, p4, p5, p6⟩, pF⟩ := h8c; have h9c := h9; obtain ⟨⟨g0, g1, g2, g3, g4, g5, g6⟩, gF⟩ := h9c; have h10c := h10; obtain ⟨⟨j0, j1, j2, j3, j4, j5, j6⟩, jF⟩ := h10c; clear pF gF jF) | (go_at_call 23; (with_reducible refine (t3.out _).mono ?_); rintro e wz ⟨rfl, hS⟩; have h8z := h8.since hS; have h9z := h9.since hS; have h10z := h10.since hS; have hTz := hSr.trans hS; clear h8 h9 h10 hSr hS; clear p0 p1 p2 p3 p4 p5 p6 g0 g1 g2 g3 g4 g5 g6 j0 j1 j2 j3 j4 j5 j6; have h8 := h8z; have h9 := h9z; have h10 := h10z; have hSr := hTz; clear h8z h9z h10z hTz; have h8c := h8; obtain ⟨⟨p0, p1, p2, p3, p4, p5, p6⟩, pF⟩ := h8c; have h9c := h9; obtain ⟨⟨g0, g1, g2, g3, g4, g5, g6⟩, gF⟩ := h9c; have h10c := h10; obtain ⟨⟨j0, j1, j2, j3, j4, j5, j6⟩, jF⟩ := h10c; clear pF gF jF) | (go_at_call 23; (with_reducible refine (t4.out _).mono ?_); rintro e wz ⟨rfl, hS⟩; have h8z := h8.since hS; have h9z := h9.since hS; have h10z := h10.since hS; have hTz := hSr.trans hS; clear h8 h9 h10 hSr hS; clear p0 p1 p2 p3 p4 p5 p6 g0 g1 g2 g3 g4 g5 g6 j0 j1 j2 j3 j4 j5 j6; have h8 := h8z; have h9 := h9z; have h10 := h10z; have hSr := hTz; clear h8z h9z h10z hTz; have h8c := h8; obtain ⟨⟨p0, p1, p2, p3, p4, p5, p6⟩, pF⟩ := h8c; have h9c := h9; obtain ⟨⟨g0, g1, g2, g3, g4, g5, g6⟩, gF⟩ := h9c; have h10c := h10; obtain ⟨⟨j0, j1, j2, j3, j4, j5, j6⟩, jF⟩ := h10c; clear pF gF jF) | (go_at_call 23; (with_reducible refine (t5.out _).mono ?_); rintro e wz ⟨rfl, hS⟩; have h8z := h8.since hS; have h9z := h9.since hS; have h10z := h10.since hS; have hTz := hSr.trans hS; clear h8 h9 h10 hSr hS; clear p0 p1 p2 p3 p4 p5 p6 g0 g1 g2 g3 g4 g5 g6 j0 j1 j2 j3 j4 j5 j6; have h8 := h8z; have h9 := h9z; have h10 := h10z; have hSr := hTz; clear h8z h9z h10z hTz; have h8c := h8; obtain ⟨⟨p0, p1, p2, p3, p4, p5, p6⟩, pF⟩ := h8c; have h9c := h9; obtain ⟨⟨g0, g1, g2, g3, g4, g5, g6⟩, gF⟩ := h9c; have h10c := h10; obtain ⟨⟨j0, j1, j2, j3, j4, j5, j6⟩, jF⟩ := h10c; clear pF gF jF))
      go_ret
      exact ⟨by first | rfl | simp, hSr⟩
end Go.Proofs.Ytbbbojhncfdbdaa
