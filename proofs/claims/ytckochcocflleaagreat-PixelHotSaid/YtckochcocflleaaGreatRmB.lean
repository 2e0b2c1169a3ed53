/-
  Layer 15's document: products of two ints, the pixel of a share, walked.
-/
import Derived.Test.YtckochcocflleaaGreatRmA
import Derived.Test.YtckochcocflleaaGreatMgO
namespace Go.Proofs.YtckochcocflleaaGreat
open Go.RowKit
set_option linter.unusedVariables false

theorem cells8 {w : World} {b : Nat} {f : Nat → Int} (h : Row w b 8 (fun j => .int .u32 (f j))) : w.cell? ⟨b, 0, none⟩ = some (.int .u32 (f 0)) ∧ w.cell? ⟨b, 1, none⟩ = some (.int .u32 (f 1)) ∧ w.cell? ⟨b, 2, none⟩ = some (.int .u32 (f 2)) ∧ w.cell? ⟨b, 3, none⟩ = some (.int .u32 (f 3)) ∧ w.cell? ⟨b, 4, none⟩ = some (.int .u32 (f 4)) ∧ w.cell? ⟨b, 5, none⟩ = some (.int .u32 (f 5)) ∧ w.cell? ⟨b, 6, none⟩ = some (.int .u32 (f 6)) ∧ w.cell? ⟨b, 7, none⟩ = some (.int .u32 (f 7)) ∧ b < w.heap.size :=
  ⟨h.1 0 (by omega), h.1 1 (by omega), h.1 2 (by omega), h.1 3 (by omega), h.1 4 (by omega), h.1 5 (by omega), h.1 6 (by omega), h.1 7 (by omega), h.2.2⟩
theorem froz8 {w : World} {b n : Nat} {f : Nat → Value} (h : Row w b n f) : w.frozen? ⟨b, 0, none⟩ = false ∧ w.frozen? ⟨b, 1, none⟩ = false ∧ w.frozen? ⟨b, 2, none⟩ = false ∧ w.frozen? ⟨b, 3, none⟩ = false ∧ w.frozen? ⟨b, 4, none⟩ = false ∧ w.frozen? ⟨b, 5, none⟩ = false ∧ w.frozen? ⟨b, 6, none⟩ = false ∧ w.frozen? ⟨b, 7, none⟩ = false :=
  ⟨h.2.1 0, h.2.1 1, h.2.1 2, h.2.1 3, h.2.1 4, h.2.1 5, h.2.1 6, h.2.1 7⟩
theorem row8z (w : World) (b : Nat) (hb : b = w.heap.size) (t : TypeId) : Row (w.alloc (.cells #[.int .u32 0, .int .u32 0, .int .u32 0, .int .u32 0, .int .u32 0, .int .u32 0, .int .u32 0, .int .u32 0] t)) b 8 (fun j => .int .u32 ((fun _ => 0) j)) := row8 w b hb t (fun _ => 0)
set_option maxRecDepth 100000 in
set_option maxHeartbeats 4000000 in
theorem rf15_times (a b : Int) (ha : InW a) (hb : InW b) (w : World) :
    Calls Tryz.prog 49 #[.int .i64 a, .int .i64 b] w fun e w' => e = .returned (D (a * b)) ∧ Since w w' := by
  have H1 := Lib.hid (fun w => ref_small a ha w); have H2 := Lib.hid (fun w => ref_small b hb w); have H3 := Lib.hid (fun w => ref_mul a b w)
  have HZ := Lib.hid (fun w b hb t => row8z w b hb t)
  clear ha hb
  generalize a * b = P at *
  have tok1 := True.intro
  go_enter Tryz.func49, Tryz.ntmps49
  go_wp2_with (first | (go_at_call 47; have _t := tok1; (with_reducible refine (H1.out _).mono ?_); rintro e w1 ⟨rfl, hS1⟩; have hR1 := (HZ.out w _ rfl _).since hS1; have hT1 : Since w w1 := (by (repeat (first | with_reducible (exact Since.refl _) | with_reducible assumption | with_reducible (refine Since.drew ?_) | with_reducible (refine Since.drewN ?_ _) | with_reducible (refine Since.alloc ?_ _) | (with_reducible (refine Since.setCell ?_ ?_ _); rotate_left; focus (first | (simp; done) | (simp; omega) | omega)) | (with_reducible (refine Since.trans ?_ (by with_reducible assumption)))))); clear hS1 tok1) | (go_at_call 47; (with_reducible refine (H2.out _).mono ?_); rintro e w2 ⟨rfl, hS2⟩; have hR2 := hR1.since hS2; have hT2 := hT1.trans hS2; clear hS2 hR1 hT1) | (go_at_call 74; (with_reducible refine (H3.out _).mono ?_); rintro e w3 ⟨rfl, hS3⟩; have hR3 := hR2.since hS3; have hT3 := hT2.trans hS3; clear hS3 hR2 hT2; obtain ⟨c0, c1, c2, c3, c4, c5, c6, c7, c8⟩ := cells8 hR3; obtain ⟨f0, f1, f2, f3, f4, f5, f6, f7⟩ := froz8 hR3))
  refine bodyPost_ret (by simp only [results, Tryz.results49]; go_simp) rfl ⟨rfl, ?_⟩
  (repeat (first | with_reducible (exact Since.refl _) | with_reducible assumption | with_reducible (refine Since.drew ?_) | with_reducible (refine Since.drewN ?_ _) | with_reducible (refine Since.alloc ?_ _) | (with_reducible (refine Since.setCell ?_ ?_ _); rotate_left; focus (first | (simp; done) | (simp; omega) | omega)) | (with_reducible (refine Since.trans ?_ (by with_reducible assumption)))))
theorem mid_lo {x d : Int} (h : ShOK x d) : IntKind.i64.wrap (loH (midI x d)) = midI x d := by
  have := mid_in h
  unfold loH
  rw [IntKind.wrap_i64]
  omega
set_option maxRecDepth 100000 in
set_option maxHeartbeats 8000000 in
theorem rf15_middle (x d : Int) (h : ShOK x d) (w : World) :
    Calls Tryz.prog 50 #[D x, .int .i64 d] w fun e w' => e = .returned (.int .i64 (midI x d)) ∧ Since w w' := by
  have hw := mid_lo h
  obtain ⟨h0, h1, h2, h3⟩ := h
  have ht := fun w => rf15_times 32 d (by unfold InW; omega) (by unfold InW; omega) w
  have ha := fun w => ref_add x (32 * d) w
  have hd := fun w => ref_div (x + 32 * d) (64 * d) (by unfold In128; omega) (by unfold InW; omega) (by omega) w
  have u1 : IntKind.i64.wrap (64 * d) = 64 * d := IntWalk.i64_in _ (by omega)
  have em : (x + 32 * d) / (64 * d) = midI x d := rfl
  rw [em] at hd
  have hh := fun w => ref_halvesA (midI x d) w
  generalize midI x d = q at *
  generalize (x + 32 * d) % (64 * d) = r at *
  generalize loH q = lo at *
  generalize wrap64 (hiH q) = hi at *
  have HT := Lib.hid ht; have HA := Lib.hid ha; have HD := Lib.hid hd; have HH := Lib.hid hh
  have HX := Lib.hid (fun w b hb t => row8 w b hb t (dg x))
  clear ht ha hd hh em h0 h1 h2 h3
  go_enter Tryz.func50, Tryz.ntmps50
  go_upto_region 1 with fail
  refine wp_named fun wa hwa => ?_
  have hRa : Row wa w.heap.size 8 (fun j => .int .u32 (dg x j)) := by subst hwa; exact HX.out w _ rfl _
  have hTa : Since w wa := by subst hwa; (repeat (first | with_reducible (exact Since.refl _) | with_reducible assumption | with_reducible (refine Since.drew ?_) | with_reducible (refine Since.drewN ?_ _) | with_reducible (refine Since.alloc ?_ _) | (with_reducible (refine Since.setCell ?_ ?_ _); rotate_left; focus (first | (simp; done) | (simp; omega) | omega)) | (with_reducible (refine Since.trans ?_ (by with_reducible assumption)))))
  clear hwa
  obtain ⟨c0, c1, c2, c3, c4, c5, c6, c7, c8⟩ := cells8 hRa
  have HZ := Lib.hid (fun w b hb t => row8z w b hb t)
  go_cut [5] (fun v wx => ∃ b : Nat, v = .pointer (some ⟨b, 0, none⟩) ∧ Since wa wx ∧ Row wx b 8 (fun j => .int .u32 (dg q j)))
  case first =>
    (refine wp_named fun wr1 hwr1 => ?_; go_region_held3 (fun w' => (∀ b o, b < wr1.heap.size → w'.cell? ⟨b, o, none⟩ = wr1.cell? ⟨b, o, none⟩) ∧ (∀ b o, b < wr1.heap.size → w'.frozen? ⟨b, o, none⟩ = wr1.frozen? ⟨b, o, none⟩) ∧ (∀ k, k < wr1.heap.size → k < w'.heap.size) ∧ Below wr1.heap.size wr1 w') ((subst hwr1; (repeat (with_reducible (refine since_put ?_ ?_ _); rotate_left; focus (first | (simp; done) | (simp; omega) | omega))); first | with_reducible assumption | (refine since_step (by with_reducible assumption) ?_; first | with_reducible assumption | ((repeat (first | with_reducible (exact Since.refl _) | with_reducible assumption | with_reducible (refine Since.drew ?_) | with_reducible (refine Since.drewN ?_ _) | with_reducible (refine Since.alloc ?_ _) | (with_reducible (refine Since.setCell ?_ ?_ _); rotate_left; focus (first | (simp; done) | (simp; omega) | omega)))); done)) | (refine since_step (Since.refl _) ?_; first | with_reducible assumption | ((repeat (first | with_reducible (exact Since.refl _) | with_reducible assumption | with_reducible (refine Since.drew ?_) | with_reducible (refine Since.drewN ?_ _) | with_reducible (refine Since.alloc ?_ _) | (with_reducible (refine Since.setCell ?_ ?_ _); rotate_left; focus (first | (simp; done) | (simp; omega) | omega)) | (with_reducible (refine Since.trans ?_ (by with_reducible assumption))))); done)))) (first | (go_at_call 49; (with_reducible refine (HT.out _).mono ?_); rintro e w5 ⟨rfl, hS5⟩; have hZ5 := hS5.below.size; (try simp at hZ5); (try (first | (have rN := Row.since rN hS5) | (have rN := (HZ.out _ _ rfl _).since hS5) | (have rN := ((HZ.out _ _ rfl _).drew).since hS5)))) | (go_at_call 48; (with_reducible refine (HA.out _).mono ?_); rintro e w6 ⟨rfl, hS6⟩; have hZ6 := hS6.below.size; (try simp at hZ6); (try (first | (have rN := Row.since rN hS6) | (have rN := (HZ.out _ _ rfl _).since hS6) | (have rN := ((HZ.out _ _ rfl _).drew).since hS6)))) | (go_at_call 75; (with_reducible refine (HD.out _).mono ?_); rintro e w7 ⟨rfl, hS7⟩; have hZ7 := hS7.below.size; (try simp at hZ7); (try (first | (have rN := Row.since rN hS7) | (have rN := (HZ.out _ _ rfl _).since hS7) | (have rN := ((HZ.out _ _ rfl _).drew).since hS7))); (try (have hN8 := cells8 rN; have hF8 := froz8 rN; obtain ⟨n0, n1, n2, n3, n4, n5, n6, n7, n8⟩ := hN8; obtain ⟨k0, k1, k2, k3, k4, k5, k6, k7⟩ := hF8)))); all_goals (rename_i hHeld; have hR1 : Since wr1 _ := hHeld; obtain ⟨hcR1, hfR1, hzR1, hbR1⟩ := hHeld; subst hwr1))
    all_goals (go_wp2_with fail)
    all_goals go_meet
    all_goals refine ⟨_, rfl, ?_, ?_⟩
    any_goals ((show Since _ _); (repeat (first | with_reducible (exact Since.refl _) | with_reducible assumption | with_reducible (refine Since.drew ?_) | with_reducible (refine Since.drewN ?_ _) | with_reducible (refine Since.alloc ?_ _) | (with_reducible (refine Since.setCell ?_ ?_ _); rotate_left; focus (first | (simp; done) | (simp; omega) | omega)) | (with_reducible (refine Since.trans ?_ (by with_reducible assumption))))); done)
    all_goals first | with_reducible exact row8 _ _ rfl _ (dg q) | with_reducible exact row8_put rN (dg q)
  obtain ⟨b, rfl, hSc, hRc⟩ := hcut
  have hTc := hTa.trans hSc
  clear hRa hTa hSc c0 c1 c2 c3 c4 c5 c6 c7 c8
  obtain ⟨c0, c1, c2, c3, c4, c5, c6, c7, c8⟩ := cells8 hRc
  go_wp2_with (go_at_call 76; (with_reducible refine (HH.out _).mono ?_); rintro e w8 ⟨rfl, hS8⟩; have hT8 := hTc.trans hS8)
  go_ret
  exact ⟨by first | rfl | simp, hT8⟩
/-- What two lines have in common, as the document has it. -/
def RP (p : Cp) : Value := .agg #[.int .i64 p.k, .int .u32 (dg p.x 0), .int .u32 (dg p.x 1), .int .u32 (dg p.x 2), .int .u32 (dg p.x 3), .int .u32 (dg p.x 4), .int .u32 (dg p.x 5), .int .u32 (dg p.x 6), .int .u32 (dg p.x 7), .int .u32 (dg p.y 0), .int .u32 (dg p.y 1), .int .u32 (dg p.y 2), .int .u32 (dg p.y 3), .int .u32 (dg p.y 4), .int .u32 (dg p.y 5), .int .u32 (dg p.y 6), .int .u32 (dg p.y 7), .int .i64 p.d]
def RPf (p : Cp) (j : Nat) : Value := if j = 0 then .int .i64 p.k else if j < 9 then .int .u32 (dg p.x (j - 1)) else if j < 17 then .int .u32 (dg p.y (j - 9)) else .int .i64 p.d
theorem rprow (w : World) (b : Nat) (hb : b = w.heap.size) (t : TypeId) (p : Cp) : Row (w.alloc (.cells #[.int .i64 p.k, .int .u32 (dg p.x 0), .int .u32 (dg p.x 1), .int .u32 (dg p.x 2), .int .u32 (dg p.x 3), .int .u32 (dg p.x 4), .int .u32 (dg p.x 5), .int .u32 (dg p.x 6), .int .u32 (dg p.x 7), .int .u32 (dg p.y 0), .int .u32 (dg p.y 1), .int .u32 (dg p.y 2), .int .u32 (dg p.y 3), .int .u32 (dg p.y 4), .int .u32 (dg p.y 5), .int .u32 (dg p.y 6), .int .u32 (dg p.y 7), .int .i64 p.d] t)) b 18 (RPf p) := by
  subst hb
  refine Row.of_cells fun j hj => ?_
  have h : j = 0 ∨ j = 1 ∨ j = 2 ∨ j = 3 ∨ j = 4 ∨ j = 5 ∨ j = 6 ∨ j = 7 ∨ j = 8 ∨ j = 9 ∨ j = 10 ∨ j = 11 ∨ j = 12 ∨ j = 13 ∨ j = 14 ∨ j = 15 ∨ j = 16 ∨ j = 17 := by omega
  rcases h with rfl | rfl | rfl | rfl | rfl | rfl | rfl | rfl | rfl | rfl | rfl | rfl | rfl | rfl | rfl | rfl | rfl | rfl <;> rfl
theorem rpcells {w : World} {b : Nat} {p : Cp} (h : Row w b 18 (RPf p)) :
    w.cell? ⟨b, 0, none⟩ = some (.int .i64 p.k) ∧ w.cell? ⟨b, 1, none⟩ = some (.int .u32 (dg p.x 0)) ∧ w.cell? ⟨b, 2, none⟩ = some (.int .u32 (dg p.x 1)) ∧ w.cell? ⟨b, 3, none⟩ = some (.int .u32 (dg p.x 2)) ∧ w.cell? ⟨b, 4, none⟩ = some (.int .u32 (dg p.x 3)) ∧ w.cell? ⟨b, 5, none⟩ = some (.int .u32 (dg p.x 4)) ∧ w.cell? ⟨b, 6, none⟩ = some (.int .u32 (dg p.x 5)) ∧ w.cell? ⟨b, 7, none⟩ = some (.int .u32 (dg p.x 6)) ∧ w.cell? ⟨b, 8, none⟩ = some (.int .u32 (dg p.x 7)) ∧
    w.cell? ⟨b, 9, none⟩ = some (.int .u32 (dg p.y 0)) ∧ w.cell? ⟨b, 10, none⟩ = some (.int .u32 (dg p.y 1)) ∧ w.cell? ⟨b, 11, none⟩ = some (.int .u32 (dg p.y 2)) ∧ w.cell? ⟨b, 12, none⟩ = some (.int .u32 (dg p.y 3)) ∧ w.cell? ⟨b, 13, none⟩ = some (.int .u32 (dg p.y 4)) ∧ w.cell? ⟨b, 14, none⟩ = some (.int .u32 (dg p.y 5)) ∧ w.cell? ⟨b, 15, none⟩ = some (.int .u32 (dg p.y 6)) ∧ w.cell? ⟨b, 16, none⟩ = some (.int .u32 (dg p.y 7)) ∧ w.cell? ⟨b, 17, none⟩ = some (.int .i64 p.d) ∧ b < w.heap.size :=
  ⟨h.1 0 (by omega), h.1 1 (by omega), h.1 2 (by omega), h.1 3 (by omega), h.1 4 (by omega), h.1 5 (by omega), h.1 6 (by omega), h.1 7 (by omega), h.1 8 (by omega), h.1 9 (by omega), h.1 10 (by omega), h.1 11 (by omega), h.1 12 (by omega), h.1 13 (by omega), h.1 14 (by omega), h.1 15 (by omega), h.1 16 (by omega), h.1 17 (by omega), h.2.2⟩
set_option maxRecDepth 100000 in
set_option maxHeartbeats 8000000 in
theorem rf15_pixel (p : Cp) (hx : ShOK p.x p.d) (hy : ShOK p.y p.d) (w : World) :
    Calls Tryz.prog 25 #[RP p] w fun e w' => e = .returned (Pt (midI p.x p.d) (midI p.y p.d)) ∧ Since w w' := by
  have H1 := Lib.hid (fun w => rf15_middle p.x p.d hx w)
  have H2 := Lib.hid (fun w => rf15_middle p.y p.d hy w)
  have HN := Lib.hid (fun w b hb t => rprow w b hb t p)
  obtain ⟨k, x, y, d⟩ := p
  simp only at H1 H2 HN hx hy ⊢
  unfold RP Pt
  simp only
  generalize midI x d = X at *
  generalize midI y d = Y at *
  clear hx hy
  have tok1 := True.intro
  have tok2 := True.intro
  go_enter Tryz.func25, Tryz.ntmps25
  go_upto_region 1 with fail
  refine wp_named fun wa hwa => ?_
  have hRa : Row wa w.heap.size 18 (RPf ⟨k, x, y, d⟩) := by subst hwa; exact (HN.out w _ rfl _).alloc _
  have hPa : Row wa (w.heap.size + 1) 2 (Pf 0 0) := by subst hwa; exact prow _ _ (by simp) _ 0 0
  have hTa : Since w wa := by subst hwa; (repeat (first | with_reducible (exact Since.refl _) | with_reducible assumption | with_reducible (refine Since.drew ?_) | with_reducible (refine Since.drewN ?_ _) | with_reducible (refine Since.alloc ?_ _) | (with_reducible (refine Since.setCell ?_ ?_ _); rotate_left; focus (first | (simp; done) | (simp; omega) | omega)) | (with_reducible (refine Since.trans ?_ (by with_reducible assumption)))))
  clear hwa HN
  obtain ⟨c0, c1, c2, c3, c4, c5, c6, c7, c8, c9, c10, c11, c12, c13, c14, c15, c16, c17, c18⟩ := rpcells hRa
  obtain ⟨p1, p2, p3⟩ := pcells hPa
  have f0 := hPa.2.1 0; have f1 := hPa.2.1 1
  simp only at c0 c1 c2 c3 c4 c5 c6 c7 c8 c9 c10 c11 c12 c13 c14 c15 c16 c17
  (refine wp_named fun wr1 hwr1 => ?_; go_region_held3 (fun w' => (∀ b o, b < wr1.heap.size → b ≠ (w.heap.size + 1) → w'.cell? ⟨b, o, none⟩ = wr1.cell? ⟨b, o, none⟩) ∧ (∀ b o, b < wr1.heap.size → w'.frozen? ⟨b, o, none⟩ = wr1.frozen? ⟨b, o, none⟩) ∧ (∀ k, k < wr1.heap.size → k < w'.heap.size) ∧ Since w w' ∧ (∀ o, o < 2 → w'.cell? ⟨(w.heap.size + 1), o, none⟩ = some (cellD w' ((w.heap.size + 1)) o))) ((subst hwr1; (repeat with_reducible (refine sx_set (by omega) ?_ _ _)); first | with_reducible assumption | (refine sx_step (by first | assumption | omega | (simp; done) | (simp; omega)) (by with_reducible assumption) ?_; first | with_reducible assumption | (repeat (first | with_reducible (exact Since.refl _) | with_reducible assumption | with_reducible (refine Since.drew ?_) | with_reducible (refine Since.drewN ?_ _) | with_reducible (refine Since.alloc ?_ _) | (with_reducible (refine Since.setCell ?_ ?_ _); rotate_left; focus (first | (simp; done) | (simp; omega) | omega))))) | (refine sx_step (by first | assumption | omega | (simp; done) | (simp; omega)) (sx_start (by (repeat (first | with_reducible (exact Since.refl _) | with_reducible assumption | with_reducible (refine Since.drew ?_) | with_reducible (refine Since.drewN ?_ _) | with_reducible (refine Since.alloc ?_ _) | (with_reducible (refine Since.setCell ?_ ?_ _); rotate_left; focus (first | (simp; done) | (simp; omega) | omega)) | (with_reducible (refine Since.trans ?_ (by with_reducible assumption)))))) (fun o ho => by (have ho' : o = 0 ∨ o = 1 := by omega); rcases ho' with rfl | rfl <;> (first | (simp [go_sem]; done) | simp_all))) ?_; first | with_reducible assumption | (repeat (first | with_reducible (exact Since.refl _) | with_reducible assumption | with_reducible (refine Since.drew ?_) | with_reducible (refine Since.drewN ?_ _) | with_reducible (refine Since.alloc ?_ _) | (with_reducible (refine Since.setCell ?_ ?_ _); rotate_left; focus (first | (simp; done) | (simp; omega) | omega))))))) (first | (go_at_call 50; have _t := tok1; (with_reducible refine (H1.out _).mono ?_); rintro e w1 ⟨rfl, hS⟩; have hZ := hS.below.size; (try simp at hZ); clear tok1) | (go_at_call 50; have _t := tok2; (with_reducible refine (H2.out _).mono ?_); rintro e w1 ⟨rfl, hS⟩; have hZ := hS.below.size; (try simp at hZ); clear tok2)); all_goals (rename_i hHeld; obtain ⟨hcR1, hfR1, hzR1, hR1, hoR1⟩ := hHeld; have hiR := fun o ho => there_of (hoR1 o ho); (try simp only [there_set] at hiR); clear hoR1; subst hwr1))
  all_goals go_wp2_with fail
  all_goals (refine bodyPost_ret (by simp only [results, Tryz.results25]; go_simp) rfl ⟨rfl, ?_⟩)
  all_goals ((repeat (first | with_reducible (exact Since.refl _) | with_reducible assumption | with_reducible (refine Since.drew ?_) | with_reducible (refine Since.drewN ?_ _) | with_reducible (refine Since.alloc ?_ _) | (with_reducible (refine Since.setCell ?_ ?_ _); rotate_left; focus (first | (simp; done) | (simp; omega) | omega)) | (with_reducible (refine Since.trans ?_ (by with_reducible assumption))))))
end Go.Proofs.YtckochcocflleaaGreat
