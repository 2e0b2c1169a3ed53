/-
  Texts of this seat, put together: each with its own head.
-/
import Derived.Test.YtckochcocflleaaPqBz

/-
  Layer 16: the law PixelBack, walked.
-/
namespace Go.Proofs.Ytckochcocflleaa
open Go.RowKit
set_option linter.unusedVariables false

def I16 (z : Int) : Prop := -32768 ≤ z ∧ z ≤ 32767
def Two16 (w : World) (b : Nat) (p q : Int) : Prop := w.cell? ⟨b, 0, none⟩ = some (.int .i16 p) ∧ w.cell? ⟨b, 1, none⟩ = some (.int .i16 q) ∧ b < w.heap.size
section
variable {w w' : World} {b : Nat} {p q : Int}
theorem Two16.since (h : Two16 w b p q) (k : Since w w') : Two16 w' b p q := ⟨(k.1 _ _ h.2.2).trans h.1, (k.1 _ _ h.2.2).trans h.2.1, k.2.2.1 _ h.2.2⟩
theorem Two16.drew (h : Two16 w b p q) : Two16 w.drew b p q := h
theorem Two16.alloc (h : Two16 w b p q) (o : Obj) : Two16 (w.alloc o) b p q := h.since ((Since.refl w).alloc o)
theorem two16_new (w : World) (b : Nat) (hb : b = w.heap.size) (p q : Int) (t : TypeId) : Two16 (w.alloc (.cells #[.int .i16 p, .int .i16 q] t)) b p q := by
  subst hb
  refine ⟨?_, ?_, by simp⟩ <;> (rw [World.cell?_alloc_new]; rfl)
end
theorem share_b {a b k : Int} (ha : I16 a) (hb : I16 b) (h0 : 0 ≤ k) (h1 : k ≤ 8) : (-262144 ≤ a * (8 - k) ∧ a * (8 - k) ≤ 262144) ∧ (-262144 ≤ b * k ∧ b * k ≤ 262144) ∧ (-262144 ≤ a * (8 - k) + b * k ∧ a * (8 - k) + b * k ≤ 262144) ∧ a * (8 - k) + b * k = a * 8 + k * (b - a) := by
  have hk : k = 0 ∨ k = 1 ∨ k = 2 ∨ k = 3 ∨ k = 4 ∨ k = 5 ∨ k = 6 ∨ k = 7 ∨ k = 8 := by omega
  unfold I16 at ha hb
  rcases hk with rfl | rfl | rfl | rfl | rfl | rfl | rfl | rfl | rfl <;> (refine ⟨?_, ?_, ?_, ?_⟩ <;> omega)
theorem lnG16 {a0 a1 b0 b1 : Int} (h1 : I16 a0) (h2 : I16 a1) (h3 : I16 b0) (h4 : I16 b1) : (goodB a0 a1 && goodB b0 b1) = true := by
  unfold I16 at *
  rw [goodB_iff.2 (by omega), goodB_iff.2 (by omega)]; rfl
theorem wf16 {a0 a1 b0 b1 : Int} (h1 : I16 a0) (h2 : I16 a1) (h3 : I16 b0) (h4 : I16 b1) : (⟨a0, a1, b0, b1⟩ : Ln).wf := by
  unfold I16 at *
  unfold Ln.wf InP In64
  simp only
  omega
theorem tdiv8 (n : Int) : (0 ≤ n ∧ n.tdiv 8 = n / 8 ∧ n.tmod 8 = n % 8) ∨ (n < 0 ∧ n.tdiv 8 = -(-n / 8) ∧ n.tmod 8 = -(-n % 8)) := by
  rcases Int.lt_or_le n 0 with h | h
  · right
    refine ⟨h, ?_, ?_⟩
    · have e := Int.neg_tdiv (a := -n) (b := 8)
      rw [Int.neg_neg] at e
      rw [e, Int.tdiv_eq_ediv_of_nonneg (by omega)]
    · have e := Int.neg_tmod (a := -n) (b := 8)
      rw [Int.neg_neg] at e
      rw [e, Int.tmod_eq_emod_of_nonneg (by omega)]
  · left
    exact ⟨h, Int.tdiv_eq_ediv_of_nonneg h, Int.tmod_eq_emod_of_nonneg h⟩
set_option maxHeartbeats 1000000 in
theorem rf_more16 (x y u v : Int) (hx : -600 ≤ x ∧ x ≤ 600) (hy : -600 ≤ y ∧ y ≤ 600) (hu : -32768 ≤ u ∧ u ≤ 32767) (hv : -32768 ≤ v ∧ v ≤ 32767) (w : World) :
    Calls Try.prog 28 #[Pt x y, Pt u v] w fun e w' => e = .returned (Pt (x + u) (y + v)) ∧ Since w w' := by
  unfold Pt
  go_enter Try.func28, Try.ntmps28
  go_wp2
  refine bodyPost_ret (by simp only [results, Try.results28]; go_simp) rfl ⟨rfl, ?_⟩
  (repeat (first | with_reducible (exact Since.refl _) | with_reducible assumption | with_reducible (refine Since.drew ?_) | with_reducible (refine Since.drewN ?_ _) | with_reducible (refine Since.alloc ?_ _) | (with_reducible (refine Since.setCell ?_ ?_ _); rotate_left; focus (first | (simp; done) | (simp; omega) | omega)) | (with_reducible (refine Since.trans ?_ (by with_reducible assumption)))))
/-- The pixel of a share of the way is hit. -/
theorem hit_share {a0 a1 b0 b1 k : Int} (h1 : I16 a0) (h2 : I16 a1) (h3 : I16 b0) (h4 : I16 b1) (k0 : 0 ≤ k) (k1 : k ≤ 8) (hx : (a0 * (8 - k) + b0 * k) % 8 = 0) (hy : (a1 * (8 - k) + b1 * k) % 8 = 0) :
    hitB ⟨a0, a1, b0, b1⟩ (pxI ((a0 * (8 - k) + b0 * k) / 8)) (pxI ((a1 * (8 - k) + b1 * k) / 8)) = true := by
  have e1 := share_b h1 h3 k0 k1
  have e2 := share_b h2 h4 k0 k1
  obtain ⟨_, _, r1, s1⟩ := e1
  obtain ⟨_, _, r2, s2⟩ := e2
  generalize a0 * (8 - k) + b0 * k = X at *
  generalize a1 * (8 - k) + b1 * k = Y at *
  unfold hitB
  rw [lnG16 h1 h2 h3 h4, (hit_iff _ _ _ _ _ _).2 (hit_at (p := k) (q := 8) (by omega) k0 k1 (by rw [← s1]; omega) (by rw [← s2]; omega)), pixG_iff.2 (by unfold pxI; omega)]
  rfl
theorem bool_iff_eq {a b : Bool} (h : a = true ↔ b = true) : a = b := by cases a <;> cases b <;> simp_all
theorem hitB_rev (a0 a1 b0 b1 x y : Int) : hitB ⟨b0, b1, a0, a1⟩ x y = hitB ⟨a0, a1, b0, b1⟩ x y := by
  unfold hitB
  simp only
  rw [Bool.and_comm (goodB b0 b1), bool_iff_eq ((hit_iff b0 b1 a0 a1 x y).trans ((hit_rev a0 a1 b0 b1 x y).trans (hit_iff a0 a1 b0 b1 x y).symm))]
theorem hitB_mv {a0 a1 b0 b1 x y d e : Int} (h1 : I16 a0) (h2 : I16 a1) (h3 : I16 b0) (h4 : I16 b1) (hd : I16 d) (he : I16 e) (hx : -600 ≤ x ∧ x ≤ 600) (hy : -600 ≤ y ∧ y ≤ 600) :
    hitB ⟨a0 + 64 * d, a1 + 64 * e, b0 + 64 * d, b1 + 64 * e⟩ (x + d) (y + e) = hitB ⟨a0, a1, b0, b1⟩ x y := by
  unfold hitB
  simp only
  rw [bool_iff_eq ((hit_iff (a0 + 64 * d) (a1 + 64 * e) (b0 + 64 * d) (b1 + 64 * e) (x + d) (y + e)).trans ((hit_mv a0 a1 b0 b1 x y d e).trans (hit_iff a0 a1 b0 b1 x y).symm))]
  unfold I16 at *
  rw [goodB_iff.2 (by omega), goodB_iff.2 (by omega), goodB_iff.2 (by omega), goodB_iff.2 (by omega), pixG_iff.2 (by omega), pixG_iff.2 (by omega)]
set_option maxRecDepth 1000000 in
set_option maxHeartbeats 16000000 in
theorem walk_pixelback (a0 a1 b0 b1 x y d0 d1 : Int) (h1 : I16 a0) (h2 : I16 a1) (h3 : I16 b0) (h4 : I16 b1) (h5 : In64 x) (h6 : In64 y) (h7 : I16 d0) (h8 : I16 d1) (w : World) :
    Calls Try.prog 6 #[.agg #[.int .i16 a0, .int .i16 a1, .int .i16 b0, .int .i16 b1, .int .i64 x, .int .i64 y, .int .i16 d0, .int .i16 d1]] w fun e w' => e = .returned (.bool true) ∧ Since w w' := by
  have HA := Lib.hid (fun w => alive16 w)
  have HLi := Lib.hid (fun a b c d w => law16_line a b c d w)
  have HHt := Lib.hid (fun x y w => px_hits ⟨a0, a1, b0, b1⟩ (wf16 h1 h2 h3 h4) x y w)
  unfold Ln.v Pt at HHt
  simp only at HHt
  have i1 := h1; have i2 := h2; have i3 := h3; have i4 := h4
  unfold I16 at i1 i2 i3 i4
  have v1 : IntKind.i64.wrap a0 = a0 := IntWalk.i64_in _ (by omega)
  have v2 : IntKind.i64.wrap a1 = a1 := IntWalk.i64_in _ (by omega)
  have v3 : IntKind.i64.wrap b0 = b0 := IntWalk.i64_in _ (by omega)
  have v4 : IntKind.i64.wrap b1 = b1 := IntWalk.i64_in _ (by omega)
  clear i1 i2 i3 i4
  go_enter Try.func6, Try.ntmps6
  go_upto_region 3 with (go_at_call 19; (with_reducible refine (HA.out _).mono ?_); rintro e w1 ⟨rfl, hS1⟩; have hT1 : Since w w1 := (by (repeat (first | with_reducible (exact Since.refl _) | with_reducible assumption | with_reducible (refine Since.drew ?_) | with_reducible (refine Since.drewN ?_ _) | with_reducible (refine Since.alloc ?_ _) | (with_reducible (refine Since.setCell ?_ ?_ _); rotate_left; focus (first | (simp; done) | (simp; omega) | omega)) | (with_reducible (refine Since.trans ?_ (by with_reducible assumption)))))))
  have c0 : w1.cell? ⟨w.heap.size, 0, none⟩ = some (.int .i16 a0) := (hS1.1 _ _ (by simp)).trans (by rw [World.cell?_alloc_new]; rfl)
  have c1 : w1.cell? ⟨w.heap.size, 1, none⟩ = some (.int .i16 a1) := (hS1.1 _ _ (by simp)).trans (by rw [World.cell?_alloc_new]; rfl)
  have c2 : w1.cell? ⟨w.heap.size, 2, none⟩ = some (.int .i16 b0) := (hS1.1 _ _ (by simp)).trans (by rw [World.cell?_alloc_new]; rfl)
  have c3 : w1.cell? ⟨w.heap.size, 3, none⟩ = some (.int .i16 b1) := (hS1.1 _ _ (by simp)).trans (by rw [World.cell?_alloc_new]; rfl)
  have c4 : w1.cell? ⟨w.heap.size, 4, none⟩ = some (.int .i64 x) := (hS1.1 _ _ (by simp)).trans (by rw [World.cell?_alloc_new]; rfl)
  have c5 : w1.cell? ⟨w.heap.size, 5, none⟩ = some (.int .i64 y) := (hS1.1 _ _ (by simp)).trans (by rw [World.cell?_alloc_new]; rfl)
  have c6 : w1.cell? ⟨w.heap.size, 6, none⟩ = some (.int .i16 d0) := (hS1.1 _ _ (by simp)).trans (by rw [World.cell?_alloc_new]; rfl)
  have c7 : w1.cell? ⟨w.heap.size, 7, none⟩ = some (.int .i16 d1) := (hS1.1 _ _ (by simp)).trans (by rw [World.cell?_alloc_new]; rfl)
  have cl : w.heap.size < w1.heap.size := hS1.2.2.1 _ (by simp)
  clear hS1
  go_cut [3, 4, 5, 6] (fun p q r s wx => ∃ bA bB bP bD, p = .pointer (some ⟨bA, 0, none⟩) ∧ q = .pointer (some ⟨bB, 0, none⟩) ∧ r = .pointer (some ⟨bP, 0, none⟩) ∧ s = .pointer (some ⟨bD, 0, none⟩) ∧ Two16 wx bA a0 a1 ∧ Two16 wx bB b0 b1 ∧ PtAt wx bP x y ∧ Two16 wx bD d0 d1 ∧ Since w wx)
  case first =>
    (refine wp_named fun wr3 hwr3 => ?_; go_region_held3 (fun w' => (∀ b o, b < wr3.heap.size → w'.cell? ⟨b, o, none⟩ = wr3.cell? ⟨b, o, none⟩) ∧ (∀ b o, b < wr3.heap.size → w'.frozen? ⟨b, o, none⟩ = wr3.frozen? ⟨b, o, none⟩) ∧ (∀ k, k < wr3.heap.size → k < w'.heap.size) ∧ Below wr3.heap.size wr3 w') ((subst hwr3; (repeat (with_reducible (refine since_put ?_ ?_ _); rotate_left; focus (first | (simp; done) | (simp; omega) | omega))); first | with_reducible assumption | (refine since_step (by with_reducible assumption) ?_; first | with_reducible assumption | ((repeat (first | with_reducible (exact Since.refl _) | with_reducible assumption | with_reducible (refine Since.drew ?_) | with_reducible (refine Since.drewN ?_ _) | with_reducible (refine Since.alloc ?_ _) | (with_reducible (refine Since.setCell ?_ ?_ _); rotate_left; focus (first | (simp; done) | (simp; omega) | omega)))); done)) | (refine since_step (Since.refl _) ?_; first | with_reducible assumption | ((repeat (first | with_reducible (exact Since.refl _) | with_reducible assumption | with_reducible (refine Since.drew ?_) | with_reducible (refine Since.drewN ?_ _) | with_reducible (refine Since.alloc ?_ _) | (with_reducible (refine Since.setCell ?_ ?_ _); rotate_left; focus (first | (simp; done) | (simp; omega) | omega)) | (with_reducible (refine Since.trans ?_ (by with_reducible assumption))))); done)))) (fail); all_goals (rename_i hHeld; have hR3 : Since wr3 _ := hHeld; obtain ⟨hcR3, hfR3, hzR3, hbR3⟩ := hHeld; subst hwr3))
    all_goals go_wp2_with fail
    all_goals go_meet
    all_goals exact ⟨_, _, _, _, rfl, rfl, rfl, rfl, (by repeat (first | with_reducible (exact two16_new _ _ (by first | rfl | (simp; done)) _ _ _) | with_reducible (refine Two16.drew ?_) | with_reducible (refine Two16.alloc ?_ _))), (by repeat (first | with_reducible (exact two16_new _ _ (by first | rfl | (simp; done)) _ _ _) | with_reducible (refine Two16.drew ?_) | with_reducible (refine Two16.alloc ?_ _))), (by repeat (first | with_reducible (exact pt_new _ _ (by first | rfl | (simp; done)) _ _ _) | with_reducible (refine PtAt.drew ?_) | with_reducible (refine PtAt.alloc ?_ _))), (by repeat (first | with_reducible (exact two16_new _ _ (by first | rfl | (simp; done)) _ _ _) | with_reducible (refine Two16.drew ?_) | with_reducible (refine Two16.alloc ?_ _))), by (repeat (first | with_reducible (exact Since.refl _) | with_reducible assumption | with_reducible (refine Since.drew ?_) | with_reducible (refine Since.drewN ?_ _) | with_reducible (refine Since.alloc ?_ _) | (with_reducible (refine Since.setCell ?_ ?_ _); rotate_left; focus (first | (simp; done) | (simp; omega) | omega)) | (with_reducible (refine Since.trans ?_ (by with_reducible assumption)))))⟩
  obtain ⟨bA, bB, bP, bD, rfl, rfl, rfl, rfl, hA, hB, hP, hD, hT⟩ := hcut
  clear c0 c1 c2 c3 c4 c5 c6 c7 cl hT1 HA
  obtain ⟨p1, p2, p3⟩ := id hA
  obtain ⟨q1, q2, q3⟩ := id hB
  go_upto_region 5 with (go_at_call 27; (with_reducible refine (HLi.out _ _ _ _ _).mono ?_); rintro e w2 ⟨rfl, hS2⟩)
  refine wp_named fun wa hwa => ?_
  have hTa : Since wc wa := by subst hwa; (repeat (first | with_reducible (exact Since.refl _) | with_reducible assumption | with_reducible (refine Since.drew ?_) | with_reducible (refine Since.drewN ?_ _) | with_reducible (refine Since.alloc ?_ _) | (with_reducible (refine Since.setCell ?_ ?_ _); rotate_left; focus (first | (simp; done) | (simp; omega) | omega)) | (with_reducible (refine Since.trans ?_ (by with_reducible assumption)))))
  have hLa : LnAt wa w2.heap.size ⟨a0, a1, b0, b1⟩ := by subst hwa; exact ln_new w2 _ rfl ⟨a0, a1, b0, b1⟩ _
  have hPa := hP.since hTa
  have hDa := hD.since hTa
  have hUa := hT.trans hTa
  clear hwa hTa p1 p2 p3 q1 q2 q3 hA hB hP hD hT hS2 v1 v2 v3 v4
  generalize w2.heap.size = bL at *
  go_wp2_with fail
  go_loopw [8] (fun v wr => ∃ k : Int, 0 ≤ k ∧ k ≤ 9 ∧ v = .int .i64 k ∧ Since wa wr) (fun v _ => (9 - intOf v).toNat)
  case atStart => exact ⟨0, by omega, by omega, rfl, Since.refl _⟩
  case round =>
    obtain ⟨k, k0, k9, rfl, hS⟩ := hrel
    have hL := hLa.since hS
    have hPr := hPa.since hS
    have hDr := hDa.since hS
    have hU := hUa.trans hS
    by_cases hk : k ≤ 8
    · obtain ⟨m1, m2, m3, -⟩ := share_b h1 h3 k0 hk
      obtain ⟨n1, n2, n3, -⟩ := share_b h2 h4 k0 hk
      have hh := fun hx hy => hit_share h1 h2 h3 h4 k0 hk hx hy
      have u1 : IntKind.i64.wrap (8 - k) = 8 - k := IntWalk.i64_in _ (by omega)
      have u2 : IntKind.i64.wrap (a0 * (8 - k)) = a0 * (8 - k) := IntWalk.i64_in _ (by omega)
      have u3 : IntKind.i64.wrap (b0 * k) = b0 * k := IntWalk.i64_in _ (by omega)
      have u4 : IntKind.i64.wrap (a0 * (8 - k) + b0 * k) = a0 * (8 - k) + b0 * k := IntWalk.i64_in _ (by omega)
      have u5 : IntKind.i64.wrap (a1 * (8 - k)) = a1 * (8 - k) := IntWalk.i64_in _ (by omega)
      have u6 : IntKind.i64.wrap (b1 * k) = b1 * k := IntWalk.i64_in _ (by omega)
      have u7 : IntKind.i64.wrap (a1 * (8 - k) + b1 * k) = a1 * (8 - k) + b1 * k := IntWalk.i64_in _ (by omega)
      obtain ⟨l1, l2, l3, l4, l5⟩ := id hL
      have HH := Lib.hid hh
      have HM := Lib.hid (And.intro m3 n3)
      clear hh m1 m2 m3 n1 n2 n3 hPr hDr
      go_upto_region 9 with fail
      refine wp_named fun wb hwb => ?_
      have hTb : Since wr wb := by subst hwb; exact (Since.refl _).alloc _
      have hLb := hL.since hTb
      have hQb : PtAt wb wr.heap.size (a0 * (8 - k) + b0 * k) (a1 * (8 - k) + b1 * k) := by subst hwb; exact pt_new wr _ rfl _ _ _
      clear hwb l1 l2 l3 l4 l5 u1 u2 u3 u4 u5 u6 u7 hL
      obtain ⟨X, hX⟩ : ∃ X, X = a0 * (8 - k) + b0 * k := ⟨_, rfl⟩
      obtain ⟨Y, hY⟩ : ∃ Y, Y = a1 * (8 - k) + b1 * k := ⟨_, rfl⟩
      rw [← hX, ← hY] at hQb HH HM
      rw [← hX, ← hY]
      clear hX hY
      obtain ⟨m3, n3⟩ := HM.out
      generalize wr.heap.size = bQ at *
      obtain ⟨l1, l2, l3, l4, l5⟩ := id hLb
      obtain ⟨q1, q2, q3⟩ := id hQb
      have s1 : IntKind.i64.wrap (X.tmod 8) = X.tmod 8 := IntWalk.i64_in _ (by rcases tdiv8 X with ⟨_, _, e⟩ | ⟨_, _, e⟩ <;> omega)
      have s2 : IntKind.i64.wrap (Y.tmod 8) = Y.tmod 8 := IntWalk.i64_in _ (by rcases tdiv8 Y with ⟨_, _, e⟩ | ⟨_, _, e⟩ <;> omega)
      have u8 : IntKind.i64.wrap (k + 1) = k + 1 := IntWalk.i64_in _ (by omega)
      have hkk : k + 1 ≤ 9 := by omega
      by_cases hx : X % 8 = 0
      · have e1 : X.tmod 8 = 0 := by rcases tdiv8 X with ⟨_, _, e⟩ | ⟨_, _, e⟩ <;> omega
        have f1 : X.tdiv 8 = X / 8 := by rcases tdiv8 X with ⟨_, e, _⟩ | ⟨_, e, _⟩ <;> omega
        by_cases hy : Y % 8 = 0
        · have e2 : Y.tmod 8 = 0 := by rcases tdiv8 Y with ⟨_, _, e⟩ | ⟨_, _, e⟩ <;> omega
          have f2 : Y.tdiv 8 = Y / 8 := by rcases tdiv8 Y with ⟨_, e, _⟩ | ⟨_, e, _⟩ <;> omega
          have hhit := HH.out hx hy
          have r1 : IntKind.i64.wrap (X / 8) = X / 8 := IntWalk.i64_in _ (by omega)
          have r2 : IntKind.i64.wrap (Y / 8) = Y / 8 := IntWalk.i64_in _ (by omega)
          have hof := fun w => px_of (X / 8) (Y / 8) (by omega) (by omega) w
          have hht := fun w => HHt.out (pxI (X / 8)) (pxI (Y / 8)) w
          rw [hhit] at hht
          unfold Pt at hof
          have HOF := Lib.hid hof; have HT := Lib.hid hht
          clear hof hht hhit hx hy HH HM m3 n3
          rw [e1] at s1
          rw [e2] at s2
          (refine wp_named fun wr9 hwr9 => ?_; go_region_held3 (fun w' => (∀ b o, b < wr9.heap.size → w'.cell? ⟨b, o, none⟩ = wr9.cell? ⟨b, o, none⟩) ∧ (∀ b o, b < wr9.heap.size → w'.frozen? ⟨b, o, none⟩ = wr9.frozen? ⟨b, o, none⟩) ∧ (∀ k, k < wr9.heap.size → k < w'.heap.size) ∧ Below wr9.heap.size wr9 w') ((subst hwr9; (repeat (with_reducible (refine since_put ?_ ?_ _); rotate_left; focus (first | (simp; done) | (simp; omega) | omega))); first | with_reducible assumption | (refine since_step (by with_reducible assumption) ?_; first | with_reducible assumption | ((repeat (first | with_reducible (exact Since.refl _) | with_reducible assumption | with_reducible (refine Since.drew ?_) | with_reducible (refine Since.drewN ?_ _) | with_reducible (refine Since.alloc ?_ _) | (with_reducible (refine Since.setCell ?_ ?_ _); rotate_left; focus (first | (simp; done) | (simp; omega) | omega)))); done)) | (refine since_step (Since.refl _) ?_; first | with_reducible assumption | ((repeat (first | with_reducible (exact Since.refl _) | with_reducible assumption | with_reducible (refine Since.drew ?_) | with_reducible (refine Since.drewN ?_ _) | with_reducible (refine Since.alloc ?_ _) | (with_reducible (refine Since.setCell ?_ ?_ _); rotate_left; focus (first | (simp; done) | (simp; omega) | omega)) | (with_reducible (refine Since.trans ?_ (by with_reducible assumption))))); done)))) (first | (go_at_call 20; (with_reducible refine (HOF.out _).mono ?_); rintro e w1 ⟨rfl, hS⟩; have hZ := hS.below.size; (try simp at hZ)) | (go_at_call 23; (with_reducible refine (HT.out _).mono ?_); rintro e w1 ⟨rfl, hS⟩; have hZ := hS.below.size; (try simp at hZ))); all_goals (rename_i hHeld; have hR9 : Since wr9 _ := hHeld; obtain ⟨hcR9, hfR9, hzR9, hbR9⟩ := hHeld; subst hwr9))
          all_goals go_wp2_with fail
          all_goals go_roundw
          case rel => exact ⟨k + 1, by omega, hkk, rfl, by (repeat (first | with_reducible (exact Since.refl _) | with_reducible assumption | with_reducible (refine Since.drew ?_) | with_reducible (refine Since.drewN ?_ _) | with_reducible (refine Since.alloc ?_ _) | (with_reducible (refine Since.setCell ?_ ?_ _); rotate_left; focus (first | (simp; done) | (simp; omega) | omega)) | (with_reducible (refine Since.trans ?_ (by with_reducible assumption)))))⟩
          case measure => simp only [intOf]; omega
        · have e2 : (Y.tmod 8 == 0) = false := by simp; rcases tdiv8 Y with ⟨_, _, e⟩ | ⟨_, _, e⟩ <;> omega
          have e3 : ¬ Y.tmod 8 = 0 := by simpa using e2
          have e4 : decide (Y.tmod 8 = 0) = false := by simpa using e2
          rw [e1] at s1
          clear hx hy HH HM m3 n3 f1
          go_region
          all_goals go_wp2_with fail
          all_goals go_roundw
          case rel => exact ⟨k + 1, by omega, hkk, rfl, by (repeat (first | with_reducible (exact Since.refl _) | with_reducible assumption | with_reducible (refine Since.drew ?_) | with_reducible (refine Since.drewN ?_ _) | with_reducible (refine Since.alloc ?_ _) | (with_reducible (refine Since.setCell ?_ ?_ _); rotate_left; focus (first | (simp; done) | (simp; omega) | omega)) | (with_reducible (refine Since.trans ?_ (by with_reducible assumption)))))⟩
          case measure => simp only [intOf]; omega
      · have e1 : (X.tmod 8 == 0) = false := by simp; rcases tdiv8 X with ⟨_, _, e⟩ | ⟨_, _, e⟩ <;> omega
        clear hx HH HM m3 n3
        go_region
        all_goals go_wp2_with fail
        all_goals go_roundw
        case rel => exact ⟨k + 1, by omega, hkk, rfl, by (repeat (first | with_reducible (exact Since.refl _) | with_reducible assumption | with_reducible (refine Since.drew ?_) | with_reducible (refine Since.drewN ?_ _) | with_reducible (refine Since.alloc ?_ _) | (with_reducible (refine Since.setCell ?_ ?_ _); rotate_left; focus (first | (simp; done) | (simp; omega) | omega)) | (with_reducible (refine Since.trans ?_ (by with_reducible assumption)))))⟩
        case measure => simp only [intOf]; omega
    · obtain rfl : k = 9 := by omega
      clear hLa hPa hDa hUa hS
      obtain ⟨p1, p2, p3⟩ := id hPr
      by_cases hx1 : x < -600
      · have e1 : decide (x < -600) = true := by simp [hx1]
        clear hx1
        go_wp2_with fail
        go_ret
        exact ⟨by first | rfl | simp, hU⟩
      have e1 : decide (x < -600) = false := by simp; omega
      by_cases hx2 : 600 < x
      · have e2 : decide ((600 : Int) < x) = true := by simp [hx2]
        clear hx1 hx2
        go_wp2_with fail
        go_ret
        exact ⟨by first | rfl | simp, hU⟩
      have e2 : decide ((600 : Int) < x) = false := by simp; omega
      by_cases hy1 : y < -600
      · have e3 : decide (y < -600) = true := by simp [hy1]
        clear hx1 hx2 hy1
        go_wp2_with fail
        go_ret
        exact ⟨by first | rfl | simp, hU⟩
      have e3 : decide (y < -600) = false := by simp; omega
      by_cases hy2 : 600 < y
      · have e4 : decide ((600 : Int) < y) = true := by simp [hy2]
        clear hx1 hx2 hy1 hy2
        go_wp2_with fail
        go_ret
        exact ⟨by first | rfl | simp, hU⟩
      have e4 : decide ((600 : Int) < y) = false := by simp; omega
      have j1 := h1; have j2 := h2; have j3 := h3; have j4 := h4; have j7 := h7; have j8 := h8
      unfold I16 at j1 j2 j3 j4 j7 j8
      have u1 : IntKind.i64.wrap d0 = d0 := IntWalk.i64_in _ (by omega)
      have u2 : IntKind.i64.wrap d1 = d1 := IntWalk.i64_in _ (by omega)
      have u3 : IntKind.i64.wrap (64 * d0) = 64 * d0 := IntWalk.i64_in _ (by omega)
      have u4 : IntKind.i64.wrap (64 * d1) = 64 * d1 := IntWalk.i64_in _ (by omega)
      have u5 : IntKind.i64.wrap (a0 + 64 * d0) = a0 + 64 * d0 := IntWalk.i64_in _ (by omega)
      have u6 : IntKind.i64.wrap (a1 + 64 * d1) = a1 + 64 * d1 := IntWalk.i64_in _ (by omega)
      have u7 : IntKind.i64.wrap (b0 + 64 * d0) = b0 + 64 * d0 := IntWalk.i64_in _ (by omega)
      have u8 : IntKind.i64.wrap (b1 + 64 * d1) = b1 + 64 * d1 := IntWalk.i64_in _ (by omega)
      have hR1 := fun w => px_hits ⟨b0, b1, a0, a1⟩ (wf16 h3 h4 h1 h2) x y w
      rw [hitB_rev] at hR1
      have hR2 := fun w => px_hits ⟨a0 + 64 * d0, a1 + 64 * d1, b0 + 64 * d0, b1 + 64 * d1⟩ (by unfold Ln.wf InP In64; simp only; omega) (x + d0) (y + d1) w
      rw [hitB_mv h1 h2 h3 h4 h7 h8 (by omega) (by omega)] at hR2
      have hR0 := fun w => HHt.out x y w
      have hmo := fun w => rf_more16 x y d0 d1 (by omega) (by omega) (by omega) (by omega) w
      generalize hitB ⟨a0, a1, b0, b1⟩ x y = R at *
      unfold Ln.v Pt at hR1 hR2
      unfold Pt at hmo
      simp only at hR1 hR2
      have HR0 := Lib.hid hR0; have HR1 := Lib.hid hR1; have HR2 := Lib.hid hR2; have HMo := Lib.hid hmo
      clear hR0 hR1 hR2 hmo j1 j2 j3 j4 j7 j8 hx1 hx2 hy1 hy2 HHt
      obtain ⟨l1, l2, l3, l4, l5⟩ := id hL
      obtain ⟨q1, q2, q3⟩ := id hDr
      go_upto_region 15 with (go_at_call 23; (with_reducible refine (HR0.out _).mono ?_); rintro e w3 ⟨rfl, hS3⟩; have hL3 := hL.since hS3; have hP3 := hPr.since hS3; have hD3 := hDr.since hS3; have hU3 := hU.trans hS3; clear hS3 l1 l2 l3 l4 l5 p1 p2 p3 q1 q2 q3 hL hPr hDr hU; obtain ⟨l1, l2, l3, l4, l5⟩ := id hL3; obtain ⟨q1, q2, q3⟩ := id hD3)
      refine wp_named fun wd hwd => ?_
      have hTd : Since w3 wd := by subst hwd; exact (Since.refl _).alloc _
      have hQ : PtAt wd w3.heap.size d0 d1 := by subst hwd; exact pt_new w3 _ rfl d0 d1 _
      have hLd := hL3.since hTd
      have hPd := hP3.since hTd
      have hUd := hU3.trans hTd
      clear hwd hTd l1 l2 l3 l4 l5 q1 q2 q3 hL3 hP3 hD3 hU3
      generalize w3.heap.size = bQ at *
      obtain ⟨l1, l2, l3, l4, l5⟩ := id hLd
      obtain ⟨q1, q2, q3⟩ := id hQ
      go_upto_region 16 with (go_at_call 27; (with_reducible refine (HLi.out _ _ _ _ _).mono ?_); rintro e w4 ⟨rfl, hS4⟩)
      refine wp_named fun we hwe => ?_
      have hTe : Since wd we := by subst hwe; (repeat (first | with_reducible (exact Since.refl _) | with_reducible assumption | with_reducible (refine Since.drew ?_) | with_reducible (refine Since.drewN ?_ _) | with_reducible (refine Since.alloc ?_ _) | (with_reducible (refine Since.setCell ?_ ?_ _); rotate_left; focus (first | (simp; done) | (simp; omega) | omega)) | (with_reducible (refine Since.trans ?_ (by with_reducible assumption)))))
      have hMe : LnAt we w4.heap.size ⟨a0 + 64 * d0, a1 + 64 * d1, b0 + 64 * d0, b1 + 64 * d1⟩ := by subst hwe; exact ln_new w4 _ rfl ⟨a0 + 64 * d0, a1 + 64 * d1, b0 + 64 * d0, b1 + 64 * d1⟩ _
      have hLe := hLd.since hTe
      have hPe := hPd.since hTe
      have hQe := hQ.since hTe
      have hUe := hUd.trans hTe
      clear hwe hTe l1 l2 l3 l4 l5 q1 q2 q3 hLd hPd hQ hUd hS4 u1 u2 u3 u4 u5 u6 u7 u8
      generalize w4.heap.size = bM at *
      obtain ⟨l1, l2, l3, l4, l5⟩ := id hLe
      obtain ⟨m1, m2, m3, m4, m5⟩ := id hMe
      obtain ⟨q1, q2, q3⟩ := id hQe
      obtain ⟨p1, p2, p3⟩ := id hPe
      clear hLe hMe hQe hPe
      cases R
      all_goals
        (refine wp_named fun wr16 hwr16 => ?_; go_region_held3 (fun w' => (∀ b o, b < wr16.heap.size → w'.cell? ⟨b, o, none⟩ = wr16.cell? ⟨b, o, none⟩) ∧ (∀ b o, b < wr16.heap.size → w'.frozen? ⟨b, o, none⟩ = wr16.frozen? ⟨b, o, none⟩) ∧ (∀ k, k < wr16.heap.size → k < w'.heap.size) ∧ Below wr16.heap.size wr16 w') ((subst hwr16; (repeat (with_reducible (refine since_put ?_ ?_ _); rotate_left; focus (first | (simp; done) | (simp; omega) | omega))); first | with_reducible assumption | (refine since_step (by with_reducible assumption) ?_; first | with_reducible assumption | ((repeat (first | with_reducible (exact Since.refl _) | with_reducible assumption | with_reducible (refine Since.drew ?_) | with_reducible (refine Since.drewN ?_ _) | with_reducible (refine Since.alloc ?_ _) | (with_reducible (refine Since.setCell ?_ ?_ _); rotate_left; focus (first | (simp; done) | (simp; omega) | omega)))); done)) | (refine since_step (Since.refl _) ?_; first | with_reducible assumption | ((repeat (first | with_reducible (exact Since.refl _) | with_reducible assumption | with_reducible (refine Since.drew ?_) | with_reducible (refine Since.drewN ?_ _) | with_reducible (refine Since.alloc ?_ _) | (with_reducible (refine Since.setCell ?_ ?_ _); rotate_left; focus (first | (simp; done) | (simp; omega) | omega)) | (with_reducible (refine Since.trans ?_ (by with_reducible assumption))))); done)))) (first | (go_at_call 23; (with_reducible refine (HR1.out _).mono ?_); rintro e w1 ⟨rfl, hS⟩; have hZ := hS.below.size; (try simp at hZ)) | (go_at_call 23; (with_reducible refine (HR2.out _).mono ?_); rintro e w1 ⟨rfl, hS⟩; have hZ := hS.below.size; (try simp at hZ)) | (go_at_call 28; (with_reducible refine (HMo.out _).mono ?_); rintro e w1 ⟨rfl, hS⟩; have hZ := hS.below.size; (try simp at hZ))); all_goals (rename_i hHeld; have hR16 : Since wr16 _ := hHeld; obtain ⟨hcR16, hfR16, hzR16, hbR16⟩ := hHeld; subst hwr16))
        all_goals go_wp2_with fail
        all_goals go_ret
        all_goals exact ⟨by first | rfl | simp, hUe.trans (by (repeat (first | with_reducible (exact Since.refl _) | with_reducible assumption | with_reducible (refine Since.drew ?_) | with_reducible (refine Since.drewN ?_ _) | with_reducible (refine Since.alloc ?_ _) | (with_reducible (refine Since.setCell ?_ ?_ _); rotate_left; focus (first | (simp; done) | (simp; omega) | omega)) | (with_reducible (refine Since.trans ?_ (by with_reducible assumption))))))⟩
end Go.Proofs.Ytckochcocflleaa
