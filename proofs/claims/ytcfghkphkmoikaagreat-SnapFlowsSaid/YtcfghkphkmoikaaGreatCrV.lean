/-
  Layer 15: 'center', 'Pixel', walked.
-/
import Derived.Test.YtcfghkphkmoikaaGreatCrU
import Derived.Test.YtcfghkphkmoikaaGreatMqD
namespace Go.Proofs.YtcfghkphkmoikaaGreat
set_option maxRecDepth 100000
open Go.RowKit
set_option linter.unusedVariables false

/-- The cells of a number of two words. -/
def Wf (n : Int) (j : Nat) : Value := if j = 0 then .int .i64 (hiW n) else .int .u64 (loW n)
def Zf (j : Nat) : Value := if j = 0 then .int .i64 0 else .int .u64 0
theorem wrow (w : World) (b : Nat) (hb : b = w.heap.size) (t : TypeId) (n : Int) : Row (w.alloc (.cells #[.int .i64 (hiW n), .int .u64 (loW n)] t)) b 2 (Wf n) := by
  subst hb
  refine Row.of_cells fun j hj => ?_
  have h : j = 0 ∨ j = 1 := by omega
  rcases h with rfl | rfl <;> rfl
theorem wput {w : World} {b : Nat} (h : Row w b 2 Zf) (n : Int) : Row ((w.setCell ⟨b, 0, none⟩ (.int .i64 (hiW n))).setCell ⟨b, 1, none⟩ (.int .u64 (loW n))) b 2 (Wf n) := by
  refine ((h.set 0 _).set 1 _).congr fun j hj => ?_
  have hh : j = 0 ∨ j = 1 := by omega
  rcases hh with rfl | rfl <;> rfl
theorem wzero (w : World) (b : Nat) (hb : b = w.heap.size) (t : TypeId) : Row (w.alloc (.cells #[.int .i64 0, .int .u64 0] t)) b 2 Zf := by
  subst hb
  refine Row.of_cells fun j hj => ?_
  have h : j = 0 ∨ j = 1 := by omega
  rcases h with rfl | rfl <;> rfl
theorem wcells {w : World} {b : Nat} {n : Int} (h : Row w b 2 (Wf n)) : w.cell? ⟨b, 0, none⟩ = some (.int .i64 (hiW n)) ∧ w.cell? ⟨b, 1, none⟩ = some (.int .u64 (loW n)) ∧ b < w.heap.size := ⟨h.1 0 (by omega), h.1 1 (by omega), h.2.2⟩

/-- A share that a point has: far from overflow. -/
def ShOK (n d : Int) : Prop := 0 < d ∧ d ≤ 1125899906842624 ∧ -(8388608 * d) ≤ n ∧ n ≤ 8388608 * d
theorem mid_in {n d : Int} (h : ShOK n d) : -131073 ≤ midI n d ∧ midI n d ≤ 131073 := by
  obtain ⟨h1, h2, h3, h4⟩ := h
  unfold midI
  constructor
  · rw [Int.le_ediv_iff_mul_le (by omega)]
    omega
  · refine Int.le_of_lt_add_one ?_
    rw [Int.ediv_lt_iff_lt_mul (by omega)]
    omega
set_option maxRecDepth 100000 in
set_option maxHeartbeats 16000000 in
theorem cr_center (n d : Int) (h : ShOK n d) (w : World) :
    Calls Tryz.prog 100 #[W n, .int .i64 d] w fun e w' => e = .returned (.tuple #[.int .i64 (midI n d), .bool true]) ∧ Since w w' := by
  have hm := mid_in h
  obtain ⟨h1, h2, h3, h4⟩ := h
  have hmul := fun w => wide_mul 32 d (by unfold InW; omega) (by unfold InW; omega) w
  have hadd := fun w => wide_add n (32 * d) (by unfold In128; omega) (by unfold In128; omega) w
  rw [w128_of (by unfold In128; omega)] at hadd
  have hdiv := fun w => wide_div (n + 32 * d) (64 * d) (by unfold In128; omega) (by unfold InW; omega) (by omega) w
  have hsm := fun w => wide_small (midI n d) (by unfold In128; omega) (by unfold InW; omega) w
  have hw : IntKind.i64.wrap (64 * d) = 64 * d := IntWalk.i64_in _ (by omega)
  have hN := fun w b hb t => wrow w b hb t n
  have e1 : (n + 32 * d) / (64 * d) = midI n d := rfl
  rw [e1] at hdiv
  generalize (n + 32 * d) % (64 * d) = r at *
  generalize n + 32 * d = s at *
  generalize midI n d = q at *
  have H1 := Lib.hid hmul
  have H2 := Lib.hid hadd
  have H3 := Lib.hid hdiv
  have H4 := Lib.hid hsm
  have HN := Lib.hid hN
  clear hmul hadd hdiv hsm hN e1 h1 h2 h3 h4 hm
  go_enter Tryz.func100, Tryz.ntmps100
  go_wp2
  refine wp_named fun w0 hw0 => ?_
  have rN : Row w0 w.heap.size 2 (Wf n) := by subst hw0; exact HN.out w _ rfl _
  have hS : Since w w0 := by subst hw0; (repeat (first | with_reducible (exact Since.refl _) | with_reducible assumption | with_reducible (refine Since.drew ?_) | with_reducible (refine Since.drewN ?_ _) | with_reducible (refine Since.alloc ?_ _) | (with_reducible (refine Since.setCell ?_ ?_ _); rotate_left; focus (first | (simp; done) | (simp; omega) | omega)) | (with_reducible (refine Since.trans ?_ (by with_reducible assumption)))))
  clear hw0
  obtain ⟨a1, a2, a3⟩ := wcells rN
  go_cut [6] (fun x wx => ∃ p : Nat, x = .pointer (some ⟨p, 0, none⟩) ∧ Since w0 wx ∧ Row wx p 2 (Wf s))
  case first =>
    clear rN hS HN H3 H4
    have tok8 : True := trivial
    have tok9 : True := trivial
    (refine wp_named fun wr1 hwr1 => ?_; go_region_held3 (fun w' => (∀ b o, b < wr1.heap.size → w'.cell? ⟨b, o, none⟩ = wr1.cell? ⟨b, o, none⟩) ∧ (∀ b o, b < wr1.heap.size → w'.frozen? ⟨b, o, none⟩ = wr1.frozen? ⟨b, o, none⟩) ∧ (∀ k, k < wr1.heap.size → k < w'.heap.size) ∧ Below wr1.heap.size wr1 w') ((subst hwr1; (repeat (with_reducible (refine since_put ?_ ?_ _); rotate_left; focus (first | (simp; done) | (simp; omega) | omega))); first | assumption | (refine since_step (by assumption) ?_; first | assumption | ((repeat (first | with_reducible (exact Since.refl _) | with_reducible assumption | with_reducible (refine Since.drew ?_) | with_reducible (refine Since.drewN ?_ _) | with_reducible (refine Since.alloc ?_ _) | (with_reducible (refine Since.setCell ?_ ?_ _); rotate_left; focus (first | (simp; done) | (simp; omega) | omega)))); done)) | (refine since_step (Since.refl _) ?_; first | assumption | ((repeat (first | with_reducible (exact Since.refl _) | with_reducible assumption | with_reducible (refine Since.drew ?_) | with_reducible (refine Since.drewN ?_ _) | with_reducible (refine Since.alloc ?_ _) | (with_reducible (refine Since.setCell ?_ ?_ _); rotate_left; focus (first | (simp; done) | (simp; omega) | omega)) | (with_reducible (refine Since.trans ?_ (by with_reducible assumption))))); done)))) (first | (go_at_call 127; have _t := tok8; refine (H1.out _).mono ?_; rintro e w8 ⟨rfl, hS8⟩; have hZ := hS8.below.size; (try simp at hZ); have hT := hS8; obtain ⟨hc8, hf8, hz8, hb8⟩ := hT; (try (have hq8_w0_0 := hz8 (w0.heap.size) (by first | with_reducible assumption | (simp; done) | (simp; omega)); have hp8_w0_0 := Nat.ne_of_lt hq8_w0_0; have hl8_w0_0 := Nat.le_of_lt hq8_w0_0)); (try (have hq8_w0_1 := hz8 (w0.heap.size + 1) (by first | with_reducible assumption | (simp; done) | (simp; omega)); have hp8_w0_1 := Nat.ne_of_lt hq8_w0_1; have hl8_w0_1 := Nat.le_of_lt hq8_w0_1)); clear tok8) | (go_at_call 126; have _t := tok9; refine (H2.out _).mono ?_; rintro e w9 ⟨rfl, hS9⟩; have hZ := hS9.below.size; (try simp at hZ); have hT := hS9; obtain ⟨hc9, hf9, hz9, hb9⟩ := hT; (try (have hq9_w0_0 := hz9 (w0.heap.size) (by first | with_reducible assumption | (simp; done) | (simp; omega)); have hp9_w0_0 := Nat.ne_of_lt hq9_w0_0; have hl9_w0_0 := Nat.le_of_lt hq9_w0_0)); (try (have hq9_w0_1 := hz9 (w0.heap.size + 1) (by first | with_reducible assumption | (simp; done) | (simp; omega)); have hp9_w0_1 := Nat.ne_of_lt hq9_w0_1; have hl9_w0_1 := Nat.le_of_lt hq9_w0_1)); (try (have hq9_w8_0 := hz9 (w8.heap.size) (by first | with_reducible assumption | (simp; done) | (simp; omega)); have hp9_w8_0 := Nat.ne_of_lt hq9_w8_0; have hl9_w8_0 := Nat.le_of_lt hq9_w8_0)); (try (have hq9_w8_1 := hz9 (w8.heap.size + 1) (by first | with_reducible assumption | (simp; done) | (simp; omega)); have hp9_w8_1 := Nat.ne_of_lt hq9_w8_1; have hl9_w8_1 := Nat.le_of_lt hq9_w8_1)); clear tok9)); all_goals (rename_i hHeld; have hR1 : Since wr1 _ := hHeld; obtain ⟨hcR1, hfR1, hzR1, hbR1⟩ := hHeld; subst hwr1))
    all_goals (go_wp2_with fail)
    all_goals go_meet
    all_goals ((try clear hp8_w0_0); (try clear hl8_w0_0); (try clear hp8_w0_1); (try clear hl8_w0_1); (try clear hp9_w0_0); (try clear hl9_w0_0); (try clear hp9_w0_1); (try clear hl9_w0_1); (try clear hp9_w8_0); (try clear hl9_w8_0); (try clear hp9_w8_1); (try clear hl9_w8_1))
    all_goals refine ⟨_, rfl, ?_, ?_⟩
    any_goals ((show Since _ _); (repeat (first | with_reducible (exact Since.refl _) | with_reducible assumption | with_reducible (refine Since.drew ?_) | with_reducible (refine Since.drewN ?_ _) | with_reducible (refine Since.alloc ?_ _) | (with_reducible (refine Since.setCell ?_ ?_ _); rotate_left; focus (first | (simp; done) | (simp; omega) | omega)) | (with_reducible (refine Since.trans ?_ (by with_reducible assumption))))); done)
    all_goals ((repeat (first | with_reducible assumption | (with_reducible (refine wrow _ _ ?_ _ _); first | with_reducible rfl | (simp; done)) | (with_reducible (refine wzero _ _ ?_ _); first | with_reducible rfl | (simp; done)) | with_reducible (refine wput ?_ _) | (with_reducible (refine prow _ _ ?_ _ _ _); first | with_reducible rfl | (simp; done)) | (with_reducible (refine orow _ _ ?_ _ _); first | with_reducible rfl | (simp; done)) | with_reducible (refine pput0 ?_ _ _) | with_reducible (refine oput0 ?_ _) | with_reducible (refine Row.drewN ?_ _) | with_reducible (refine Row.drew ?_) | with_reducible (refine Row.alloc ?_ _) | (with_reducible (refine Row.far ?_ ?_ _ _); rotate_left; focus (first | (simp; done) | (simp; omega) | omega)) | with_reducible (refine Row.since ?_ hS9) | with_reducible (refine Row.since ?_ hS8) | with_reducible (refine Row.since ?_ hS7) )))
  obtain ⟨p, rfl, hS1, rP⟩ := hcut
  have hS := hS.trans hS1
  clear hS1 rN a1 a2 a3
  obtain ⟨p1, p2, p3⟩ := wcells rP
  go_wp2_with (first | (go_at_call 130; (with_reducible refine (H3.out _).mono ?_); rintro e w3 ⟨rfl, hS3⟩) | (go_at_call 131; (with_reducible refine (H4.out _).mono ?_); rintro e w4 ⟨rfl, hS4⟩))
  go_ret2
  exact ⟨rfl, by (repeat (first | with_reducible (exact Since.refl _) | with_reducible assumption | with_reducible (refine Since.drew ?_) | with_reducible (refine Since.drewN ?_ _) | with_reducible (refine Since.alloc ?_ _) | (with_reducible (refine Since.setCell ?_ ?_ _); rotate_left; focus (first | (simp; done) | (simp; omega) | omega)) | (with_reducible (refine Since.trans ?_ (by with_reducible assumption)))))⟩
theorem cv_range {w : World} {b : Nat} {p : Cp} (h : Row w b 6 (Cf p)) : w.cell? ⟨b, 0, none⟩ = some (.int .i64 p.k) := h.1 0 (by omega)
def pixX (p : Cp) : Int := if p.k = 1 then midI p.x p.d else 0
def pixY (p : Cp) : Int := if p.k = 1 then midI p.y p.d else 0
set_option maxRecDepth 100000 in
set_option maxHeartbeats 16000000 in
theorem cr_pixel (p : Cp) (h : p.k = 1 → ShOK p.x p.d ∧ ShOK p.y p.d) (w : World) :
    Calls Tryz.prog 65 #[p.v] w fun e w' => e = .returned (.tuple #[Pt (pixX p) (pixY p), .bool (p.k == 1)]) ∧ Since w w' := by
  have hN := fun w b hb t => crow w b hb t p
  have hc := fun (hk : p.k = 1) => And.intro (fun w => cr_center p.x p.d (h hk).1 w) (fun w => cr_center p.y p.d (h hk).2 w)
  unfold pixX pixY
  obtain ⟨k, x, y, d⟩ := p
  simp only at hc hN h ⊢
  have HN := Lib.hid hN
  unfold Cp.v Pt
  simp only
  clear hN h
  by_cases hk : k = 1
  · subst hk
    have H1 := Lib.hid (hc rfl).1
    have H2 := Lib.hid (hc rfl).2
    clear hc
    simp only [if_true]
    generalize midI x d = X at *
    generalize midI y d = Y at *
    go_enter Tryz.func65, Tryz.ntmps65
    go_wp2_with (first | (go_at_call 100; (with_reducible refine (H1.out _).mono ?_); rintro e w3 ⟨rfl, hS3⟩; have hN := ((HN.out w _ rfl _).alloc (.cells #[.int .i64 0, .int .i64 0] 23)).since hS3; have hR := (prow _ (w.heap.size + 1) (by simp) _ 0 0).since hS3; have hT : Since w w3 := (by (repeat (first | with_reducible (exact Since.refl _) | with_reducible assumption | with_reducible (refine Since.drew ?_) | with_reducible (refine Since.drewN ?_ _) | with_reducible (refine Since.alloc ?_ _) | (with_reducible (refine Since.setCell ?_ ?_ _); rotate_left; focus (first | (simp; done) | (simp; omega) | omega)) | (with_reducible (refine Since.trans ?_ (by with_reducible assumption)))))); clear hS3; obtain ⟨c1, c2, c3, c4, c5, c6, c7⟩ := ccells hN; obtain ⟨p1, p2, p3⟩ := pcells hR; have f0 := hR.2.1 0; have f1 := hR.2.1 1) | (go_at_call 100; (with_reducible refine (H2.out _).mono ?_); rintro e w4 ⟨rfl, hS4⟩; have hR := hR.since hS4; have hT := hT.trans hS4; clear hS4 c1 c2 c3 c4 c5 c6 c7 p1 p2 p3 f0 f1; obtain ⟨p1, p2, p3⟩ := pcells hR; have f0 := hR.2.1 0; have f1 := hR.2.1 1))
    refine bodyPost_ret (by simp only [results, Tryz.results65]; go_simp) rfl ⟨rfl, ?_⟩
    (repeat (first | with_reducible (exact Since.refl _) | with_reducible assumption | with_reducible (refine Since.drew ?_) | with_reducible (refine Since.drewN ?_ _) | with_reducible (refine Since.alloc ?_ _) | (with_reducible (refine Since.setCell ?_ ?_ _); rotate_left; focus (first | (simp; done) | (simp; omega) | omega)) | (with_reducible (refine Since.trans ?_ (by with_reducible assumption)))))
  · have hd : (k == 1) = false := by simp [hk]
    have hd2 : (k != 1) = true := by simp [hk]
    simp only [if_neg hk, hd]
    clear hk hc
    go_enter Tryz.func65, Tryz.ntmps65
    go_wp2
    refine bodyPost_ret (by simp only [results, Tryz.results65]; go_simp) rfl ⟨rfl, ?_⟩
    (repeat (first | with_reducible (exact Since.refl _) | with_reducible assumption | with_reducible (refine Since.drew ?_) | with_reducible (refine Since.drewN ?_ _) | with_reducible (refine Since.alloc ?_ _) | (with_reducible (refine Since.setCell ?_ ?_ _); rotate_left; focus (first | (simp; done) | (simp; omega) | omega)) | (with_reducible (refine Since.trans ?_ (by with_reducible assumption)))))
end Go.Proofs.YtcfghkphkmoikaaGreat
