/-
  Layer 8: readPart where the part is there; readCode: walked.
-/
import Derived.Test.YtcjjcjpkmjbfkaaMhC
namespace Go.Proofs.Ytcjjcjpkmjbfkaa
open Go.RowKit Go.ChangeShapes Go.WideShapes Go.Deep
set_option linter.unusedVariables false
set_option linter.unusedSimpArgs false

theorem pt8_is (f : Nat → Int) (p w k : Nat) (hw : wd8 (fl8 f p) = w) (hk : nm8 (fl8 f p) = k) : ∃ m0 m1 m2 m3, matA f (p + 4 + 2 * w) k = [.int .i64 m0, .int .i64 m1, .int .i64 m2, .int .i64 m3] ∧ pt8 f p = ⟨numAt f (p + 2) 2, sgn w (numAt f (p + 4) w), sgn w (numAt f (p + 4 + w) w), m0, m1, m2, m3⟩ := by
  subst hw; subst hk
  exact ⟨_, _, _, _, rfl, rfl⟩
set_option maxRecDepth 100000 in
set_option maxHeartbeats 8000000 in
theorem co_part_yes (A : Option Addr) (n c : Nat) (f : Nat → Int) (p : Nat) (x : Int) (w : World) (h : Rd w w.heap.size A n (U8 f)) (hf : ∀ j, j < n → 0 ≤ f j ∧ f j ≤ 255) (hx : x = p) (hn : n ≤ 140737488355328) (hnc : n ≤ c) (he : pe8 f n p = 0) :
    Calls Try.prog 59 #[.slice A n c, .int .i64 x] w fun e w' => e = .returned (.tuple #[.agg (ptV (pt8 f p)).toArray, .int .i64 (fl8 f p), .int .i64 (sz8 (fl8 f p)), .int .i64 0]) ∧ Since w w' := by
  subst hx
  unfold pe8 at he
  have h4 : ¬ n < p + 4 := fun e => by rw [if_pos e] at he; omega
  rw [if_neg h4] at he
  have hb : Has8 (fl8 f p) 2 := Decidable.byContradiction fun e => by rw [if_pos e] at he; omega
  rw [if_neg (by simp [hb])] at he
  have h5 : ¬ n < p + sz8 (fl8 f p) := fun e => by rw [if_pos e] at he; omega
  have hpi : (p : Int) ≤ 140737488355328 := by omega
  have ht1 := rd_part7 h (.cells #[.int .i64 0, .int .i64 0, .int .i64 0, .int .i64 0, .int .i64 0, .int .i64 0, .int .i64 0] 44)
  have tok1 := True.intro
  have hr := numAt_range (f := f) (p := p) (k := 2) (fun j hj => hf j (by omega))
  simp only [Int.reducePow] at hr
  clear he
  have hk := nm8_or (fl8 f p)
  have hw := wd8_or (fl8 f p)
  have hP := pt8_is f p
  unfold sz8 at h5 ⊢
  have hr : 0 ≤ fl8 f p ∧ fl8 f p < 65536 := hr
  have HM : ∀ w2, Calls Try.prog 69 #[.int .i64 (fl8 f p)] w2 fun e w' => e = .returned (.int .i64 (nm8 (fl8 f p))) ∧ w' = w2 := fun w2 => co_msize _ w2 hr.1 hr.2
  have a2 := (and_b2 hr.1 (by omega)).1 hb
  have a1 := and_b1 (x := fl8 f p) hr.1 (by omega)
  have hU : ∀ w2, Rd w2 w2.heap.size A n (U8 f) → Calls Try.prog 55 #[.slice A n c, .int .i64 (p : Int), .int .i64 2] w2 fun e w' => e = .returned (.tuple #[.int .i64 (fl8 f p), .int .i64 0]) ∧ w' = w2 := fun w2 h2 => u_in A n c f p 2 _ _ w2 h2 hf (by omega) (by omega) (by omega) (by omega) (by omega)
  have hV : ∀ w2, Rd w2 w2.heap.size A n (U8 f) → Calls Try.prog 55 #[.slice A n c, .int .i64 ((p : Int) + 2), .int .i64 2] w2 fun e w' => e = .returned (.tuple #[.int .i64 (numAt f (p + 2) 2), .int .i64 0]) ∧ w' = w2 := fun w2 h2 => u_in A n c f (p + 2) 2 _ _ w2 h2 hf (by omega) (by omega) (by omega) (by omega) (by omega)
  have HC : ∀ m (y : Int) w2, y = (m : Nat) → p + m ≤ n → Rd w2 w2.heap.size A n (U8 f) → Calls Try.prog 56 #[.slice A n c, .int .i64 (p : Int), .int .i64 y] w2 fun e w' => ∃ A' cap, e = .returned (.tuple #[.slice A' m cap, .int .i64 0]) ∧ m ≤ cap ∧ Nw w' w2.heap.size A' m (U8 (fun j => f (p + j))) ∧ Since w2 w' := fun m y w2 hy hm h2 => cut_l A n c f p m _ _ w2 h2 (by omega) hy hm (by omega) hnc
  have HSA : ∀ (q m : Nat) (x y : Int) w2, x = q → y = m → 1 ≤ m ∧ m ≤ 4 → q + m ≤ n → Rd w2 w2.heap.size A n (U8 f) → Calls Try.prog 53 #[.slice A n c, .int .i64 x, .int .i64 y] w2 fun e w' => e = .returned (.tuple #[.int .i64 (sgn m (numAt f q m)), .int .i64 0]) ∧ w' = w2 := fun q m x y w2 hx hy hm hq h2 => s_in A n c f q m x y w2 h2 hf hx hy hm hq (by omega)
  have HRM : ∀ (q k : Nat) (x y : Int) w2, x = q → y = k → (k = 0 ∨ k = 1 ∨ k = 2 ∨ k = 4) → q + 2 * k ≤ n → Rd w2 w2.heap.size A n (U8 f) → Calls Try.prog 70 #[.slice A n c, .int .i64 x, .int .i64 y] w2 fun e w' => e = .returned (.agg (matA f q k).toArray) ∧ Since w2 w' := fun q k x y w2 hx hy hk hq h2 => co_rmat A n c f q k x y w2 h2 hf hx hy hk hq (by omega)
  
  have case2 : wd8 (fl8 f p) = 2 → (Has8 (fl8 f p) 1 ∧ 2 = 2 ∨ ¬ Has8 (fl8 f p) 1 ∧ 2 = 1) → Calls Try.prog 59 #[.slice A n c, .int .i64 (p : Int)] w fun e w' => e = .returned (.tuple #[.agg (ptV (pt8 f p)).toArray, .int .i64 (fl8 f p), .int .i64 ((4 + 2 * wd8 (fl8 f p) + 2 * nm8 (fl8 f p) : Nat) : Int), .int .i64 0]) ∧ Since w w' := by
    intro hw c1
    obtain ⟨m0, m1, m2, m3, hmat, hpt⟩ := hP 2 _ hw rfl
    rw [hw] at h5
    rw [hpt, hw]
    have d1 : bits .and .i64 (fl8 f p) 1 = 2 - 1 := by
      rcases c1 with ⟨c1, e⟩ | ⟨c1, e⟩
      · first | (exfalso; omega) | exact a1.1 c1
      · first | (exfalso; omega) | exact a1.2 c1
    simp only [Int.reduceSub] at d1
    generalize hxx : sgn 2 (numAt f (p + 4) 2) = X at *
    generalize hyy : sgn 2 (numAt f (p + 4 + 2) 2) = Y at *
    have HX := Lib.hid hxx
    have HY := Lib.hid hyy
    generalize numAt f (p + 2) 2 = gl at *
    generalize nm8 (fl8 f p) = k at *
    generalize fl8 f p = fl at *
    have hki : (k : Int) ≤ 4 := by omega
    have HU := Lib.hid hU
    have HV := Lib.hid hV
    have HMM := Lib.hid HM
    have HCC := Lib.hid HC
    have HSS := Lib.hid HSA
    have HRR := Lib.hid HRM
    have HMA := Lib.hid hmat
    have HK := Lib.hid hk
    have H0 := Lib.hid h
    have HF := Lib.hid hf
    clear hU hV HM HC HSA HRM hr hb hf hk h hP hpt hmat hxx hyy a1 c1 hw h4
    go_enter Try.func59, Try.ntmps59
    go_wp2_with (first | (go_at_call 55; have _t := tok1; (with_reducible refine (HU.out _ ht1).mono ?_); rintro e w2 ⟨rfl, rfl⟩; clear tok1; have tok2 := True.intro) | (go_at_call 55; have _t := tok2; (with_reducible refine (HV.out _ ht1).mono ?_); rintro e w3 ⟨rfl, rfl⟩; clear tok2) | (go_at_call 69; (with_reducible refine (HMM.out _).mono ?_); rintro e w4 ⟨rfl, rfl⟩) | (go_at_call 56; (with_reducible refine (HCC.out (4 + 2 * 2 + 2 * k) _ _ (by omega) (by omega) (rd_part7 H0.out _)).mono ?_); rintro e w5 ⟨A5, c5, rfl, _, _, hS5⟩; have hT5 : Since w w5 := (by (repeat (first | with_reducible (exact Since.refl _) | with_reducible assumption | with_reducible (refine Since.drew ?_) | with_reducible (refine Since.drewN ?_ _) | with_reducible (refine Since.alloc ?_ _) | (with_reducible (refine Since.setCell ?_ ?_ _); rotate_left; focus (first | (simp; done) | (simp; omega) | omega)) | (with_reducible (refine Since.trans ?_ (by with_reducible assumption)))))); obtain ⟨hc5, hf5, hz5, hb5⟩ := hS5; have hp5 := hz5 w.heap.size (by simp); have hp6 := Nat.le_of_lt hp5; have k0 : w5.cell? ⟨w.heap.size, 0, none⟩ = some (.int .i64 gl) := (hc5 _ _ (by simp)).trans (by simp); have k1 : w5.cell? ⟨w.heap.size, 1, none⟩ = some (.int .i64 0) := (hc5 _ _ (by simp)).trans (by simp); have k2 : w5.cell? ⟨w.heap.size, 2, none⟩ = some (.int .i64 0) := (hc5 _ _ (by simp)).trans (by simp); have k3 : w5.cell? ⟨w.heap.size, 3, none⟩ = some (.int .i64 0) := (hc5 _ _ (by simp)).trans (by simp); have k4 : w5.cell? ⟨w.heap.size, 4, none⟩ = some (.int .i64 0) := (hc5 _ _ (by simp)).trans (by simp); have k5 : w5.cell? ⟨w.heap.size, 5, none⟩ = some (.int .i64 0) := (hc5 _ _ (by simp)).trans (by simp); have k6 : w5.cell? ⟨w.heap.size, 6, none⟩ = some (.int .i64 0) := (hc5 _ _ (by simp)).trans (by simp); have hfr5 : ∀ o, w5.frozen? ⟨w.heap.size, o, none⟩ = false := (fun o => (hf5 _ _ (by simp)).trans (by simp)); clear hc5 hf5 hz5 hb5; have tok3 := True.intro) | (go_at_call 53; have _t := tok3; (with_reducible refine (HSS.out (p + 4) 2 _ _ _ (by omega) (by omega) (by omega) (by omega) (H0.out.on (by (repeat (first | with_reducible (exact Since.refl _) | with_reducible assumption | with_reducible (refine Since.drew ?_) | with_reducible (refine Since.drewN ?_ _) | with_reducible (refine Since.alloc ?_ _) | (with_reducible (refine Since.setCell ?_ ?_ _); rotate_left; focus (first | (simp; done) | (simp; omega) | omega)) | (with_reducible (refine Since.trans ?_ (by with_reducible assumption)))))))).mono ?_); rw [HX.out]; rintro e w6 ⟨rfl, rfl⟩; clear tok3; have tok4 := True.intro) | (go_at_call 53; have _t := tok4; (with_reducible refine (HSS.out (p + 4 + 2) 2 _ _ _ (by omega) (by omega) (by omega) (by omega) (H0.out.on (by (repeat (first | with_reducible (exact Since.refl _) | with_reducible assumption | with_reducible (refine Since.drew ?_) | with_reducible (refine Since.drewN ?_ _) | with_reducible (refine Since.alloc ?_ _) | (with_reducible (refine Since.setCell ?_ ?_ _); rotate_left; focus (first | (simp; done) | (simp; omega) | omega)) | (with_reducible (refine Since.trans ?_ (by with_reducible assumption)))))))).mono ?_); rw [HY.out]; rintro e w7 ⟨rfl, rfl⟩; clear tok4) | (go_at_call 70; (with_reducible refine (HRR.out (p + 4 + 2 * 2) k _ _ _ (by omega) (by omega) HK.out (by omega) (H0.out.on (by (repeat (first | with_reducible (exact Since.refl _) | with_reducible assumption | with_reducible (refine Since.drew ?_) | with_reducible (refine Since.drewN ?_ _) | with_reducible (refine Since.alloc ?_ _) | (with_reducible (refine Since.setCell ?_ ?_ _); rotate_left; focus (first | (simp; done) | (simp; omega) | omega)) | (with_reducible (refine Since.trans ?_ (by with_reducible assumption)))))))).mono ?_); rw [HMA.out]; rintro e w8 ⟨rfl, hS8⟩; have hT8 : Since w w8 := (by (repeat (first | with_reducible (exact Since.refl _) | with_reducible assumption | with_reducible (refine Since.drew ?_) | with_reducible (refine Since.drewN ?_ _) | with_reducible (refine Since.alloc ?_ _) | (with_reducible (refine Since.setCell ?_ ?_ _); rotate_left; focus (first | (simp; done) | (simp; omega) | omega)) | (with_reducible (refine Since.trans ?_ (by with_reducible assumption)))))); obtain ⟨hc8, hf8, hz8, hb8⟩ := hS8; have hp8 := hz8 w.heap.size (by simpa using hp5); have hp9 := Nat.le_of_lt hp8; have j0 : w8.cell? ⟨w.heap.size, 0, none⟩ = some (.int .i64 gl) := (hc8 _ _ (by simpa using hp5)).trans (by simp [go_sem, k0, k1, k2]); have j1 : w8.cell? ⟨w.heap.size, 1, none⟩ = some (.int .i64 X) := (hc8 _ _ (by simpa using hp5)).trans (by simp [go_sem, k0, k1, k2]); have j2 : w8.cell? ⟨w.heap.size, 2, none⟩ = some (.int .i64 Y) := (hc8 _ _ (by simpa using hp5)).trans (by simp [go_sem, k0, k1, k2]); have j3 : w8.cell? ⟨w.heap.size, 3, none⟩ = some (.int .i64 0) := (hc8 _ _ (by simpa using hp5)).trans (by simp [go_sem, k3]); have j4 : w8.cell? ⟨w.heap.size, 4, none⟩ = some (.int .i64 0) := (hc8 _ _ (by simpa using hp5)).trans (by simp [go_sem, k4]); have j5 : w8.cell? ⟨w.heap.size, 5, none⟩ = some (.int .i64 0) := (hc8 _ _ (by simpa using hp5)).trans (by simp [go_sem, k5]); have j6 : w8.cell? ⟨w.heap.size, 6, none⟩ = some (.int .i64 0) := (hc8 _ _ (by simpa using hp5)).trans (by simp [go_sem, k6]); have hfr8 : ∀ o, w8.frozen? ⟨w.heap.size, o, none⟩ = false := (fun o => (hf8 _ _ (by simpa using hp5)).trans (by simp [go_sem, hfr5])); clear hc8 hf8 hz8 hb8 k0 k1 k2 k3 k4 k5 k6 hfr5 hT5))
    have e9 : ((4 + 2 * 2 + 2 * k : Nat) : Int) = 4 + 2 * 2 + 2 * (k : Int) := by omega
    simp only [Int.reduceMul, Int.reduceAdd] at e9
    rw [e9]
    clear e9
    refine ret_agg_tmp3 rfl rfl (cs := ptV ⟨gl, X, Y, m0, m1, m2, m3⟩) (range7 (by simp [go_sem, j0, j1, j2, j3, j4, j5, j6]) (by simp [go_sem, j0, j1, j2, j3, j4, j5, j6]) (by simp [go_sem, j0, j1, j2, j3, j4, j5, j6]) (by simp [go_sem, j0, j1, j2, j3, j4, j5, j6]) (by simp [go_sem, j0, j1, j2, j3, j4, j5, j6]) (by simp [go_sem, j0, j1, j2, j3, j4, j5, j6]) (by simp [go_sem, j0, j1, j2, j3, j4, j5, j6])) Try.underlying44 rfl (by kernel_rfl) rfl rfl rfl rfl ⟨rfl, ?_⟩
    (repeat (first | with_reducible (exact Since.refl _) | with_reducible assumption | with_reducible (refine Since.drew ?_) | with_reducible (refine Since.drewN ?_ _) | with_reducible (refine Since.alloc ?_ _) | (with_reducible (refine Since.setCell ?_ ?_ _); rotate_left; focus (first | (simp; done) | (simp; omega) | omega)) | (with_reducible (refine Since.trans ?_ (by with_reducible assumption)))))
  
  have case1 : wd8 (fl8 f p) = 1 → (Has8 (fl8 f p) 1 ∧ 1 = 2 ∨ ¬ Has8 (fl8 f p) 1 ∧ 1 = 1) → Calls Try.prog 59 #[.slice A n c, .int .i64 (p : Int)] w fun e w' => e = .returned (.tuple #[.agg (ptV (pt8 f p)).toArray, .int .i64 (fl8 f p), .int .i64 ((4 + 2 * wd8 (fl8 f p) + 2 * nm8 (fl8 f p) : Nat) : Int), .int .i64 0]) ∧ Since w w' := by
    intro hw c1
    obtain ⟨m0, m1, m2, m3, hmat, hpt⟩ := hP 1 _ hw rfl
    rw [hw] at h5
    rw [hpt, hw]
    have d1 : bits .and .i64 (fl8 f p) 1 = 1 - 1 := by
      rcases c1 with ⟨c1, e⟩ | ⟨c1, e⟩
      · first | (exfalso; omega) | exact a1.1 c1
      · first | (exfalso; omega) | exact a1.2 c1
    simp only [Int.reduceSub] at d1
    generalize hxx : sgn 1 (numAt f (p + 4) 1) = X at *
    generalize hyy : sgn 1 (numAt f (p + 4 + 1) 1) = Y at *
    have HX := Lib.hid hxx
    have HY := Lib.hid hyy
    generalize numAt f (p + 2) 2 = gl at *
    generalize nm8 (fl8 f p) = k at *
    generalize fl8 f p = fl at *
    have hki : (k : Int) ≤ 4 := by omega
    have HU := Lib.hid hU
    have HV := Lib.hid hV
    have HMM := Lib.hid HM
    have HCC := Lib.hid HC
    have HSS := Lib.hid HSA
    have HRR := Lib.hid HRM
    have HMA := Lib.hid hmat
    have HK := Lib.hid hk
    have H0 := Lib.hid h
    have HF := Lib.hid hf
    clear hU hV HM HC HSA HRM hr hb hf hk h hP hpt hmat hxx hyy a1 c1 hw h4
    go_enter Try.func59, Try.ntmps59
    go_wp2_with (first | (go_at_call 55; have _t := tok1; (with_reducible refine (HU.out _ ht1).mono ?_); rintro e w2 ⟨rfl, rfl⟩; clear tok1; have tok2 := True.intro) | (go_at_call 55; have _t := tok2; (with_reducible refine (HV.out _ ht1).mono ?_); rintro e w3 ⟨rfl, rfl⟩; clear tok2) | (go_at_call 69; (with_reducible refine (HMM.out _).mono ?_); rintro e w4 ⟨rfl, rfl⟩) | (go_at_call 56; (with_reducible refine (HCC.out (4 + 2 * 1 + 2 * k) _ _ (by omega) (by omega) (rd_part7 H0.out _)).mono ?_); rintro e w5 ⟨A5, c5, rfl, _, _, hS5⟩; have hT5 : Since w w5 := (by (repeat (first | with_reducible (exact Since.refl _) | with_reducible assumption | with_reducible (refine Since.drew ?_) | with_reducible (refine Since.drewN ?_ _) | with_reducible (refine Since.alloc ?_ _) | (with_reducible (refine Since.setCell ?_ ?_ _); rotate_left; focus (first | (simp; done) | (simp; omega) | omega)) | (with_reducible (refine Since.trans ?_ (by with_reducible assumption)))))); obtain ⟨hc5, hf5, hz5, hb5⟩ := hS5; have hp5 := hz5 w.heap.size (by simp); have hp6 := Nat.le_of_lt hp5; have k0 : w5.cell? ⟨w.heap.size, 0, none⟩ = some (.int .i64 gl) := (hc5 _ _ (by simp)).trans (by simp); have k1 : w5.cell? ⟨w.heap.size, 1, none⟩ = some (.int .i64 0) := (hc5 _ _ (by simp)).trans (by simp); have k2 : w5.cell? ⟨w.heap.size, 2, none⟩ = some (.int .i64 0) := (hc5 _ _ (by simp)).trans (by simp); have k3 : w5.cell? ⟨w.heap.size, 3, none⟩ = some (.int .i64 0) := (hc5 _ _ (by simp)).trans (by simp); have k4 : w5.cell? ⟨w.heap.size, 4, none⟩ = some (.int .i64 0) := (hc5 _ _ (by simp)).trans (by simp); have k5 : w5.cell? ⟨w.heap.size, 5, none⟩ = some (.int .i64 0) := (hc5 _ _ (by simp)).trans (by simp); have k6 : w5.cell? ⟨w.heap.size, 6, none⟩ = some (.int .i64 0) := (hc5 _ _ (by simp)).trans (by simp); have hfr5 : ∀ o, w5.frozen? ⟨w.heap.size, o, none⟩ = false := (fun o => (hf5 _ _ (by simp)).trans (by simp)); clear hc5 hf5 hz5 hb5; have tok3 := True.intro) | (go_at_call 53; have _t := tok3; (with_reducible refine (HSS.out (p + 4) 1 _ _ _ (by omega) (by omega) (by omega) (by omega) (H0.out.on (by (repeat (first | with_reducible (exact Since.refl _) | with_reducible assumption | with_reducible (refine Since.drew ?_) | with_reducible (refine Since.drewN ?_ _) | with_reducible (refine Since.alloc ?_ _) | (with_reducible (refine Since.setCell ?_ ?_ _); rotate_left; focus (first | (simp; done) | (simp; omega) | omega)) | (with_reducible (refine Since.trans ?_ (by with_reducible assumption)))))))).mono ?_); rw [HX.out]; rintro e w6 ⟨rfl, rfl⟩; clear tok3; have tok4 := True.intro) | (go_at_call 53; have _t := tok4; (with_reducible refine (HSS.out (p + 4 + 1) 1 _ _ _ (by omega) (by omega) (by omega) (by omega) (H0.out.on (by (repeat (first | with_reducible (exact Since.refl _) | with_reducible assumption | with_reducible (refine Since.drew ?_) | with_reducible (refine Since.drewN ?_ _) | with_reducible (refine Since.alloc ?_ _) | (with_reducible (refine Since.setCell ?_ ?_ _); rotate_left; focus (first | (simp; done) | (simp; omega) | omega)) | (with_reducible (refine Since.trans ?_ (by with_reducible assumption)))))))).mono ?_); rw [HY.out]; rintro e w7 ⟨rfl, rfl⟩; clear tok4) | (go_at_call 70; (with_reducible refine (HRR.out (p + 4 + 2 * 1) k _ _ _ (by omega) (by omega) HK.out (by omega) (H0.out.on (by (repeat (first | with_reducible (exact Since.refl _) | with_reducible assumption | with_reducible (refine Since.drew ?_) | with_reducible (refine Since.drewN ?_ _) | with_reducible (refine Since.alloc ?_ _) | (with_reducible (refine Since.setCell ?_ ?_ _); rotate_left; focus (first | (simp; done) | (simp; omega) | omega)) | (with_reducible (refine Since.trans ?_ (by with_reducible assumption)))))))).mono ?_); rw [HMA.out]; rintro e w8 ⟨rfl, hS8⟩; have hT8 : Since w w8 := (by (repeat (first | with_reducible (exact Since.refl _) | with_reducible assumption | with_reducible (refine Since.drew ?_) | with_reducible (refine Since.drewN ?_ _) | with_reducible (refine Since.alloc ?_ _) | (with_reducible (refine Since.setCell ?_ ?_ _); rotate_left; focus (first | (simp; done) | (simp; omega) | omega)) | (with_reducible (refine Since.trans ?_ (by with_reducible assumption)))))); obtain ⟨hc8, hf8, hz8, hb8⟩ := hS8; have hp8 := hz8 w.heap.size (by simpa using hp5); have hp9 := Nat.le_of_lt hp8; have j0 : w8.cell? ⟨w.heap.size, 0, none⟩ = some (.int .i64 gl) := (hc8 _ _ (by simpa using hp5)).trans (by simp [go_sem, k0, k1, k2]); have j1 : w8.cell? ⟨w.heap.size, 1, none⟩ = some (.int .i64 X) := (hc8 _ _ (by simpa using hp5)).trans (by simp [go_sem, k0, k1, k2]); have j2 : w8.cell? ⟨w.heap.size, 2, none⟩ = some (.int .i64 Y) := (hc8 _ _ (by simpa using hp5)).trans (by simp [go_sem, k0, k1, k2]); have j3 : w8.cell? ⟨w.heap.size, 3, none⟩ = some (.int .i64 0) := (hc8 _ _ (by simpa using hp5)).trans (by simp [go_sem, k3]); have j4 : w8.cell? ⟨w.heap.size, 4, none⟩ = some (.int .i64 0) := (hc8 _ _ (by simpa using hp5)).trans (by simp [go_sem, k4]); have j5 : w8.cell? ⟨w.heap.size, 5, none⟩ = some (.int .i64 0) := (hc8 _ _ (by simpa using hp5)).trans (by simp [go_sem, k5]); have j6 : w8.cell? ⟨w.heap.size, 6, none⟩ = some (.int .i64 0) := (hc8 _ _ (by simpa using hp5)).trans (by simp [go_sem, k6]); have hfr8 : ∀ o, w8.frozen? ⟨w.heap.size, o, none⟩ = false := (fun o => (hf8 _ _ (by simpa using hp5)).trans (by simp [go_sem, hfr5])); clear hc8 hf8 hz8 hb8 k0 k1 k2 k3 k4 k5 k6 hfr5 hT5))
    have e9 : ((4 + 2 * 1 + 2 * k : Nat) : Int) = 4 + 2 * 1 + 2 * (k : Int) := by omega
    simp only [Int.reduceMul, Int.reduceAdd] at e9
    rw [e9]
    clear e9
    refine ret_agg_tmp3 rfl rfl (cs := ptV ⟨gl, X, Y, m0, m1, m2, m3⟩) (range7 (by simp [go_sem, j0, j1, j2, j3, j4, j5, j6]) (by simp [go_sem, j0, j1, j2, j3, j4, j5, j6]) (by simp [go_sem, j0, j1, j2, j3, j4, j5, j6]) (by simp [go_sem, j0, j1, j2, j3, j4, j5, j6]) (by simp [go_sem, j0, j1, j2, j3, j4, j5, j6]) (by simp [go_sem, j0, j1, j2, j3, j4, j5, j6]) (by simp [go_sem, j0, j1, j2, j3, j4, j5, j6])) Try.underlying44 rfl (by kernel_rfl) rfl rfl rfl rfl ⟨rfl, ?_⟩
    (repeat (first | with_reducible (exact Since.refl _) | with_reducible assumption | with_reducible (refine Since.drew ?_) | with_reducible (refine Since.drewN ?_ _) | with_reducible (refine Since.alloc ?_ _) | (with_reducible (refine Since.setCell ?_ ?_ _); rotate_left; focus (first | (simp; done) | (simp; omega) | omega)) | (with_reducible (refine Since.trans ?_ (by with_reducible assumption)))))
  
  rcases hw with ⟨c1, hw⟩ | ⟨c1, hw⟩
  · exact case2 hw (.inl ⟨c1, rfl⟩)
  · exact case1 hw (.inr ⟨c1, rfl⟩)
/-- What 'readCode' answers. -/
def cdE (f : Nat → Int) (n p : Nat) : Int := if n < p + 2 then 3 else if (n : Int) < p + 2 + fl8 f p then 3 else 0
set_option maxRecDepth 100000 in
set_option maxHeartbeats 8000000 in
theorem co_code_yes (A : Option Addr) (n c : Nat) (f : Nat → Int) (p m : Nat) (x : Int) (w : World) (h : Rd w w.heap.size A n (U8 f)) (hf : ∀ j, j < n → 0 ≤ f j ∧ f j ≤ 255) (hx : x = p) (hn : n ≤ 140737488355328) (hnc : n ≤ c) (h1 : p + 2 ≤ n) (hm : fl8 f p = m) (h2 : p + 2 + m ≤ n) :
    Calls Try.prog 60 #[.slice A n c, .int .i64 x] w fun e w' => ∃ A' cap, e = .returned (.tuple #[.slice A' m cap, .int .i64 0]) ∧ m ≤ cap ∧ Nw w' w.heap.size A' m (U8 (fun j => f (p + 2 + j))) ∧ Since w w' := by
  subst hx
  have hU := u_in A n c f p 2 p 2 w h hf rfl rfl (by omega) h1 (by omega)
  have hm' : numAt f p 2 = m := hm
  rw [hm'] at hU
  have hmi : (m : Int) ≤ 140737488355328 := by omega
  have hpi : (p : Int) ≤ 140737488355328 := by omega
  have H0 := Lib.hid h
  clear h hf hm hm'
  go_enter Try.func60, Try.ntmps60
  go_wp2_with (first | (go_at_call 55; (with_reducible refine hU.mono ?_); rintro e w2 ⟨rfl, rfl⟩) | (go_at_call 56; (with_reducible refine (cut_l A n c f (p + 2) m _ _ _ H0.out (by omega) rfl h2 (by omega) hnc).mono ?_); rintro e w3 ⟨A3, c3, rfl, hc3, hN3, hS3⟩))
  go_ret2
  exact ⟨A3, c3, by first | rfl | simp, hc3, hN3, hS3⟩
set_option maxRecDepth 100000 in
set_option maxHeartbeats 8000000 in
theorem co_code_no (A : Option Addr) (n c : Nat) (f : Nat → Int) (p : Nat) (x : Int) (w : World) (h : Rd w w.heap.size A n (U8 f)) (hf : ∀ j, j < n → 0 ≤ f j ∧ f j ≤ 255) (hx : x = p) (hn : n ≤ 140737488355328) (hpn : p ≤ n) (hnc : n ≤ c) (h1 : cdE f n p = 3) :
    Calls Try.prog 60 #[.slice A n c, .int .i64 x] w fun e w' => ∃ A' cap, e = .returned (.tuple #[.slice A' 0 cap, .int .i64 3]) ∧ Since w w' := by
  subst hx
  have hpi : (p : Int) ≤ 140737488355328 := by omega
  unfold cdE at h1
  by_cases h2 : n < p + 2
  · have hU := u_out A n c f p 2 p 2 w h hf rfl rfl (by omega) h2 (by omega) (by omega)
    clear h hf h1
    go_enter Try.func60, Try.ntmps60
    go_wp2_with (first | (go_at_call 55; (with_reducible refine hU.mono ?_); rintro e w2 ⟨rfl, rfl⟩))
    go_ret2
    exact ⟨_, _, by first | rfl | simp, by (repeat (first | with_reducible (exact Since.refl _) | with_reducible assumption | with_reducible (refine Since.drew ?_) | with_reducible (refine Since.drewN ?_ _) | with_reducible (refine Since.alloc ?_ _) | (with_reducible (refine Since.setCell ?_ ?_ _); rotate_left; focus (first | (simp; done) | (simp; omega) | omega)) | (with_reducible (refine Since.trans ?_ (by with_reducible assumption)))))⟩
  · have hU := u_in A n c f p 2 p 2 w h hf rfl rfl (by omega) (by omega) (by omega)
    have hr := numAt_range (f := f) (p := p) (k := 2) (fun j hj => hf j (by omega))
    simp only [Int.reducePow] at hr
    rw [if_neg h2] at h1
    unfold fl8 at h1
    obtain ⟨m, hm⟩ : ∃ m : Nat, numAt f p 2 = m := ⟨(numAt f p 2).toNat, by omega⟩
    rw [hm] at hU h1 hr
    have h3 : n < p + 2 + m := by
      rcases Nat.lt_or_ge n (p + 2 + m) with h | h
      · exact h
      · rw [if_neg (by omega)] at h1; omega
    have hmi : (m : Int) ≤ 140737488355328 := by omega
    have H0 := Lib.hid h
    clear h hf hm h1
    go_enter Try.func60, Try.ntmps60
    go_wp2_with (first | (go_at_call 55; (with_reducible refine hU.mono ?_); rintro e w2 ⟨rfl, rfl⟩) | (go_at_call 56; (with_reducible refine (cut_l_no A n c f (p + 2) m _ _ _ H0.out (by omega) rfl h3 (by omega) (by omega) (by omega) hnc).mono ?_); rintro e w3 ⟨A3, c3, rfl, hS3⟩))
    go_ret2
    exact ⟨_, _, by first | rfl | simp, hS3⟩
end Go.Proofs.Ytcjjcjpkmjbfkaa
