/-
  Layer 8: readPart, readCode, walked.
-/
import Derived.Test.YtpplnapfpoloiaaCoC
namespace Go.Proofs.Ytpplnapfpoloiaa
open Go.RowKit Go.ChangeShapes Go.WideShapes Go.Deep
set_option linter.unusedVariables false


theorem u_out (A : Option Addr) (n c : Nat) (f : Nat → Int) (p m : Nat) (x y : Int) (w : World) (h : Rd w w.heap.size A n (U8 f)) (hf : ∀ j, j < n → 0 ≤ f j ∧ f j ≤ 255) (hx : x = p) (hy : y = m) (hm : 1 ≤ m ∧ m ≤ 4) (hp : n < p + m) (hpn : p ≤ 180000000000000) (hn : n ≤ 140737488355328) :
    Calls Try.prog 62 #[.slice A n c, .int .i64 x, .int .i64 y] w fun e w' => e = .returned (.tuple #[.int .i64 0, .int .i64 3]) ∧ w' = w := by
  subst hx; subst hy
  have h' := be_u A n c f p m w h hf (by unfold In64; omega) (by unfold In64; omega) hn
  unfold uAns at h'
  rw [if_neg (by omega), if_neg (by unfold Fits; omega)] at h'
  simpa using h'

theorem ru_out (A : Option Addr) (n c : Nat) (f : Nat → Int) (p m : Nat) (x y : Int) (w : World) (h : Rd w w.heap.size A n (U8 f)) (hf : ∀ j, j < n → 0 ≤ f j ∧ f j ≤ 255) (hx : x = p) (hy : y = m) (hm : 1 ≤ m ∧ m ≤ 4) (hp : n < p + m) (hpn : p ≤ 180000000000000) (hn : n ≤ 140737488355328) :
    Calls Try.prog 101 #[.slice A n c, .int .i64 x, .int .i64 y] w fun e w' => e = .returned (.tuple #[.int .i64 0, .int .i64 3]) ∧ w' = w := by
  subst hx; subst hy
  have h' := ref_u A n c f p m w h hf (by unfold In64; omega) (by unfold In64; omega) hn
  unfold uAns at h'
  rw [if_neg (by omega), if_neg (by unfold Fits; omega)] at h'
  simpa using h'


theorem s_out (A : Option Addr) (n c : Nat) (f : Nat → Int) (p m : Nat) (x y : Int) (w : World) (h : Rd w w.heap.size A n (U8 f)) (hf : ∀ j, j < n → 0 ≤ f j ∧ f j ≤ 255) (hx : x = p) (hy : y = m) (hm : 1 ≤ m ∧ m ≤ 4) (hp : n < p + m) (hpn : p ≤ 180000000000000) (hn : n ≤ 140737488355328) :
    Calls Try.prog 72 #[.slice A n c, .int .i64 x, .int .i64 y] w fun e w' => e = .returned (.tuple #[.int .i64 0, .int .i64 3]) ∧ w' = w := by
  subst hx; subst hy
  have h' := be_s A n c f p m w h hf (by unfold In64; omega) (by unfold In64; omega) hn
  unfold sAns at h'
  rw [if_neg (by omega), if_neg (by unfold Fits; omega)] at h'
  simpa using h'

theorem cut_l (A : Option Addr) (n c : Nat) (f : Nat → Int) (p m : Nat) (x y : Int) (w : World) (h : Rd w w.heap.size A n (U8 f)) (hx : x = p) (hy : y = m) (hp : p + m ≤ n) (hn : n ≤ 140737488355328) (hnc : n ≤ c) :
    Calls Try.prog 74 #[.slice A n c, .int .i64 x, .int .i64 y] w fun e w' => ∃ A' cap, e = .returned (.tuple #[.slice A' m cap, .int .i64 0]) ∧ m ≤ cap ∧ Nw w' w.heap.size A' m (U8 (fun j => f (p + j))) ∧ Since w w' := by
  subst hx; subst hy
  refine (be_cut A n c f p m w h (by unfold In64; omega) (by unfold In64; omega) hn hnc).mono ?_
  rintro e w' ⟨A', l, cap, rfl, hl, hc, hN, hS⟩
  obtain ⟨e1, e2⟩ := cut_yes (n := n) (k := m) (i := p) ⟨by omega, by unfold Fits; omega⟩
  rw [e2] at hl
  subst hl
  exact ⟨A', cap, by rw [e1], hc, hN, hS⟩
theorem cut_l_no (A : Option Addr) (n c : Nat) (f : Nat → Int) (p m : Nat) (x y : Int) (w : World) (h : Rd w w.heap.size A n (U8 f)) (hx : x = p) (hy : y = m) (hp : n < p + m) (hpn : p ≤ 180000000000000) (hm : m ≤ 180000000000000) (hn : n ≤ 140737488355328) (hnc : n ≤ c) :
    Calls Try.prog 74 #[.slice A n c, .int .i64 x, .int .i64 y] w fun e w' => ∃ A' cap, e = .returned (.tuple #[.slice A' 0 cap, .int .i64 3]) ∧ Since w w' := by
  subst hx; subst hy
  refine (be_cut A n c f p m w h (by unfold In64; omega) (by unfold In64; omega) hn hnc).mono ?_
  rintro e w' ⟨A', l, cap, rfl, hl, hc, hN, hS⟩
  obtain ⟨e1, e2⟩ := cut_no (n := n) (k := m) (i := p) (by unfold Fits; omega)
  rw [e2] at hl
  subst hl
  exact ⟨A', cap, by rw [e1], hS⟩

theorem co_rmat (A : Option Addr) (n c : Nat) (f : Nat → Int) (p k : Nat) (x y : Int) (w : World) (h : Rd w w.heap.size A n (U8 f)) (hf : ∀ j, j < n → 0 ≤ f j ∧ f j ≤ 255) (hx : x = p) (hy : y = k) (hk : k = 0 ∨ k = 1 ∨ k = 2 ∨ k = 4) (hp : p + 2 * k ≤ n) (hn : n ≤ 140737488355328) :
    Calls Try.prog 110 #[.slice A n c, .int .i64 x, .int .i64 y] w fun e w' => e = .returned (.agg (matA f p k).toArray) ∧ Since w w' := by
  subst hy
  rcases hk with rfl | rfl | rfl | rfl
  · exact co_rmat0 A n c f p x w h hf hx hp hn
  · exact co_rmat1 A n c f p x w h hf hx hp hn
  · exact co_rmat2 A n c f p x w h hf hx hp hn
  · exact co_rmat4 A n c f p x w h hf hx hp hn
section
variable {P : Program} {fn : Func} {R : Ending → World → Prop} {a : Act} {w : World}
/-- The end of a function whose results are a struct in memory and three numbers. -/
theorem ret_agg_tmp3 {p q1 q2 q3 ty : Nat} {b : Nat} {cs : List Value} {d : TypeDesc} {x1 x2 x3 : Value} (hf : fn.results = #[.cell p ty, .tmp q1, .tmp q2, .tmp q3]) (hp : a.tmps.getD p undef = .pointer (some ⟨b, 0, none⟩)) (hc : w.rangeAt b 0 cs)
    (hu : P.underlying ty = some d) (hd : d.isRow = true) (hi : (P.info? ty).map (·.size) = some cs.length) (h1 : a.tmps.getD q1 undef = x1) (h2 : a.tmps.getD q2 undef = x2) (h3 : a.tmps.getD q3 undef = x3) (hdf : a.defers = []) (hR : R (.returned (.tuple #[.agg cs.toArray, x1, x2, x3])) w) : bodyPost P fn R .ret a w := by
  refine bodyPost_ret (v := .tuple #[.agg cs.toArray, x1, x2, x3]) ?_ hdf hR
  simp only [results, hf]
  have hl := run_loadVar_mid (P := P) w b 0 ty cs d hc hu hd hi
  have hp' : a.tmps[p]?.getD undef = .pointer (some ⟨b, 0, none⟩) := by simpa using hp
  have h1' : a.tmps[q1]?.getD undef = x1 := by simpa using h1
  have h2' : a.tmps[q2]?.getD undef = x2 := by simpa using h2
  have h3' : a.tmps[q3]?.getD undef = x3 := by simpa using h3
  simp [hp', asAddr, hl, h1', h2', h3']
end
def ptV (p : Pt8) : List Value := [.int .i64 p.g, .int .i64 p.x, .int .i64 p.y, .int .i64 p.m0, .int .i64 p.m1, .int .i64 p.m2, .int .i64 p.m3]
theorem range7 {w : World} {b : Nat} {v0 v1 v2 v3 v4 v5 v6 : Value} (h0 : w.cell? ⟨b, 0, none⟩ = some v0) (h1 : w.cell? ⟨b, 1, none⟩ = some v1) (h2 : w.cell? ⟨b, 2, none⟩ = some v2) (h3 : w.cell? ⟨b, 3, none⟩ = some v3) (h4 : w.cell? ⟨b, 4, none⟩ = some v4) (h5 : w.cell? ⟨b, 5, none⟩ = some v5) (h6 : w.cell? ⟨b, 6, none⟩ = some v6) : w.rangeAt b 0 [v0, v1, v2, v3, v4, v5, v6] := fun j v hv => by
  have hj : j = 0 ∨ j = 1 ∨ j = 2 ∨ j = 3 ∨ j = 4 ∨ j = 5 ∨ j = 6 := by
    have : j < 7 := by
      rcases Nat.lt_or_ge j 7 with h | h
      · exact h
      · rw [List.getElem?_eq_none (by simpa using h)] at hv; cases hv
    omega
  rcases hj with rfl | rfl | rfl | rfl | rfl | rfl | rfl <;> (simp at hv; subst hv; assumption)
def zPt : Pt8 := ⟨0, 0, 0, 0, 0, 0, 0⟩
theorem rd_part7 {w : World} {A : Option Addr} {n : Nat} {V : Nat → Value} (h : Rd w w.heap.size A n V) (o : Obj) : Rd (w.alloc o) (w.alloc o).heap.size A n V := h.on ((Since.refl w).alloc o)
theorem nm8_or (x : Int) : nm8 x = 0 ∨ nm8 x = 1 ∨ nm8 x = 2 ∨ nm8 x = 4 := by unfold nm8; split <;> (try split) <;> (try split) <;> omega
theorem wd8_or (x : Int) : (Has8 x 1 ∧ wd8 x = 2) ∨ (¬ Has8 x 1 ∧ wd8 x = 1) := by
  unfold wd8; by_cases h : Has8 x 1
  · exact .inl ⟨h, if_pos h⟩
  · exact .inr ⟨h, if_neg h⟩
set_option maxRecDepth 100000 in
set_option maxHeartbeats 4000000 in
theorem co_part_no (A : Option Addr) (n c : Nat) (f : Nat → Int) (p : Nat) (x E : Int) (w : World) (h : Rd w w.heap.size A n (U8 f)) (hf : ∀ j, j < n → 0 ≤ f j ∧ f j ≤ 255) (hx : x = p) (hpn : p ≤ 170000000000000) (hn : n ≤ 140737488355328) (hnc : n ≤ c) (he : pe8 f n p = E) (hE : E ≠ 0) :
    Calls Try.prog 91 #[.slice A n c, .int .i64 x] w fun e w' => e = .returned (.tuple #[.agg (ptV zPt).toArray, .int .i64 0, .int .i64 0, .int .i64 E]) ∧ Since w w' := by
  subst hx
  have hpi : (p : Int) ≤ 170000000000000 := by omega
  have ht1 := rd_part7 h (.cells #[.int .i64 0, .int .i64 0, .int .i64 0, .int .i64 0, .int .i64 0, .int .i64 0, .int .i64 0] 123)
  unfold pe8 at he
  have tok1 := True.intro
  by_cases h4 : n < p + 4
  · rw [if_pos h4] at he
    subst he
    by_cases h2 : n < p + 2
    · clear h
      go_enter Try.func91, Try.ntmps91
      go_wp2_with (first | (go_at_call 62; have _t := tok1; (with_reducible refine (u_out A n c f p 2 _ _ _ ht1 hf (by omega) (by omega) (by omega) (by omega) (by omega) (by omega)).mono ?_); rintro e w2 ⟨rfl, rfl⟩; clear tok1; have tok2 := True.intro) | (go_at_call 62; have _t := tok2; (with_reducible refine (u_out A n c f (p + 2) 2 _ _ _ ht1 hf (by omega) (by omega) (by omega) (by omega) (by omega) (by omega)).mono ?_); rintro e w3 ⟨rfl, rfl⟩))
      refine ret_agg_tmp3 rfl rfl (cs := ptV zPt) (range7 (by simp [go_sem]; rfl) (by simp [go_sem]; rfl) (by simp [go_sem]; rfl) (by simp [go_sem]; rfl) (by simp [go_sem]; rfl) (by simp [go_sem]; rfl) (by simp [go_sem]; rfl)) Try.underlying123 rfl (by kernel_rfl) rfl rfl rfl rfl ⟨rfl, by (repeat (first | with_reducible (exact Since.refl _) | with_reducible assumption | with_reducible (refine Since.drew ?_) | with_reducible (refine Since.drewN ?_ _) | with_reducible (refine Since.alloc ?_ _) | (with_reducible (refine Since.setCell ?_ ?_ _); rotate_left; focus (first | (simp; done) | (simp; omega) | omega)) | (with_reducible (refine Since.trans ?_ (by with_reducible assumption)))))⟩
    · clear h
      have hr := numAt_range (f := f) (p := p) (k := 2) (fun j hj => hf j (by omega))
      generalize numAt f p 2 = fl at *
      go_enter Try.func91, Try.ntmps91
      go_wp2_with (first | (go_at_call 62; have _t := tok1; (with_reducible refine (u_in A n c f p 2 _ _ _ ht1 hf (by omega) (by omega) (by omega) (by omega) (by omega)).mono ?_); rintro e w2 ⟨rfl, rfl⟩; clear tok1; have tok2 := True.intro) | (go_at_call 62; have _t := tok2; (with_reducible refine (u_out A n c f (p + 2) 2 _ _ _ ht1 hf (by omega) (by omega) (by omega) (by omega) (by omega) (by omega)).mono ?_); rintro e w3 ⟨rfl, rfl⟩))
      refine ret_agg_tmp3 rfl rfl (cs := ptV zPt) (range7 (by simp [go_sem]; rfl) (by simp [go_sem]; rfl) (by simp [go_sem]; rfl) (by simp [go_sem]; rfl) (by simp [go_sem]; rfl) (by simp [go_sem]; rfl) (by simp [go_sem]; rfl)) Try.underlying123 rfl (by kernel_rfl) rfl rfl rfl rfl ⟨rfl, by (repeat (first | with_reducible (exact Since.refl _) | with_reducible assumption | with_reducible (refine Since.drew ?_) | with_reducible (refine Since.drewN ?_ _) | with_reducible (refine Since.alloc ?_ _) | (with_reducible (refine Since.setCell ?_ ?_ _); rotate_left; focus (first | (simp; done) | (simp; omega) | omega)) | (with_reducible (refine Since.trans ?_ (by with_reducible assumption)))))⟩
  rw [if_neg h4] at he
  have hr := numAt_range (f := f) (p := p) (k := 2) (fun j hj => hf j (by omega))
  simp only [Int.reducePow] at hr
  by_cases hb : Has8 (fl8 f p) 2
  · rw [if_neg (by simp [hb])] at he
    by_cases h5 : n < p + sz8 (fl8 f p)
    · rw [if_pos h5] at he
      subst he
      unfold fl8 at hb h5
      have HM : ∀ w2, Calls Try.prog 109 #[.int .i64 (numAt f p 2)] w2 fun e w' => e = .returned (.int .i64 (nm8 (numAt f p 2))) ∧ w' = w2 := fun w2 => co_msize _ w2 hr.1 hr.2
      have a2 := (and_b2 hr.1 (by omega)).1 hb
      have a1 := and_b1 (x := numAt f p 2) hr.1 (by omega)
      have hU : ∀ w2, Rd w2 w2.heap.size A n (U8 f) → Calls Try.prog 62 #[.slice A n c, .int .i64 (p : Int), .int .i64 2] w2 fun e w' => e = .returned (.tuple #[.int .i64 (numAt f p 2), .int .i64 0]) ∧ w' = w2 := fun w2 h2 => u_in A n c f p 2 _ _ w2 h2 hf (by omega) (by omega) (by omega) (by omega) (by omega)
      have hV : ∀ w2, Rd w2 w2.heap.size A n (U8 f) → Calls Try.prog 62 #[.slice A n c, .int .i64 ((p : Int) + 2), .int .i64 2] w2 fun e w' => e = .returned (.tuple #[.int .i64 (numAt f (p + 2) 2), .int .i64 0]) ∧ w' = w2 := fun w2 h2 => u_in A n c f (p + 2) 2 _ _ w2 h2 hf (by omega) (by omega) (by omega) (by omega) (by omega)
      have hk := nm8_or (numAt f p 2)
      have hw := wd8_or (numAt f p 2)
      unfold sz8 at h5
      generalize numAt f p 2 = fl at *
      generalize numAt f (p + 2) 2 = gl at *
      generalize nm8 fl = k at *
      have hki : (k : Int) ≤ 4 := by omega
      have HU := Lib.hid hU
      have HV := Lib.hid hV
      have HMM := Lib.hid HM
      have HF := Lib.hid hf
      have H0 := Lib.hid h
      clear hU hV HM hr hb hf hk h
      rcases hw with ⟨c1, hw⟩ | ⟨c1, hw⟩
      · rw [hw] at h5
        have d1 := a1.1 c1
        clear a1 c1 hw
        go_enter Try.func91, Try.ntmps91
        go_wp2_with (first | (go_at_call 62; have _t := tok1; (with_reducible refine (HU.out _ ht1).mono ?_); rintro e w2 ⟨rfl, rfl⟩; clear tok1; have tok2 := True.intro) | (go_at_call 62; have _t := tok2; (with_reducible refine (HV.out _ ht1).mono ?_); rintro e w3 ⟨rfl, rfl⟩; clear tok2) | (go_at_call 109; (with_reducible refine (HMM.out _).mono ?_); rintro e w4 ⟨rfl, rfl⟩) | (go_at_call 74; (with_reducible refine (cut_l_no A n c f p (4 + 2 * 2 + 2 * k) _ _ _ (rd_part7 H0.out _) rfl (by omega) (by omega) (by omega) (by omega) (by omega) hnc).mono ?_); rintro e w5 ⟨A5, c5, rfl, hS5⟩; have hT5 : Since w w5 := (by (repeat (first | with_reducible (exact Since.refl _) | with_reducible assumption | with_reducible (refine Since.drew ?_) | with_reducible (refine Since.drewN ?_ _) | with_reducible (refine Since.alloc ?_ _) | (with_reducible (refine Since.setCell ?_ ?_ _); rotate_left; focus (first | (simp; done) | (simp; omega) | omega)) | (with_reducible (refine Since.trans ?_ (by with_reducible assumption)))))); obtain ⟨hc5, hf5, hz5, hb5⟩ := hS5; have hq5 : w.heap.size < w.heap.size + 1 := (by omega); have hp5 := hz5 w.heap.size (by simp); have hp6 := Nat.le_of_lt hp5; have k0 : w5.cell? ⟨w.heap.size, 0, none⟩ = some (.int .i64 gl) := (hc5 _ _ (by simp)).trans (by simp); have k1 : w5.cell? ⟨w.heap.size, 1, none⟩ = some (.int .i64 0) := (hc5 _ _ (by simp)).trans (by simp); have k2 : w5.cell? ⟨w.heap.size, 2, none⟩ = some (.int .i64 0) := (hc5 _ _ (by simp)).trans (by simp); have k3 : w5.cell? ⟨w.heap.size, 3, none⟩ = some (.int .i64 0) := (hc5 _ _ (by simp)).trans (by simp); have k4 : w5.cell? ⟨w.heap.size, 4, none⟩ = some (.int .i64 0) := (hc5 _ _ (by simp)).trans (by simp); have k5 : w5.cell? ⟨w.heap.size, 5, none⟩ = some (.int .i64 0) := (hc5 _ _ (by simp)).trans (by simp); have k6 : w5.cell? ⟨w.heap.size, 6, none⟩ = some (.int .i64 0) := (hc5 _ _ (by simp)).trans (by simp)))
        refine ret_agg_tmp3 rfl rfl (cs := ptV zPt) (range7 (by simp [go_sem, zPt, k0]) (by simp [go_sem, zPt, k1]) (by simp [go_sem, zPt, k2]) (by simp [go_sem, zPt, k3]) (by simp [go_sem, zPt, k4]) (by simp [go_sem, zPt, k5]) (by simp [go_sem, zPt, k6])) Try.underlying123 rfl (by kernel_rfl) rfl rfl rfl rfl ⟨rfl, ?_⟩
        (repeat (first | with_reducible (exact Since.refl _) | with_reducible assumption | with_reducible (refine Since.drew ?_) | with_reducible (refine Since.drewN ?_ _) | with_reducible (refine Since.alloc ?_ _) | (with_reducible (refine Since.setCell ?_ ?_ _); rotate_left; focus (first | (simp; done) | (simp; omega) | omega)) | (with_reducible (refine Since.trans ?_ (by with_reducible assumption)))))
      · rw [hw] at h5
        have d1 := a1.2 c1
        clear a1 c1 hw
        go_enter Try.func91, Try.ntmps91
        go_wp2_with (first | (go_at_call 62; have _t := tok1; (with_reducible refine (HU.out _ ht1).mono ?_); rintro e w2 ⟨rfl, rfl⟩; clear tok1; have tok2 := True.intro) | (go_at_call 62; have _t := tok2; (with_reducible refine (HV.out _ ht1).mono ?_); rintro e w3 ⟨rfl, rfl⟩; clear tok2) | (go_at_call 109; (with_reducible refine (HMM.out _).mono ?_); rintro e w4 ⟨rfl, rfl⟩) | (go_at_call 74; (with_reducible refine (cut_l_no A n c f p (4 + 2 * 1 + 2 * k) _ _ _ (rd_part7 H0.out _) rfl (by omega) (by omega) (by omega) (by omega) (by omega) hnc).mono ?_); rintro e w5 ⟨A5, c5, rfl, hS5⟩; have hT5 : Since w w5 := (by (repeat (first | with_reducible (exact Since.refl _) | with_reducible assumption | with_reducible (refine Since.drew ?_) | with_reducible (refine Since.drewN ?_ _) | with_reducible (refine Since.alloc ?_ _) | (with_reducible (refine Since.setCell ?_ ?_ _); rotate_left; focus (first | (simp; done) | (simp; omega) | omega)) | (with_reducible (refine Since.trans ?_ (by with_reducible assumption)))))); obtain ⟨hc5, hf5, hz5, hb5⟩ := hS5; have hq5 : w.heap.size < w.heap.size + 1 := (by omega); have hp5 := hz5 w.heap.size (by simp); have hp6 := Nat.le_of_lt hp5; have k0 : w5.cell? ⟨w.heap.size, 0, none⟩ = some (.int .i64 gl) := (hc5 _ _ (by simp)).trans (by simp); have k1 : w5.cell? ⟨w.heap.size, 1, none⟩ = some (.int .i64 0) := (hc5 _ _ (by simp)).trans (by simp); have k2 : w5.cell? ⟨w.heap.size, 2, none⟩ = some (.int .i64 0) := (hc5 _ _ (by simp)).trans (by simp); have k3 : w5.cell? ⟨w.heap.size, 3, none⟩ = some (.int .i64 0) := (hc5 _ _ (by simp)).trans (by simp); have k4 : w5.cell? ⟨w.heap.size, 4, none⟩ = some (.int .i64 0) := (hc5 _ _ (by simp)).trans (by simp); have k5 : w5.cell? ⟨w.heap.size, 5, none⟩ = some (.int .i64 0) := (hc5 _ _ (by simp)).trans (by simp); have k6 : w5.cell? ⟨w.heap.size, 6, none⟩ = some (.int .i64 0) := (hc5 _ _ (by simp)).trans (by simp)))
        refine ret_agg_tmp3 rfl rfl (cs := ptV zPt) (range7 (by simp [go_sem, zPt, k0]) (by simp [go_sem, zPt, k1]) (by simp [go_sem, zPt, k2]) (by simp [go_sem, zPt, k3]) (by simp [go_sem, zPt, k4]) (by simp [go_sem, zPt, k5]) (by simp [go_sem, zPt, k6])) Try.underlying123 rfl (by kernel_rfl) rfl rfl rfl rfl ⟨rfl, ?_⟩
        (repeat (first | with_reducible (exact Since.refl _) | with_reducible assumption | with_reducible (refine Since.drew ?_) | with_reducible (refine Since.drewN ?_ _) | with_reducible (refine Since.alloc ?_ _) | (with_reducible (refine Since.setCell ?_ ?_ _); rotate_left; focus (first | (simp; done) | (simp; omega) | omega)) | (with_reducible (refine Since.trans ?_ (by with_reducible assumption)))))
    · rw [if_neg h5] at he
      exact absurd he.symm hE
  · rw [if_pos hb] at he
    subst he
    unfold fl8 at hb
    have a2 := (and_b2 (x := numAt f p 2) hr.1 (by omega)).2 hb
    clear h
    generalize numAt f (p + 2) 2 = gl at *
    go_enter Try.func91, Try.ntmps91
    go_wp2_with (first | (go_at_call 62; have _t := tok1; (with_reducible refine (u_in A n c f p 2 _ _ _ ht1 hf (by omega) (by omega) (by omega) (by omega) (by omega)).mono ?_); rintro e w2 ⟨rfl, rfl⟩; clear tok1; have tok2 := True.intro) | (go_at_call 62; have _t := tok2; (with_reducible refine (u_in A n c f (p + 2) 2 _ _ _ ht1 hf (by omega) (by omega) (by omega) (by omega) (by omega)).mono ?_); rintro e w3 ⟨rfl, rfl⟩))
    refine ret_agg_tmp3 rfl rfl (cs := ptV zPt) (range7 (by simp [go_sem]; rfl) (by simp [go_sem]; rfl) (by simp [go_sem]; rfl) (by simp [go_sem]; rfl) (by simp [go_sem]; rfl) (by simp [go_sem]; rfl) (by simp [go_sem]; rfl)) Try.underlying123 rfl (by kernel_rfl) rfl rfl rfl rfl ⟨rfl, by (repeat (first | with_reducible (exact Since.refl _) | with_reducible assumption | with_reducible (refine Since.drew ?_) | with_reducible (refine Since.drewN ?_ _) | with_reducible (refine Since.alloc ?_ _) | (with_reducible (refine Since.setCell ?_ ?_ _); rotate_left; focus (first | (simp; done) | (simp; omega) | omega)) | (with_reducible (refine Since.trans ?_ (by with_reducible assumption)))))⟩
end Go.Proofs.Ytpplnapfpoloiaa
