/-
  Layer 5: 'Maxp', 'Count', 'PutCount', walked, program and reference.
-/
import Derived.Test.YtefalfdillnkfaaDoorHdC
namespace Go.Proofs.YtefalfdillnkfaaDoor
open Go.RowKit
set_option linter.unusedVariables false

def mxE (f : Nat → Int) (n : Nat) : Int := if n < 32 then 3 else if numAt f 0 4 ≠ 65536 then 4 else 0
def mxN (f : Nat → Int) (n p : Nat) : Int := if mxE f n = 0 then numAt f p 2 else 0
def MxV (a b c d e g i : Int) : Value := .agg #[.int .i64 a, .int .i64 b, .int .i64 c, .int .i64 d, .int .i64 e, .int .i64 g, .int .i64 i]
def MxPost (f : Nat → Int) (n : Nat) (w : World) (e : Ending) (w' : World) : Prop := e = .returned (.tuple #[MxV (mxN f n 4) (mxN f n 6) (mxN f n 8) (mxN f n 10) (mxN f n 12) (mxN f n 28) (mxN f n 30), .int .i64 (mxE f n)]) ∧ Since w w'
theorem mx_bad {f : Nat → Int} {n : Nat} {E : Int} {w w' : World} (hE : mxE f n = E) (h0 : E ≠ 0) (hS : Since w w') : MxPost f n w (.returned (.tuple #[MxV 0 0 0 0 0 0 0, .int .i64 E])) w' := by
  subst hE
  have e : ∀ p, mxN f n p = 0 := fun p => by unfold mxN; rw [if_neg h0]
  unfold MxPost
  rw [e, e, e, e, e, e, e]
  exact ⟨rfl, hS⟩
theorem mx_good {f : Nat → Int} {n : Nat} {w w' : World} (hE : mxE f n = 0) (hS : Since w w') : MxPost f n w (.returned (.tuple #[MxV (numAt f 4 2) (numAt f 6 2) (numAt f 8 2) (numAt f 10 2) (numAt f 12 2) (numAt f 28 2) (numAt f 30 2), .int .i64 0])) w' := by
  have e : ∀ p, mxN f n p = numAt f p 2 := fun p => by unfold mxN; rw [if_pos hE]
  unfold MxPost
  rw [e, e, e, e, e, e, e, hE]
  exact ⟨rfl, hS⟩

set_option maxRecDepth 100000 in
set_option maxHeartbeats 8000000 in
theorem hd_maxp (A : Option Addr) (n c : Nat) (f : Nat → Int) (w : World) (hT : Tabs w) (h : Rd w w.heap.size A n (U8 f)) (hf : ∀ j, j < n → 0 ≤ f j ∧ f j ≤ 255) (hn : n ≤ 140737488355328) :
    Calls Tryd.prog 11 #[.slice A n c] w (MxPost f n w) := by
  have hn' : (n : Int) ≤ 140737488355328 := by omega
  by_cases h1 : n < 32
  · have E := Lib.hid (show mxE f n = 3 by unfold mxE; rw [if_pos h1])
    have h1' : (n : Int) < 32 := by omega
    clear h
    go_enter Tryd.func11, Tryd.ntmps11
    go_wp2
    refine bodyPost_ret (v := .tuple #[.agg #[.int .i64 0, .int .i64 0, .int .i64 0, .int .i64 0, .int .i64 0, .int .i64 0, .int .i64 0], .int .i64 3]) (by simp only [results, Tryd.results11]; go_simp) rfl ?_
    exact mx_bad E.out (by decide) (by (repeat (first | with_reducible (exact Since.refl _) | with_reducible assumption | with_reducible (refine Since.drew ?_) | with_reducible (refine Since.drewN ?_ _) | with_reducible (refine Since.alloc ?_ _) | (with_reducible (refine Since.setCell ?_ ?_ _); rotate_left; focus (first | (simp; done) | (simp; omega) | omega)) | (with_reducible (refine Since.trans ?_ (by with_reducible assumption))))))
  have h1' : (32 : Int) ≤ n := by omega
  have u0 : ∀ w1, Since w w1 → Calls Tryd.prog 23 #[.slice A n c, .int .i64 0, .int .i64 4] w1 fun e w' => e = .returned (.tuple #[.int .i64 (numAt f 0 4), .int .i64 0]) ∧ w' = w1 := fun w1 hS => u_in A n c f 0 4 0 4 w1 (h.on hS) hf rfl rfl (by omega) (by omega) hn
  have u4 : ∀ w1, Since w w1 → Calls Tryd.prog 23 #[.slice A n c, .int .i64 4, .int .i64 2] w1 fun e w' => e = .returned (.tuple #[.int .i64 (numAt f 4 2), .int .i64 0]) ∧ w' = w1 := fun w1 hS => u_in A n c f 4 2 4 2 w1 (h.on hS) hf rfl rfl (by omega) (by omega) hn
  have u6 : ∀ w1, Since w w1 → Calls Tryd.prog 23 #[.slice A n c, .int .i64 6, .int .i64 2] w1 fun e w' => e = .returned (.tuple #[.int .i64 (numAt f 6 2), .int .i64 0]) ∧ w' = w1 := fun w1 hS => u_in A n c f 6 2 6 2 w1 (h.on hS) hf rfl rfl (by omega) (by omega) hn
  have u8 : ∀ w1, Since w w1 → Calls Tryd.prog 23 #[.slice A n c, .int .i64 8, .int .i64 2] w1 fun e w' => e = .returned (.tuple #[.int .i64 (numAt f 8 2), .int .i64 0]) ∧ w' = w1 := fun w1 hS => u_in A n c f 8 2 8 2 w1 (h.on hS) hf rfl rfl (by omega) (by omega) hn
  have u10 : ∀ w1, Since w w1 → Calls Tryd.prog 23 #[.slice A n c, .int .i64 10, .int .i64 2] w1 fun e w' => e = .returned (.tuple #[.int .i64 (numAt f 10 2), .int .i64 0]) ∧ w' = w1 := fun w1 hS => u_in A n c f 10 2 10 2 w1 (h.on hS) hf rfl rfl (by omega) (by omega) hn
  have u12 : ∀ w1, Since w w1 → Calls Tryd.prog 23 #[.slice A n c, .int .i64 12, .int .i64 2] w1 fun e w' => e = .returned (.tuple #[.int .i64 (numAt f 12 2), .int .i64 0]) ∧ w' = w1 := fun w1 hS => u_in A n c f 12 2 12 2 w1 (h.on hS) hf rfl rfl (by omega) (by omega) hn
  have u28 : ∀ w1, Since w w1 → Calls Tryd.prog 23 #[.slice A n c, .int .i64 28, .int .i64 2] w1 fun e w' => e = .returned (.tuple #[.int .i64 (numAt f 28 2), .int .i64 0]) ∧ w' = w1 := fun w1 hS => u_in A n c f 28 2 28 2 w1 (h.on hS) hf rfl rfl (by omega) (by omega) hn
  have u30 : ∀ w1, Since w w1 → Calls Tryd.prog 23 #[.slice A n c, .int .i64 30, .int .i64 2] w1 fun e w' => e = .returned (.tuple #[.int .i64 (numAt f 30 2), .int .i64 0]) ∧ w' = w1 := fun w1 hS => u_in A n c f 30 2 30 2 w1 (h.on hS) hf rfl rfl (by omega) (by omega) hn
  have hE : mxE f n = if numAt f 0 4 ≠ 65536 then 4 else 0 := by unfold mxE; rw [if_neg h1]
  have HG : ∀ w', Since w w' → mxE f n = 0 → MxPost f n w _ w' := fun w' hS h0 => mx_good h0 hS
  clear h
  generalize numAt f 4 2 = y4 at *
  generalize numAt f 6 2 = y6 at *
  generalize numAt f 8 2 = y8 at *
  generalize numAt f 10 2 = y10 at *
  generalize numAt f 12 2 = y12 at *
  generalize numAt f 28 2 = y28 at *
  generalize numAt f 30 2 = y30 at *
  generalize numAt f 0 4 = x0 at *
  have U0 := Lib.hid u0
  have U4 := Lib.hid u4
  have U6 := Lib.hid u6
  have U8 := Lib.hid u8
  have U10 := Lib.hid u10
  have U12 := Lib.hid u12
  have U28 := Lib.hid u28
  have U30 := Lib.hid u30
  clear u0 u4 u6 u8 u10 u12 u28 u30
  by_cases hb : x0 ≠ 65536
  · have E := Lib.hid (show mxE f n = 4 by rw [hE, if_pos hb])
    have d0 : (x0 != 65536) = true := by simpa using hb
    clear hE HG
    go_enter Tryd.func11, Tryd.ntmps11
    go_wp2_with (go_at_call 23; (first | (with_reducible refine Calls.mono (U0.out _ ?_) ?_)); (focus (repeat (first | with_reducible (exact Since.refl _) | with_reducible assumption | with_reducible (refine Since.drew ?_) | with_reducible (refine Since.drewN ?_ _) | with_reducible (refine Since.alloc ?_ _) | (with_reducible (refine Since.setCell ?_ ?_ _); rotate_left; focus (first | (simp; done) | (simp; omega) | omega)) | (with_reducible (refine Since.trans ?_ (by with_reducible assumption)))))); rintro e w1 ⟨rfl, rfl⟩)
    refine bodyPost_ret (v := .tuple #[.agg #[.int .i64 0, .int .i64 0, .int .i64 0, .int .i64 0, .int .i64 0, .int .i64 0, .int .i64 0], .int .i64 4]) (by simp only [results, Tryd.results11]; go_simp) rfl ?_
    exact mx_bad E.out (by decide) (by (repeat (first | with_reducible (exact Since.refl _) | with_reducible assumption | with_reducible (refine Since.drew ?_) | with_reducible (refine Since.drewN ?_ _) | with_reducible (refine Since.alloc ?_ _) | (with_reducible (refine Since.setCell ?_ ?_ _); rotate_left; focus (first | (simp; done) | (simp; omega) | omega)) | (with_reducible (refine Since.trans ?_ (by with_reducible assumption))))))
  · have G := Lib.hid (fun w' (hS : Since w w') => HG w' hS (by rw [hE, if_neg hb]))
    obtain rfl : x0 = 65536 := by omega
    clear hE HG hb
    obtain ⟨t0, ta, t1, t2, t3, t4, t5, t6, t7⟩ := hT
    have t8 : 1 < w.heap.size := by omega
    have t9 : 0 < w.heap.size := by omega
    have x0 := mx0; have x1 := mx1; have x2 := mx2; have x3 := mx3; have x4 := mx4; have x5 := mx5; have x6 := mx6
    clear ta
    go_enter Tryd.func11, Tryd.ntmps11
    go_wp2_with (go_at_call 23; (first | (with_reducible refine Calls.mono (U0.out _ ?_) ?_) | (with_reducible refine Calls.mono (U4.out _ ?_) ?_) | (with_reducible refine Calls.mono (U6.out _ ?_) ?_) | (with_reducible refine Calls.mono (U8.out _ ?_) ?_) | (with_reducible refine Calls.mono (U10.out _ ?_) ?_) | (with_reducible refine Calls.mono (U12.out _ ?_) ?_) | (with_reducible refine Calls.mono (U28.out _ ?_) ?_) | (with_reducible refine Calls.mono (U30.out _ ?_) ?_)); (focus (repeat (first | with_reducible (exact Since.refl _) | with_reducible assumption | with_reducible (refine Since.drew ?_) | with_reducible (refine Since.drewN ?_ _) | with_reducible (refine Since.alloc ?_ _) | (with_reducible (refine Since.setCell ?_ ?_ _); rotate_left; focus (first | (simp; done) | (simp; omega) | omega)) | (with_reducible (refine Since.trans ?_ (by with_reducible assumption)))))); rintro e w1 ⟨rfl, rfl⟩)
    refine wp_loop_rounds 8 ?_
    rw [rounds_succ]
    go_wp2_with (go_at_call 23; (first | (with_reducible refine Calls.mono (U4.out _ ?_) ?_) | (with_reducible refine Calls.mono (U6.out _ ?_) ?_) | (with_reducible refine Calls.mono (U8.out _ ?_) ?_) | (with_reducible refine Calls.mono (U10.out _ ?_) ?_) | (with_reducible refine Calls.mono (U12.out _ ?_) ?_) | (with_reducible refine Calls.mono (U28.out _ ?_) ?_) | (with_reducible refine Calls.mono (U30.out _ ?_) ?_)); (focus (repeat (first | with_reducible (exact Since.refl _) | with_reducible assumption | with_reducible (refine Since.drew ?_) | with_reducible (refine Since.drewN ?_ _) | with_reducible (refine Since.alloc ?_ _) | (with_reducible (refine Since.setCell ?_ ?_ _); rotate_left; focus (first | (simp; done) | (simp; omega) | omega)) | (with_reducible (refine Since.trans ?_ (by with_reducible assumption)))))); rintro e w1 ⟨rfl, rfl⟩)
    rw [rounds_succ]
    go_wp2_with (go_at_call 23; (first | (with_reducible refine Calls.mono (U4.out _ ?_) ?_) | (with_reducible refine Calls.mono (U6.out _ ?_) ?_) | (with_reducible refine Calls.mono (U8.out _ ?_) ?_) | (with_reducible refine Calls.mono (U10.out _ ?_) ?_) | (with_reducible refine Calls.mono (U12.out _ ?_) ?_) | (with_reducible refine Calls.mono (U28.out _ ?_) ?_) | (with_reducible refine Calls.mono (U30.out _ ?_) ?_)); (focus (repeat (first | with_reducible (exact Since.refl _) | with_reducible assumption | with_reducible (refine Since.drew ?_) | with_reducible (refine Since.drewN ?_ _) | with_reducible (refine Since.alloc ?_ _) | (with_reducible (refine Since.setCell ?_ ?_ _); rotate_left; focus (first | (simp; done) | (simp; omega) | omega)) | (with_reducible (refine Since.trans ?_ (by with_reducible assumption)))))); rintro e w1 ⟨rfl, rfl⟩)
    rw [rounds_succ]
    go_wp2_with (go_at_call 23; (first | (with_reducible refine Calls.mono (U4.out _ ?_) ?_) | (with_reducible refine Calls.mono (U6.out _ ?_) ?_) | (with_reducible refine Calls.mono (U8.out _ ?_) ?_) | (with_reducible refine Calls.mono (U10.out _ ?_) ?_) | (with_reducible refine Calls.mono (U12.out _ ?_) ?_) | (with_reducible refine Calls.mono (U28.out _ ?_) ?_) | (with_reducible refine Calls.mono (U30.out _ ?_) ?_)); (focus (repeat (first | with_reducible (exact Since.refl _) | with_reducible assumption | with_reducible (refine Since.drew ?_) | with_reducible (refine Since.drewN ?_ _) | with_reducible (refine Since.alloc ?_ _) | (with_reducible (refine Since.setCell ?_ ?_ _); rotate_left; focus (first | (simp; done) | (simp; omega) | omega)) | (with_reducible (refine Since.trans ?_ (by with_reducible assumption)))))); rintro e w1 ⟨rfl, rfl⟩)
    rw [rounds_succ]
    go_wp2_with (go_at_call 23; (first | (with_reducible refine Calls.mono (U4.out _ ?_) ?_) | (with_reducible refine Calls.mono (U6.out _ ?_) ?_) | (with_reducible refine Calls.mono (U8.out _ ?_) ?_) | (with_reducible refine Calls.mono (U10.out _ ?_) ?_) | (with_reducible refine Calls.mono (U12.out _ ?_) ?_) | (with_reducible refine Calls.mono (U28.out _ ?_) ?_) | (with_reducible refine Calls.mono (U30.out _ ?_) ?_)); (focus (repeat (first | with_reducible (exact Since.refl _) | with_reducible assumption | with_reducible (refine Since.drew ?_) | with_reducible (refine Since.drewN ?_ _) | with_reducible (refine Since.alloc ?_ _) | (with_reducible (refine Since.setCell ?_ ?_ _); rotate_left; focus (first | (simp; done) | (simp; omega) | omega)) | (with_reducible (refine Since.trans ?_ (by with_reducible assumption)))))); rintro e w1 ⟨rfl, rfl⟩)
    rw [rounds_succ]
    go_wp2_with (go_at_call 23; (first | (with_reducible refine Calls.mono (U4.out _ ?_) ?_) | (with_reducible refine Calls.mono (U6.out _ ?_) ?_) | (with_reducible refine Calls.mono (U8.out _ ?_) ?_) | (with_reducible refine Calls.mono (U10.out _ ?_) ?_) | (with_reducible refine Calls.mono (U12.out _ ?_) ?_) | (with_reducible refine Calls.mono (U28.out _ ?_) ?_) | (with_reducible refine Calls.mono (U30.out _ ?_) ?_)); (focus (repeat (first | with_reducible (exact Since.refl _) | with_reducible assumption | with_reducible (refine Since.drew ?_) | with_reducible (refine Since.drewN ?_ _) | with_reducible (refine Since.alloc ?_ _) | (with_reducible (refine Since.setCell ?_ ?_ _); rotate_left; focus (first | (simp; done) | (simp; omega) | omega)) | (with_reducible (refine Since.trans ?_ (by with_reducible assumption)))))); rintro e w1 ⟨rfl, rfl⟩)
    rw [rounds_succ]
    go_wp2_with (go_at_call 23; (first | (with_reducible refine Calls.mono (U4.out _ ?_) ?_) | (with_reducible refine Calls.mono (U6.out _ ?_) ?_) | (with_reducible refine Calls.mono (U8.out _ ?_) ?_) | (with_reducible refine Calls.mono (U10.out _ ?_) ?_) | (with_reducible refine Calls.mono (U12.out _ ?_) ?_) | (with_reducible refine Calls.mono (U28.out _ ?_) ?_) | (with_reducible refine Calls.mono (U30.out _ ?_) ?_)); (focus (repeat (first | with_reducible (exact Since.refl _) | with_reducible assumption | with_reducible (refine Since.drew ?_) | with_reducible (refine Since.drewN ?_ _) | with_reducible (refine Since.alloc ?_ _) | (with_reducible (refine Since.setCell ?_ ?_ _); rotate_left; focus (first | (simp; done) | (simp; omega) | omega)) | (with_reducible (refine Since.trans ?_ (by with_reducible assumption)))))); rintro e w1 ⟨rfl, rfl⟩)
    rw [rounds_succ]
    go_wp2_with (go_at_call 23; (first | (with_reducible refine Calls.mono (U4.out _ ?_) ?_) | (with_reducible refine Calls.mono (U6.out _ ?_) ?_) | (with_reducible refine Calls.mono (U8.out _ ?_) ?_) | (with_reducible refine Calls.mono (U10.out _ ?_) ?_) | (with_reducible refine Calls.mono (U12.out _ ?_) ?_) | (with_reducible refine Calls.mono (U28.out _ ?_) ?_) | (with_reducible refine Calls.mono (U30.out _ ?_) ?_)); (focus (repeat (first | with_reducible (exact Since.refl _) | with_reducible assumption | with_reducible (refine Since.drew ?_) | with_reducible (refine Since.drewN ?_ _) | with_reducible (refine Since.alloc ?_ _) | (with_reducible (refine Since.setCell ?_ ?_ _); rotate_left; focus (first | (simp; done) | (simp; omega) | omega)) | (with_reducible (refine Since.trans ?_ (by with_reducible assumption)))))); rintro e w1 ⟨rfl, rfl⟩)
    rw [rounds_succ]
    go_wp2_with (go_at_call 23; (first | (with_reducible refine Calls.mono (U4.out _ ?_) ?_) | (with_reducible refine Calls.mono (U6.out _ ?_) ?_) | (with_reducible refine Calls.mono (U8.out _ ?_) ?_) | (with_reducible refine Calls.mono (U10.out _ ?_) ?_) | (with_reducible refine Calls.mono (U12.out _ ?_) ?_) | (with_reducible refine Calls.mono (U28.out _ ?_) ?_) | (with_reducible refine Calls.mono (U30.out _ ?_) ?_)); (focus (repeat (first | with_reducible (exact Since.refl _) | with_reducible assumption | with_reducible (refine Since.drew ?_) | with_reducible (refine Since.drewN ?_ _) | with_reducible (refine Since.alloc ?_ _) | (with_reducible (refine Since.setCell ?_ ?_ _); rotate_left; focus (first | (simp; done) | (simp; omega) | omega)) | (with_reducible (refine Since.trans ?_ (by with_reducible assumption)))))); rintro e w1 ⟨rfl, rfl⟩)
    refine bodyPost_ret (v := .tuple #[.agg #[.int .i64 y4, .int .i64 y6, .int .i64 y8, .int .i64 y10, .int .i64 y12, .int .i64 y28, .int .i64 y30], .int .i64 0]) (by simp only [results, Tryd.results11]; go_simp) rfl ?_
    exact G.out _ (by (repeat (first | with_reducible (exact Since.refl _) | with_reducible assumption | with_reducible (refine Since.drew ?_) | with_reducible (refine Since.drewN ?_ _) | with_reducible (refine Since.alloc ?_ _) | (with_reducible (refine Since.setCell ?_ ?_ _); rotate_left; focus (first | (simp; done) | (simp; omega) | omega)) | (with_reducible (refine Since.trans ?_ (by with_reducible assumption))))))
set_option maxRecDepth 100000 in
set_option maxHeartbeats 8000000 in
theorem rf_maxp (A : Option Addr) (n c : Nat) (f : Nat → Int) (w : World) (h : Rd w w.heap.size A n (U8 f)) (hf : ∀ j, j < n → 0 ≤ f j ∧ f j ≤ 255) (hn : n ≤ 140737488355328) :
    Calls Tryd.prog 14 #[.slice A n c] w (MxPost f n w) := by
  have hn' : (n : Int) ≤ 140737488355328 := by omega
  by_cases h1 : n < 32
  · have E := Lib.hid (show mxE f n = 3 by unfold mxE; rw [if_pos h1])
    have h1' : (n : Int) < 32 := by omega
    clear h
    go_enter Tryd.func14, Tryd.ntmps14
    go_wp2
    refine bodyPost_ret (v := .tuple #[.agg #[.int .i64 0, .int .i64 0, .int .i64 0, .int .i64 0, .int .i64 0, .int .i64 0, .int .i64 0], .int .i64 3]) (by simp only [results, Tryd.results14]; go_simp) rfl ?_
    exact mx_bad E.out (by decide) (by (repeat (first | with_reducible (exact Since.refl _) | with_reducible assumption | with_reducible (refine Since.drew ?_) | with_reducible (refine Since.drewN ?_ _) | with_reducible (refine Since.alloc ?_ _) | (with_reducible (refine Since.setCell ?_ ?_ _); rotate_left; focus (first | (simp; done) | (simp; omega) | omega)) | (with_reducible (refine Since.trans ?_ (by with_reducible assumption))))))
  have h1' : (32 : Int) ≤ n := by omega
  have u0 : ∀ w1, Since w w1 → Calls Tryd.prog 25 #[.slice A n c, .int .i64 0] w1 fun e w' => e = .returned (.int .i64 (numAt f 0 2)) ∧ w' = w1 := fun w1 hS => rf_at A n c f 0 0 w1 (h.on hS) hf rfl (by omega) hn
  have u2 : ∀ w1, Since w w1 → Calls Tryd.prog 25 #[.slice A n c, .int .i64 2] w1 fun e w' => e = .returned (.int .i64 (numAt f 2 2)) ∧ w' = w1 := fun w1 hS => rf_at A n c f 2 2 w1 (h.on hS) hf rfl (by omega) hn
  have u4 : ∀ w1, Since w w1 → Calls Tryd.prog 25 #[.slice A n c, .int .i64 4] w1 fun e w' => e = .returned (.int .i64 (numAt f 4 2)) ∧ w' = w1 := fun w1 hS => rf_at A n c f 4 4 w1 (h.on hS) hf rfl (by omega) hn
  have u6 : ∀ w1, Since w w1 → Calls Tryd.prog 25 #[.slice A n c, .int .i64 6] w1 fun e w' => e = .returned (.int .i64 (numAt f 6 2)) ∧ w' = w1 := fun w1 hS => rf_at A n c f 6 6 w1 (h.on hS) hf rfl (by omega) hn
  have u8 : ∀ w1, Since w w1 → Calls Tryd.prog 25 #[.slice A n c, .int .i64 8] w1 fun e w' => e = .returned (.int .i64 (numAt f 8 2)) ∧ w' = w1 := fun w1 hS => rf_at A n c f 8 8 w1 (h.on hS) hf rfl (by omega) hn
  have u10 : ∀ w1, Since w w1 → Calls Tryd.prog 25 #[.slice A n c, .int .i64 10] w1 fun e w' => e = .returned (.int .i64 (numAt f 10 2)) ∧ w' = w1 := fun w1 hS => rf_at A n c f 10 10 w1 (h.on hS) hf rfl (by omega) hn
  have u12 : ∀ w1, Since w w1 → Calls Tryd.prog 25 #[.slice A n c, .int .i64 12] w1 fun e w' => e = .returned (.int .i64 (numAt f 12 2)) ∧ w' = w1 := fun w1 hS => rf_at A n c f 12 12 w1 (h.on hS) hf rfl (by omega) hn
  have u28 : ∀ w1, Since w w1 → Calls Tryd.prog 25 #[.slice A n c, .int .i64 28] w1 fun e w' => e = .returned (.int .i64 (numAt f 28 2)) ∧ w' = w1 := fun w1 hS => rf_at A n c f 28 28 w1 (h.on hS) hf rfl (by omega) hn
  have u30 : ∀ w1, Since w w1 → Calls Tryd.prog 25 #[.slice A n c, .int .i64 30] w1 fun e w' => e = .returned (.int .i64 (numAt f 30 2)) ∧ w' = w1 := fun w1 hS => rf_at A n c f 30 30 w1 (h.on hS) hf rfl (by omega) hn
  have q0 : 0 ≤ numAt f 0 2 := by have := numAt_range (f := f) (p := 0) (k := 2) (fun i hi => hf i (by omega)); simp only [Int.reducePow] at this; omega
  have q2 : 0 ≤ numAt f 2 2 ∧ numAt f 2 2 ≤ 65535 := by have := numAt_range (f := f) (p := 2) (k := 2) (fun i hi => hf i (by omega)); simp only [Int.reducePow] at this; omega
  have h4 : numAt f 0 4 = 65536 * numAt f 0 2 + numAt f 2 2 := num_four f 0
  have hE : mxE f n = if numAt f 0 4 ≠ 65536 then 4 else 0 := by unfold mxE; rw [if_neg h1]
  rw [h4] at hE
  have HG : ∀ w', Since w w' → mxE f n = 0 → MxPost f n w _ w' := fun w' hS h0 => mx_good h0 hS
  clear h h4
  generalize numAt f 4 2 = y4 at *
  generalize numAt f 6 2 = y6 at *
  generalize numAt f 8 2 = y8 at *
  generalize numAt f 10 2 = y10 at *
  generalize numAt f 12 2 = y12 at *
  generalize numAt f 28 2 = y28 at *
  generalize numAt f 30 2 = y30 at *
  generalize numAt f 0 2 = x0 at *
  generalize numAt f 2 2 = x2 at *
  have U0 := Lib.hid u0
  have U2 := Lib.hid u2
  have U4 := Lib.hid u4
  have U6 := Lib.hid u6
  have U8 := Lib.hid u8
  have U10 := Lib.hid u10
  have U12 := Lib.hid u12
  have U28 := Lib.hid u28
  have U30 := Lib.hid u30
  clear u0 u2 u4 u6 u8 u10 u12 u28 u30
  by_cases hb : 65536 * x0 + x2 ≠ 65536
  · have E := Lib.hid (show mxE f n = 4 by rw [hE, if_pos hb])
    have hb2 : x0 ≠ 1 ∨ (x0 = 1 ∧ x2 ≠ 0) := by omega
    clear hE HG hb
    rcases hb2 with hb | ⟨rfl, hb⟩
    · have d0 : (x0 != 1) = true := by simpa using hb
      go_enter Tryd.func14, Tryd.ntmps14
      go_wp2_with (go_at_call 25; (first | (with_reducible refine Calls.mono (U0.out _ ?_) ?_) | (with_reducible refine Calls.mono (U2.out _ ?_) ?_)); (focus (repeat (first | with_reducible (exact Since.refl _) | with_reducible assumption | with_reducible (refine Since.drew ?_) | with_reducible (refine Since.drewN ?_ _) | with_reducible (refine Since.alloc ?_ _) | (with_reducible (refine Since.setCell ?_ ?_ _); rotate_left; focus (first | (simp; done) | (simp; omega) | omega)) | (with_reducible (refine Since.trans ?_ (by with_reducible assumption)))))); rintro e w1 ⟨rfl, rfl⟩)
      refine bodyPost_ret (v := .tuple #[.agg #[.int .i64 0, .int .i64 0, .int .i64 0, .int .i64 0, .int .i64 0, .int .i64 0, .int .i64 0], .int .i64 4]) (by simp only [results, Tryd.results14]; go_simp) rfl ?_
      exact mx_bad E.out (by decide) (by (repeat (first | with_reducible (exact Since.refl _) | with_reducible assumption | with_reducible (refine Since.drew ?_) | with_reducible (refine Since.drewN ?_ _) | with_reducible (refine Since.alloc ?_ _) | (with_reducible (refine Since.setCell ?_ ?_ _); rotate_left; focus (first | (simp; done) | (simp; omega) | omega)) | (with_reducible (refine Since.trans ?_ (by with_reducible assumption))))))
    · have d0 : (x2 != 0) = true := by simpa using hb
      go_enter Tryd.func14, Tryd.ntmps14
      go_wp2_with (go_at_call 25; (first | (with_reducible refine Calls.mono (U0.out _ ?_) ?_) | (with_reducible refine Calls.mono (U2.out _ ?_) ?_)); (focus (repeat (first | with_reducible (exact Since.refl _) | with_reducible assumption | with_reducible (refine Since.drew ?_) | with_reducible (refine Since.drewN ?_ _) | with_reducible (refine Since.alloc ?_ _) | (with_reducible (refine Since.setCell ?_ ?_ _); rotate_left; focus (first | (simp; done) | (simp; omega) | omega)) | (with_reducible (refine Since.trans ?_ (by with_reducible assumption)))))); rintro e w1 ⟨rfl, rfl⟩)
      refine bodyPost_ret (v := .tuple #[.agg #[.int .i64 0, .int .i64 0, .int .i64 0, .int .i64 0, .int .i64 0, .int .i64 0, .int .i64 0], .int .i64 4]) (by simp only [results, Tryd.results14]; go_simp) rfl ?_
      exact mx_bad E.out (by decide) (by (repeat (first | with_reducible (exact Since.refl _) | with_reducible assumption | with_reducible (refine Since.drew ?_) | with_reducible (refine Since.drewN ?_ _) | with_reducible (refine Since.alloc ?_ _) | (with_reducible (refine Since.setCell ?_ ?_ _); rotate_left; focus (first | (simp; done) | (simp; omega) | omega)) | (with_reducible (refine Since.trans ?_ (by with_reducible assumption))))))
  · have G := Lib.hid (fun w' (hS : Since w w') => HG w' hS (by rw [hE, if_neg hb]))
    obtain ⟨rfl, rfl⟩ : x0 = 1 ∧ x2 = 0 := by omega
    clear hE HG hb
    go_enter Tryd.func14, Tryd.ntmps14
    go_wp2_with (go_at_call 25; (first | (with_reducible refine Calls.mono (U0.out _ ?_) ?_) | (with_reducible refine Calls.mono (U2.out _ ?_) ?_) | (with_reducible refine Calls.mono (U4.out _ ?_) ?_) | (with_reducible refine Calls.mono (U6.out _ ?_) ?_) | (with_reducible refine Calls.mono (U8.out _ ?_) ?_) | (with_reducible refine Calls.mono (U10.out _ ?_) ?_) | (with_reducible refine Calls.mono (U12.out _ ?_) ?_) | (with_reducible refine Calls.mono (U28.out _ ?_) ?_) | (with_reducible refine Calls.mono (U30.out _ ?_) ?_)); (focus (repeat (first | with_reducible (exact Since.refl _) | with_reducible assumption | with_reducible (refine Since.drew ?_) | with_reducible (refine Since.drewN ?_ _) | with_reducible (refine Since.alloc ?_ _) | (with_reducible (refine Since.setCell ?_ ?_ _); rotate_left; focus (first | (simp; done) | (simp; omega) | omega)) | (with_reducible (refine Since.trans ?_ (by with_reducible assumption)))))); rintro e w1 ⟨rfl, rfl⟩)
    refine bodyPost_ret (v := .tuple #[.agg #[.int .i64 y4, .int .i64 y6, .int .i64 y8, .int .i64 y10, .int .i64 y12, .int .i64 y28, .int .i64 y30], .int .i64 0]) (by simp only [results, Tryd.results14]; go_simp) rfl ?_
    exact G.out _ (by (repeat (first | with_reducible (exact Since.refl _) | with_reducible assumption | with_reducible (refine Since.drew ?_) | with_reducible (refine Since.drewN ?_ _) | with_reducible (refine Since.alloc ?_ _) | (with_reducible (refine Since.setCell ?_ ?_ _); rotate_left; focus (first | (simp; done) | (simp; omega) | omega)) | (with_reducible (refine Since.trans ?_ (by with_reducible assumption))))))

def ctE (f : Nat → Int) (n : Nat) : Int := if n < 36 then 3 else if numAt f 34 2 = 0 then 4 else 0
def ctN (f : Nat → Int) (n : Nat) : Int := if ctE f n = 0 then numAt f 34 2 else 0
set_option maxHeartbeats 4000000 in
theorem hd_count (A : Option Addr) (n c : Nat) (f : Nat → Int) (w : World) (h : Rd w w.heap.size A n (U8 f)) (hf : ∀ j, j < n → 0 ≤ f j ∧ f j ≤ 255) (hn : n ≤ 140737488355328) :
    Calls Tryd.prog 12 #[.slice A n c] w fun e w' => e = .returned (.tuple #[.int .i64 (ctN f n), .int .i64 (ctE f n)]) ∧ Since w w' := by
  have hn' : (n : Int) ≤ 140737488355328 := by omega
  by_cases h1 : n < 36
  · have e : ctE f n = 3 := by unfold ctE; rw [if_pos h1]
    have e' : ctN f n = 0 := by unfold ctN; rw [e]; rfl
    rw [e, e']
    have h1' : (n : Int) < 36 := by omega
    clear h e e'
    go_enter Tryd.func12, Tryd.ntmps12
    go_wp2
    go_ret2
    exact ⟨rfl, Since.refl _⟩
  have h1' : (36 : Int) ≤ n := by omega
  have u34 : ∀ w1, Since w w1 → Calls Tryd.prog 23 #[.slice A n c, .int .i64 34, .int .i64 2] w1 fun e w' => e = .returned (.tuple #[.int .i64 (numAt f 34 2), .int .i64 0]) ∧ w' = w1 := fun w1 hS => u_in A n c f 34 2 34 2 w1 (h.on hS) hf rfl rfl (by omega) (by omega) hn
  have e : ctE f n = if numAt f 34 2 = 0 then 4 else 0 := by unfold ctE; rw [if_neg h1]
  have e' : ctN f n = if ctE f n = 0 then numAt f 34 2 else 0 := rfl
  clear h
  generalize numAt f 34 2 = x at *
  have U34 := Lib.hid u34
  clear u34
  by_cases hx : x = 0
  · rw [if_pos hx] at e
    rw [e, if_neg (by decide)] at e'
    rw [e, e']
    have d0 : (x == 0) = true := by simpa using hx
    clear e e' hx
    go_enter Tryd.func12, Tryd.ntmps12
    go_wp2_with (go_at_call 23; (first | (with_reducible refine Calls.mono (U34.out _ ?_) ?_)); (focus (repeat (first | with_reducible (exact Since.refl _) | with_reducible assumption | with_reducible (refine Since.drew ?_) | with_reducible (refine Since.drewN ?_ _) | with_reducible (refine Since.alloc ?_ _) | (with_reducible (refine Since.setCell ?_ ?_ _); rotate_left; focus (first | (simp; done) | (simp; omega) | omega)) | (with_reducible (refine Since.trans ?_ (by with_reducible assumption)))))); rintro e w1 ⟨rfl, rfl⟩)
    go_ret2
    exact ⟨rfl, Since.refl _⟩
  · rw [if_neg hx] at e
    rw [e, if_pos rfl] at e'
    rw [e, e']
    have d0 : (x == 0) = false := by simpa using hx
    clear e e'
    go_enter Tryd.func12, Tryd.ntmps12
    go_wp2_with (go_at_call 23; (first | (with_reducible refine Calls.mono (U34.out _ ?_) ?_)); (focus (repeat (first | with_reducible (exact Since.refl _) | with_reducible assumption | with_reducible (refine Since.drew ?_) | with_reducible (refine Since.drewN ?_ _) | with_reducible (refine Since.alloc ?_ _) | (with_reducible (refine Since.setCell ?_ ?_ _); rotate_left; focus (first | (simp; done) | (simp; omega) | omega)) | (with_reducible (refine Since.trans ?_ (by with_reducible assumption)))))); rintro e w1 ⟨rfl, rfl⟩)
    go_ret2
    exact ⟨rfl, Since.refl _⟩
set_option maxHeartbeats 4000000 in
theorem rf_count (A : Option Addr) (n c : Nat) (f : Nat → Int) (w : World) (h : Rd w w.heap.size A n (U8 f)) (hf : ∀ j, j < n → 0 ≤ f j ∧ f j ≤ 255) (hn : n ≤ 140737488355328) :
    Calls Tryd.prog 15 #[.slice A n c] w fun e w' => e = .returned (.tuple #[.int .i64 (ctN f n), .int .i64 (ctE f n)]) ∧ Since w w' := by
  have hn' : (n : Int) ≤ 140737488355328 := by omega
  by_cases h1 : n < 36
  · have e : ctE f n = 3 := by unfold ctE; rw [if_pos h1]
    have e' : ctN f n = 0 := by unfold ctN; rw [e]; rfl
    rw [e, e']
    have h1' : (n : Int) < 36 := by omega
    clear h e e'
    go_enter Tryd.func15, Tryd.ntmps15
    go_wp2
    go_ret2
    exact ⟨rfl, Since.refl _⟩
  have h1' : (36 : Int) ≤ n := by omega
  have u34 : ∀ w1, Since w w1 → Calls Tryd.prog 25 #[.slice A n c, .int .i64 34] w1 fun e w' => e = .returned (.int .i64 (numAt f 34 2)) ∧ w' = w1 := fun w1 hS => rf_at A n c f 34 34 w1 (h.on hS) hf rfl (by omega) hn
  have e : ctE f n = if numAt f 34 2 = 0 then 4 else 0 := by unfold ctE; rw [if_neg h1]
  have e' : ctN f n = if ctE f n = 0 then numAt f 34 2 else 0 := rfl
  clear h
  generalize numAt f 34 2 = x at *
  have U34 := Lib.hid u34
  clear u34
  by_cases hx : x = 0
  · rw [if_pos hx] at e
    rw [e, if_neg (by decide)] at e'
    rw [e, e']
    have d0 : (x == 0) = true := by simpa using hx
    clear e e' hx
    go_enter Tryd.func15, Tryd.ntmps15
    go_wp2_with (go_at_call 25; (first | (with_reducible refine Calls.mono (U34.out _ ?_) ?_)); (focus (repeat (first | with_reducible (exact Since.refl _) | with_reducible assumption | with_reducible (refine Since.drew ?_) | with_reducible (refine Since.drewN ?_ _) | with_reducible (refine Since.alloc ?_ _) | (with_reducible (refine Since.setCell ?_ ?_ _); rotate_left; focus (first | (simp; done) | (simp; omega) | omega)) | (with_reducible (refine Since.trans ?_ (by with_reducible assumption)))))); rintro e w1 ⟨rfl, rfl⟩)
    go_ret2
    exact ⟨rfl, Since.refl _⟩
  · rw [if_neg hx] at e
    rw [e, if_pos rfl] at e'
    rw [e, e']
    have d0 : (x == 0) = false := by simpa using hx
    clear e e'
    go_enter Tryd.func15, Tryd.ntmps15
    go_wp2_with (go_at_call 25; (first | (with_reducible refine Calls.mono (U34.out _ ?_) ?_)); (focus (repeat (first | with_reducible (exact Since.refl _) | with_reducible assumption | with_reducible (refine Since.drew ?_) | with_reducible (refine Since.drewN ?_ _) | with_reducible (refine Since.alloc ?_ _) | (with_reducible (refine Since.setCell ?_ ?_ _); rotate_left; focus (first | (simp; done) | (simp; omega) | omega)) | (with_reducible (refine Since.trans ?_ (by with_reducible assumption)))))); rintro e w1 ⟨rfl, rfl⟩)
    go_ret2
    exact ⟨rfl, Since.refl _⟩

def pcE (n : Nat) (x : Int) : Int := if n < 36 then 3 else if x < 1 ∨ 65535 < x then 6 else 0
def pcN (n : Nat) (x : Int) : Nat := if pcE n x = 0 then n else 0
def PcPost (f : Nat → Int) (n : Nat) (x : Int) (w : World) (e : Ending) (w' : World) : Prop := ∃ A' c', e = .returned (.tuple #[.slice A' (pcN n x) c', .int .i64 (pcE n x)]) ∧ pcN n x ≤ c' ∧ Nw w' w.heap.size A' (pcN n x) (U8 (lay2 f 34 x)) ∧ Since w w'
theorem pc_bad {f : Nat → Int} {n : Nat} {x E : Int} {w w' : World} (hE : pcE n x = E) (h0 : E ≠ 0) (hS : Since w w') : PcPost f n x w (.returned (.tuple #[.slice none 0 0, .int .i64 E])) w' := by
  subst hE
  have e : pcN n x = 0 := by unfold pcN; rw [if_neg h0]
  unfold PcPost
  rw [e]
  exact ⟨none, 0, rfl, Nat.le_refl _, Nw.zero, hS⟩
theorem pc_good {f : Nat → Int} {n c' : Nat} {x : Int} {A' : Option Addr} {w w' : World} (hE : pcE n x = 0) (hc : n ≤ c') (hN : Nw w' w.heap.size A' n (U8 (lay2 f 34 x))) (hS : Since w w') : PcPost f n x w (.returned (.tuple #[.slice A' n c', .int .i64 0])) w' := by
  have e : pcN n x = n := by unfold pcN; rw [if_pos hE]
  unfold PcPost
  rw [e, hE]
  exact ⟨A', c', rfl, hc, hN, hS⟩

set_option maxHeartbeats 4000000 in
theorem hd_putcount (A : Option Addr) (n q : Nat) (f : Nat → Int) (x : Int) (w : World) (h : Rd w w.heap.size A n (U8 f)) (hx : In64 x) (hn : n ≤ 140737488355328) :
    Calls Tryd.prog 21 #[.slice A n q, .int .i64 x] w (PcPost f n x w) := by
  have hn' : (n : Int) ≤ 140737488355328 := by omega
  by_cases h1 : n < 36
  · have E := Lib.hid (show pcE n x = 3 by unfold pcE; rw [if_pos h1])
    have h1' : (n : Int) < 36 := by omega
    clear h
    go_enter Tryd.func21, Tryd.ntmps21
    go_wp2
    go_ret2
    exact pc_bad E.out (by decide) (Since.refl _)
  have h1' : (36 : Int) ≤ n := by omega
  by_cases h2 : x < 1 ∨ 65535 < x
  · have E := Lib.hid (show pcE n x = 6 by unfold pcE; rw [if_neg h1, if_pos h2])
    have h3 : x < 1 ∨ (1 ≤ x ∧ 65535 < x) := by omega
    clear h h2
    rcases h3 with h3 | ⟨h3, h4⟩
    all_goals
      go_enter Tryd.func21, Tryd.ntmps21
      go_wp2
      go_ret2
      exact pc_bad E.out (by decide) (Since.refl _)
  have E := Lib.hid (show pcE n x = 0 by unfold pcE; rw [if_neg h1, if_neg h2])
  have h3 : 1 ≤ x := by omega
  have h4 : x ≤ 65535 := by omega
  have hP := hd_put34 A n q f x w w (Since.refl _) hx h (by omega) hn
  clear h h2
  go_enter Tryd.func21, Tryd.ntmps21
  go_wp2_with (go_at_call 27; (with_reducible refine hP.mono ?_); rintro e w1 ⟨A', c', rfl, hc', hN, hS, _⟩)
  go_ret2
  exact pc_good E.out hc' hN hS

set_option maxHeartbeats 4000000 in
theorem rf_putcount (A : Option Addr) (n q : Nat) (f : Nat → Int) (x : Int) (w : World) (h : Rd w w.heap.size A n (U8 f)) (hx : In64 x) (hn : n ≤ 140737488355328) :
    Calls Tryd.prog 22 #[.slice A n q, .int .i64 x] w (PcPost f n x w) := by
  have hn' : (n : Int) ≤ 140737488355328 := by omega
  by_cases h1 : n < 36
  · have E := Lib.hid (show pcE n x = 3 by unfold pcE; rw [if_pos h1])
    have h1' : (n : Int) < 36 := by omega
    clear h
    go_enter Tryd.func22, Tryd.ntmps22
    go_wp2
    go_ret2
    exact pc_bad E.out (by decide) (Since.refl _)
  have h1' : (36 : Int) ≤ n := by omega
  by_cases h2 : x < 1 ∨ 65535 < x
  · have E := Lib.hid (show pcE n x = 6 by unfold pcE; rw [if_neg h1, if_pos h2])
    have h3 : x < 1 ∨ (1 ≤ x ∧ 65535 < x) := by omega
    clear h h2
    rcases h3 with h3 | ⟨h3, h4⟩
    all_goals
      go_enter Tryd.func22, Tryd.ntmps22
      go_wp2
      go_ret2
      exact pc_bad E.out (by decide) (Since.refl _)
  have E := Lib.hid (show pcE n x = 0 by unfold pcE; rw [if_neg h1, if_neg h2])
  have h3 : 1 ≤ x := by omega
  have h4 : x ≤ 65535 := by omega
  have hP := rf_lay34 A n q f x w w (Since.refl _) hx h (by omega) hn
  clear h h2
  go_enter Tryd.func22, Tryd.ntmps22
  go_wp2_with (go_at_call 29; (with_reducible refine hP.mono ?_); rintro e w1 ⟨A', c', rfl, hc', hN, hS, _⟩)
  go_ret2
  exact pc_good E.out hc' hN hS

end Go.Proofs.YtefalfdillnkfaaDoor
