/-
  Layer 5: the tables of places; 'Head', walked, program and reference.
-/
import Derived.Test.YtefalfdillnkfaaDoorBeO
import Derived.LoopN
namespace Go.Proofs.YtefalfdillnkfaaDoor
open Go.RowKit
set_option linter.unusedVariables false

/-- The first table of the package. -/
def TabB (w : World) : Prop := 1 ≤ w.heap.size ∧ w.cell? ⟨0, 0, none⟩ = some (.int .i64 36) ∧ w.cell? ⟨0, 1, none⟩ = some (.int .i64 38) ∧ w.cell? ⟨0, 2, none⟩ = some (.int .i64 40) ∧ w.cell? ⟨0, 3, none⟩ = some (.int .i64 42)
theorem TabB.since {w w' : World} (h : TabB w) (k : Since w w') : TabB w' := by
  obtain ⟨h0, a0, a1, a2, a3⟩ := h
  have hs := k.below.size
  exact ⟨by omega, (k.1 _ _ (by omega)).trans a0, (k.1 _ _ (by omega)).trans a1, (k.1 _ _ (by omega)).trans a2, (k.1 _ _ (by omega)).trans a3⟩
/-- The two tables of the package. -/
def Tabs (w : World) : Prop := 2 ≤ w.heap.size ∧ (w.cell? ⟨0, 0, none⟩ = some (.int .i64 36) ∧ w.cell? ⟨0, 1, none⟩ = some (.int .i64 38) ∧ w.cell? ⟨0, 2, none⟩ = some (.int .i64 40) ∧ w.cell? ⟨0, 3, none⟩ = some (.int .i64 42)) ∧
  (w.cell? ⟨1, 0, none⟩ = some (.int .i64 4) ∧ w.cell? ⟨1, 1, none⟩ = some (.int .i64 6) ∧ w.cell? ⟨1, 2, none⟩ = some (.int .i64 8) ∧ w.cell? ⟨1, 3, none⟩ = some (.int .i64 10) ∧ w.cell? ⟨1, 4, none⟩ = some (.int .i64 12) ∧ w.cell? ⟨1, 5, none⟩ = some (.int .i64 28) ∧ w.cell? ⟨1, 6, none⟩ = some (.int .i64 30))
theorem Tabs.since {w w' : World} (h : Tabs w) (k : Since w w') : Tabs w' := by
  obtain ⟨h0, ⟨a0, a1, a2, a3⟩, b0, b1, b2, b3, b4, b5, b6⟩ := h
  have hs := k.below.size
  exact ⟨by omega, ⟨(k.1 _ _ (by omega)).trans a0, (k.1 _ _ (by omega)).trans a1, (k.1 _ _ (by omega)).trans a2, (k.1 _ _ (by omega)).trans a3⟩, (k.1 _ _ (by omega)).trans b0, (k.1 _ _ (by omega)).trans b1, (k.1 _ _ (by omega)).trans b2, (k.1 _ _ (by omega)).trans b3, (k.1 _ _ (by omega)).trans b4, (k.1 _ _ (by omega)).trans b5, (k.1 _ _ (by omega)).trans b6⟩

theorem Tabs.b {w : World} (h : Tabs w) : TabB w := ⟨by have := h.1; omega, h.2.1⟩

def hdE (f : Nat → Int) (n : Nat) : Int := if n < 54 then 3 else if numAt f 12 4 ≠ 1594834165 ∨ numAt f 18 2 < 16 ∨ 16384 < numAt f 18 2 ∨ 1 < numAt f 50 2 then 4 else 0
def hdM (f : Nat → Int) (n : Nat) : Int := if hdE f n = 0 then numAt f 18 2 else 0
def hdS (f : Nat → Int) (n p : Nat) : Int := if hdE f n = 0 then sgn 2 (numAt f p 2) else 0
def hdL (f : Nat → Int) (n : Nat) : Bool := decide (hdE f n = 0) && (numAt f 50 2 == 1)
def HdV (a b c d e : Int) (l : Bool) : Value := .agg #[.int .i64 a, .int .i64 b, .int .i64 c, .int .i64 d, .int .i64 e, .bool l]
def HdPost (f : Nat → Int) (n : Nat) (w : World) (e : Ending) (w' : World) : Prop := e = .returned (.tuple #[HdV (hdM f n) (hdS f n 36) (hdS f n 38) (hdS f n 40) (hdS f n 42) (hdL f n), .int .i64 (hdE f n)]) ∧ Since w w'
theorem hd_bad {f : Nat → Int} {n : Nat} {E : Int} {w w' : World} (hE : hdE f n = E) (h0 : E ≠ 0) (hS : Since w w') : HdPost f n w (.returned (.tuple #[HdV 0 0 0 0 0 false, .int .i64 E])) w' := by
  subst hE
  unfold HdPost hdM hdS hdL
  rw [if_neg h0, if_neg h0, if_neg h0, if_neg h0, if_neg h0, decide_eq_false h0, Bool.false_and]
  exact ⟨rfl, hS⟩
theorem hd_good {f : Nat → Int} {n : Nat} {a b c d e : Int} {l : Bool} {w w' : World} (hE : hdE f n = 0) (ha : numAt f 18 2 = a) (hb : sgn 2 (numAt f 36 2) = b) (hc : sgn 2 (numAt f 38 2) = c) (hd : sgn 2 (numAt f 40 2) = d) (he : sgn 2 (numAt f 42 2) = e) (hl : (numAt f 50 2 == 1) = l) (hS : Since w w') :
    HdPost f n w (.returned (.tuple #[HdV a b c d e l, .int .i64 0])) w' := by
  subst ha hb hc hd he hl
  unfold HdPost hdM hdS hdL
  rw [if_pos hE, if_pos hE, if_pos hE, if_pos hE, if_pos hE, hE]
  exact ⟨by simp, hS⟩

theorem bx0 (a b c d : Value) (w : World) : (Instr.index 56 (.agg #[a, b, c, d]) (.int .i64 0)).run Tryd.prog w = .ok a w := by rfl
theorem bx1 (a b c d : Value) (w : World) : (Instr.index 56 (.agg #[a, b, c, d]) (.int .i64 1)).run Tryd.prog w = .ok b w := by rfl
theorem bx2 (a b c d : Value) (w : World) : (Instr.index 56 (.agg #[a, b, c, d]) (.int .i64 2)).run Tryd.prog w = .ok c w := by rfl
theorem bx3 (a b c d : Value) (w : World) : (Instr.index 56 (.agg #[a, b, c, d]) (.int .i64 3)).run Tryd.prog w = .ok d w := by rfl
theorem mx0 (a b c d e f g : Value) (w : World) : (Instr.index 57 (.agg #[a, b, c, d, e, f, g]) (.int .i64 0)).run Tryd.prog w = .ok a w := by rfl
theorem mx1 (a b c d e f g : Value) (w : World) : (Instr.index 57 (.agg #[a, b, c, d, e, f, g]) (.int .i64 1)).run Tryd.prog w = .ok b w := by rfl
theorem mx2 (a b c d e f g : Value) (w : World) : (Instr.index 57 (.agg #[a, b, c, d, e, f, g]) (.int .i64 2)).run Tryd.prog w = .ok c w := by rfl
theorem mx3 (a b c d e f g : Value) (w : World) : (Instr.index 57 (.agg #[a, b, c, d, e, f, g]) (.int .i64 3)).run Tryd.prog w = .ok d w := by rfl
theorem mx4 (a b c d e f g : Value) (w : World) : (Instr.index 57 (.agg #[a, b, c, d, e, f, g]) (.int .i64 4)).run Tryd.prog w = .ok e w := by rfl
theorem mx5 (a b c d e f g : Value) (w : World) : (Instr.index 57 (.agg #[a, b, c, d, e, f, g]) (.int .i64 5)).run Tryd.prog w = .ok f w := by rfl
theorem mx6 (a b c d e f g : Value) (w : World) : (Instr.index 57 (.agg #[a, b, c, d, e, f, g]) (.int .i64 6)).run Tryd.prog w = .ok g w := by rfl
set_option maxRecDepth 100000 in
set_option maxHeartbeats 8000000 in
theorem hd_head (A : Option Addr) (n c : Nat) (f : Nat → Int) (w : World) (hT : TabB w) (h : Rd w w.heap.size A n (U8 f)) (hf : ∀ j, j < n → 0 ≤ f j ∧ f j ≤ 255) (hn : n ≤ 140737488355328) :
    Calls Tryd.prog 10 #[.slice A n c] w (HdPost f n w) := by
  have hn' : (n : Int) ≤ 140737488355328 := by omega
  by_cases h1 : n < 54
  · have E := Lib.hid (show hdE f n = 3 by unfold hdE; rw [if_pos h1])
    have h1' : (n : Int) < 54 := by omega
    clear h
    go_enter Tryd.func10, Tryd.ntmps10
    go_wp2
    refine bodyPost_ret (v := .tuple #[.agg #[.int .i64 0, .int .i64 0, .int .i64 0, .int .i64 0, .int .i64 0, .bool false], .int .i64 3]) (by simp only [results, Tryd.results10]; go_simp) rfl ?_
    exact hd_bad E.out (by decide) (by (repeat (first | with_reducible (exact Since.refl _) | with_reducible assumption | with_reducible (refine Since.drew ?_) | with_reducible (refine Since.drewN ?_ _) | with_reducible (refine Since.alloc ?_ _) | (with_reducible (refine Since.setCell ?_ ?_ _); rotate_left; focus (first | (simp; done) | (simp; omega) | omega)) | (with_reducible (refine Since.trans ?_ (by with_reducible assumption))))))
  have h1' : (54 : Int) ≤ n := by omega
  have hU : ∀ (p m : Nat), p + m ≤ 54 → 1 ≤ m ∧ m ≤ 4 → ∀ w1, Since w w1 → ∀ (x y : Int), x = p → y = m → Calls Tryd.prog 23 #[.slice A n c, .int .i64 x, .int .i64 y] w1 fun e w' => e = .returned (.tuple #[.int .i64 (numAt f p m), .int .i64 0]) ∧ w' = w1 := fun p m hp hm w1 hS x y hx hy => u_in A n c f p m x y w1 (h.on hS) hf hx hy hm (by omega) hn
  have hSg : ∀ (p : Nat), p + 2 ≤ 54 → ∀ w1, Since w w1 → ∀ (x : Int), x = p → Calls Tryd.prog 24 #[.slice A n c, .int .i64 x, .int .i64 2] w1 fun e w' => e = .returned (.tuple #[.int .i64 (sgn 2 (numAt f p 2)), .int .i64 0]) ∧ w' = w1 := fun p hp w1 hS x hx => s_in A n c f p 2 x 2 w1 (h.on hS) hf hx rfl (by omega) (by omega) hn
  have u12 : ∀ w1, Since w w1 → Calls Tryd.prog 23 #[.slice A n c, .int .i64 12, .int .i64 4] w1 fun e w' => e = .returned (.tuple #[.int .i64 (numAt f 12 4), .int .i64 0]) ∧ w' = w1 := fun w1 hS => hU 12 4 (by omega) (by omega) w1 hS 12 4 rfl rfl
  have u18 : ∀ w1, Since w w1 → Calls Tryd.prog 23 #[.slice A n c, .int .i64 18, .int .i64 2] w1 fun e w' => e = .returned (.tuple #[.int .i64 (numAt f 18 2), .int .i64 0]) ∧ w' = w1 := fun w1 hS => hU 18 2 (by omega) (by omega) w1 hS 18 2 rfl rfl
  have u50 : ∀ w1, Since w w1 → Calls Tryd.prog 23 #[.slice A n c, .int .i64 50, .int .i64 2] w1 fun e w' => e = .returned (.tuple #[.int .i64 (numAt f 50 2), .int .i64 0]) ∧ w' = w1 := fun w1 hS => hU 50 2 (by omega) (by omega) w1 hS 50 2 rfl rfl
  have s36 : ∀ w1, Since w w1 → Calls Tryd.prog 24 #[.slice A n c, .int .i64 36, .int .i64 2] w1 fun e w' => e = .returned (.tuple #[.int .i64 (sgn 2 (numAt f 36 2)), .int .i64 0]) ∧ w' = w1 := fun w1 hS => hSg 36 (by omega) w1 hS 36 rfl
  have s38 : ∀ w1, Since w w1 → Calls Tryd.prog 24 #[.slice A n c, .int .i64 38, .int .i64 2] w1 fun e w' => e = .returned (.tuple #[.int .i64 (sgn 2 (numAt f 38 2)), .int .i64 0]) ∧ w' = w1 := fun w1 hS => hSg 38 (by omega) w1 hS 38 rfl
  have s40 : ∀ w1, Since w w1 → Calls Tryd.prog 24 #[.slice A n c, .int .i64 40, .int .i64 2] w1 fun e w' => e = .returned (.tuple #[.int .i64 (sgn 2 (numAt f 40 2)), .int .i64 0]) ∧ w' = w1 := fun w1 hS => hSg 40 (by omega) w1 hS 40 rfl
  have s42 : ∀ w1, Since w w1 → Calls Tryd.prog 24 #[.slice A n c, .int .i64 42, .int .i64 2] w1 fun e w' => e = .returned (.tuple #[.int .i64 (sgn 2 (numAt f 42 2)), .int .i64 0]) ∧ w' = w1 := fun w1 hS => hSg 42 (by omega) w1 hS 42 rfl
  have r18 := numAt_small (f := f) (p := 18) (j := 2) (by omega) (fun i hi => hf i (by omega))
  have r50 := numAt_small (f := f) (p := 50) (j := 2) (by omega) (fun i hi => hf i (by omega))
  have hE : hdE f n = if numAt f 12 4 ≠ 1594834165 ∨ numAt f 18 2 < 16 ∨ 16384 < numAt f 18 2 ∨ 1 < numAt f 50 2 then 4 else 0 := by unfold hdE; rw [if_neg h1]
  have HG : ∀ (w' : World), Since w w' → hdE f n = 0 → HdPost f n w (.returned (.tuple #[HdV (numAt f 18 2) (sgn 2 (numAt f 36 2)) (sgn 2 (numAt f 38 2)) (sgn 2 (numAt f 40 2)) (sgn 2 (numAt f 42 2)) (numAt f 50 2 == 1), .int .i64 0])) w' := fun w' hS h0 => hd_good h0 rfl rfl rfl rfl rfl rfl hS
  clear h hU hSg
  generalize numAt f 12 4 = x12 at *
  generalize numAt f 18 2 = x18 at *
  generalize numAt f 50 2 = x50 at *
  generalize sgn 2 (numAt f 36 2) = y36 at *
  generalize sgn 2 (numAt f 38 2) = y38 at *
  generalize sgn 2 (numAt f 40 2) = y40 at *
  generalize sgn 2 (numAt f 42 2) = y42 at *
  have U12 := Lib.hid u12; have U18 := Lib.hid u18; have U50 := Lib.hid u50
  have S36 := Lib.hid s36; have S38 := Lib.hid s38; have S40 := Lib.hid s40; have S42 := Lib.hid s42
  clear u12 u18 u50 s36 s38 s40 s42
  by_cases hbad : x12 ≠ 1594834165 ∨ x18 < 16 ∨ 16384 < x18 ∨ 1 < x50
  · have E := Lib.hid (show hdE f n = 4 by rw [hE, if_pos hbad])
    have hb : x12 ≠ 1594834165 ∨ (x12 = 1594834165 ∧ x18 < 16) ∨ (x12 = 1594834165 ∧ 16 ≤ x18 ∧ 16384 < x18) ∨ (x12 = 1594834165 ∧ 16 ≤ x18 ∧ x18 ≤ 16384 ∧ 1 < x50) := by omega
    clear hbad hE HG
    rcases hb with h0 | ⟨rfl, h2⟩ | ⟨rfl, h2, h3⟩ | ⟨rfl, h2, h3, h4⟩
    · have d0 : (x12 != 1594834165) = true := by simpa using h0
      go_enter Tryd.func10, Tryd.ntmps10
      go_wp2_with (go_at_call 23; (first | (with_reducible refine Calls.mono (U12.out _ ?_) ?_) | (with_reducible refine Calls.mono (U18.out _ ?_) ?_) | (with_reducible refine Calls.mono (U50.out _ ?_) ?_)); (focus (repeat (first | with_reducible (exact Since.refl _) | with_reducible assumption | with_reducible (refine Since.drew ?_) | with_reducible (refine Since.drewN ?_ _) | with_reducible (refine Since.alloc ?_ _) | (with_reducible (refine Since.setCell ?_ ?_ _); rotate_left; focus (first | (simp; done) | (simp; omega) | omega)) | (with_reducible (refine Since.trans ?_ (by with_reducible assumption)))))); rintro e w1 ⟨rfl, rfl⟩)
      refine bodyPost_ret (v := .tuple #[.agg #[.int .i64 0, .int .i64 0, .int .i64 0, .int .i64 0, .int .i64 0, .bool false], .int .i64 4]) (by simp only [results, Tryd.results10]; go_simp) rfl ?_
      exact hd_bad E.out (by decide) (by (repeat (first | with_reducible (exact Since.refl _) | with_reducible assumption | with_reducible (refine Since.drew ?_) | with_reducible (refine Since.drewN ?_ _) | with_reducible (refine Since.alloc ?_ _) | (with_reducible (refine Since.setCell ?_ ?_ _); rotate_left; focus (first | (simp; done) | (simp; omega) | omega)) | (with_reducible (refine Since.trans ?_ (by with_reducible assumption))))))
    all_goals
      go_enter Tryd.func10, Tryd.ntmps10
      go_wp2_with (go_at_call 23; (first | (with_reducible refine Calls.mono (U12.out _ ?_) ?_) | (with_reducible refine Calls.mono (U18.out _ ?_) ?_) | (with_reducible refine Calls.mono (U50.out _ ?_) ?_)); (focus (repeat (first | with_reducible (exact Since.refl _) | with_reducible assumption | with_reducible (refine Since.drew ?_) | with_reducible (refine Since.drewN ?_ _) | with_reducible (refine Since.alloc ?_ _) | (with_reducible (refine Since.setCell ?_ ?_ _); rotate_left; focus (first | (simp; done) | (simp; omega) | omega)) | (with_reducible (refine Since.trans ?_ (by with_reducible assumption)))))); rintro e w1 ⟨rfl, rfl⟩)
      refine bodyPost_ret (v := .tuple #[.agg #[.int .i64 0, .int .i64 0, .int .i64 0, .int .i64 0, .int .i64 0, .bool false], .int .i64 4]) (by simp only [results, Tryd.results10]; go_simp) rfl ?_
      exact hd_bad E.out (by decide) (by (repeat (first | with_reducible (exact Since.refl _) | with_reducible assumption | with_reducible (refine Since.drew ?_) | with_reducible (refine Since.drewN ?_ _) | with_reducible (refine Since.alloc ?_ _) | (with_reducible (refine Since.setCell ?_ ?_ _); rotate_left; focus (first | (simp; done) | (simp; omega) | omega)) | (with_reducible (refine Since.trans ?_ (by with_reducible assumption))))))
  · have G := Lib.hid (fun w' (hS : Since w w') => HG w' hS (by rw [hE, if_neg hbad]))
    obtain ⟨rfl, h2, h3, h4⟩ : x12 = 1594834165 ∧ 16 ≤ x18 ∧ x18 ≤ 16384 ∧ x50 ≤ 1 := by omega
    clear hbad hE HG
    obtain ⟨t0, t1, t2, t3, t4⟩ := hT
    have t5 : 0 < w.heap.size := by omega
    have x0 := bx0; have x1 := bx1; have x2 := bx2; have x3 := bx3
    go_enter Tryd.func10, Tryd.ntmps10
    go_wp2_with (go_at_call 23; (first | (with_reducible refine Calls.mono (U12.out _ ?_) ?_) | (with_reducible refine Calls.mono (U18.out _ ?_) ?_) | (with_reducible refine Calls.mono (U50.out _ ?_) ?_)); (focus (repeat (first | with_reducible (exact Since.refl _) | with_reducible assumption | with_reducible (refine Since.drew ?_) | with_reducible (refine Since.drewN ?_ _) | with_reducible (refine Since.alloc ?_ _) | (with_reducible (refine Since.setCell ?_ ?_ _); rotate_left; focus (first | (simp; done) | (simp; omega) | omega)) | (with_reducible (refine Since.trans ?_ (by with_reducible assumption)))))); rintro e w1 ⟨rfl, rfl⟩)
    refine wp_loop_rounds 5 ?_
    rw [rounds_succ]
    go_wp2_with (go_at_call 24; (first | (with_reducible refine Calls.mono (S36.out _ ?_) ?_) | (with_reducible refine Calls.mono (S38.out _ ?_) ?_) | (with_reducible refine Calls.mono (S40.out _ ?_) ?_) | (with_reducible refine Calls.mono (S42.out _ ?_) ?_)); (focus (repeat (first | with_reducible (exact Since.refl _) | with_reducible assumption | with_reducible (refine Since.drew ?_) | with_reducible (refine Since.drewN ?_ _) | with_reducible (refine Since.alloc ?_ _) | (with_reducible (refine Since.setCell ?_ ?_ _); rotate_left; focus (first | (simp; done) | (simp; omega) | omega)) | (with_reducible (refine Since.trans ?_ (by with_reducible assumption)))))); rintro e w1 ⟨rfl, rfl⟩)
    rw [rounds_succ]
    go_wp2_with (go_at_call 24; (first | (with_reducible refine Calls.mono (S36.out _ ?_) ?_) | (with_reducible refine Calls.mono (S38.out _ ?_) ?_) | (with_reducible refine Calls.mono (S40.out _ ?_) ?_) | (with_reducible refine Calls.mono (S42.out _ ?_) ?_)); (focus (repeat (first | with_reducible (exact Since.refl _) | with_reducible assumption | with_reducible (refine Since.drew ?_) | with_reducible (refine Since.drewN ?_ _) | with_reducible (refine Since.alloc ?_ _) | (with_reducible (refine Since.setCell ?_ ?_ _); rotate_left; focus (first | (simp; done) | (simp; omega) | omega)) | (with_reducible (refine Since.trans ?_ (by with_reducible assumption)))))); rintro e w1 ⟨rfl, rfl⟩)
    rw [rounds_succ]
    go_wp2_with (go_at_call 24; (first | (with_reducible refine Calls.mono (S36.out _ ?_) ?_) | (with_reducible refine Calls.mono (S38.out _ ?_) ?_) | (with_reducible refine Calls.mono (S40.out _ ?_) ?_) | (with_reducible refine Calls.mono (S42.out _ ?_) ?_)); (focus (repeat (first | with_reducible (exact Since.refl _) | with_reducible assumption | with_reducible (refine Since.drew ?_) | with_reducible (refine Since.drewN ?_ _) | with_reducible (refine Since.alloc ?_ _) | (with_reducible (refine Since.setCell ?_ ?_ _); rotate_left; focus (first | (simp; done) | (simp; omega) | omega)) | (with_reducible (refine Since.trans ?_ (by with_reducible assumption)))))); rintro e w1 ⟨rfl, rfl⟩)
    rw [rounds_succ]
    go_wp2_with (go_at_call 24; (first | (with_reducible refine Calls.mono (S36.out _ ?_) ?_) | (with_reducible refine Calls.mono (S38.out _ ?_) ?_) | (with_reducible refine Calls.mono (S40.out _ ?_) ?_) | (with_reducible refine Calls.mono (S42.out _ ?_) ?_)); (focus (repeat (first | with_reducible (exact Since.refl _) | with_reducible assumption | with_reducible (refine Since.drew ?_) | with_reducible (refine Since.drewN ?_ _) | with_reducible (refine Since.alloc ?_ _) | (with_reducible (refine Since.setCell ?_ ?_ _); rotate_left; focus (first | (simp; done) | (simp; omega) | omega)) | (with_reducible (refine Since.trans ?_ (by with_reducible assumption)))))); rintro e w1 ⟨rfl, rfl⟩)
    rw [rounds_succ]
    go_wp2_with (go_at_call 24; (first | (with_reducible refine Calls.mono (S36.out _ ?_) ?_) | (with_reducible refine Calls.mono (S38.out _ ?_) ?_) | (with_reducible refine Calls.mono (S40.out _ ?_) ?_) | (with_reducible refine Calls.mono (S42.out _ ?_) ?_)); (focus (repeat (first | with_reducible (exact Since.refl _) | with_reducible assumption | with_reducible (refine Since.drew ?_) | with_reducible (refine Since.drewN ?_ _) | with_reducible (refine Since.alloc ?_ _) | (with_reducible (refine Since.setCell ?_ ?_ _); rotate_left; focus (first | (simp; done) | (simp; omega) | omega)) | (with_reducible (refine Since.trans ?_ (by with_reducible assumption)))))); rintro e w1 ⟨rfl, rfl⟩)
    refine bodyPost_ret (v := .tuple #[.agg #[.int .i64 x18, .int .i64 y36, .int .i64 y38, .int .i64 y40, .int .i64 y42, .bool (x50 == 1)], .int .i64 0]) (by simp only [results, Tryd.results10]; go_simp) rfl ?_
    exact G.out _ (by (repeat (first | with_reducible (exact Since.refl _) | with_reducible assumption | with_reducible (refine Since.drew ?_) | with_reducible (refine Since.drewN ?_ _) | with_reducible (refine Since.alloc ?_ _) | (with_reducible (refine Since.setCell ?_ ?_ _); rotate_left; focus (first | (simp; done) | (simp; omega) | omega)) | (with_reducible (refine Since.trans ?_ (by with_reducible assumption))))))
end Go.Proofs.YtefalfdillnkfaaDoor
