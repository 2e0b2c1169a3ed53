/-
  Texts of this seat, put together: each with its own head.
-/
import Derived.Test.YteckkcpnfeoehaaGreatDoorMnAd
import Derived.LoopN

/-
  Layer 5: the tables of places; 'Head', walked, program and reference.
-/
namespace Go.Proofs.YteckkcpnfeoehaaGreatDoor
set_option maxRecDepth 100000
open Go.RowKit
set_option linter.unusedVariables false

/-- The first table of the package. -/
def TabB (w : World) : Prop := 1 ≤ w.heap.size ∧ w.cell? ⟨0, 0, none⟩ = some (.int .i64 36) ∧ w.cell? ⟨0, 1, none⟩ = some (.int .i64 38) ∧ w.cell? ⟨0, 2, none⟩ = some (.int .i64 40) ∧ w.cell? ⟨0, 3, none⟩ = some (.int .i64 42)
theorem TabB.since {w w' : World} (h : TabB w) (k : Since w w') : TabB w' := by
  obtain ⟨h0, a0, a1, a2, a3⟩ := h
  have hs := k.below.size
  exact ⟨by omega, (k.1 _ _ (by omega)).trans a0, (k.1 _ _ (by omega)).trans a1, (k.1 _ _ (by omega)).trans a2, (k.1 _ _ (by omega)).trans a3⟩
/-- The two tables of the package. -/
def Tabs (w : World) : Prop := 2 ≤ w.heap.size ∧ (w.cell? ⟨0, 0, none⟩ = some (.int .i64 36) ∧ w.cell? ⟨0, 1, none⟩ = some (.int .i64 38) ∧ w.cell? ⟨0, 2, none⟩ = some (.int .i64 40) ∧ w.cell? ⟨0, 3, none⟩ = some (.int .i64 42)) ∧
  (w.cell? ⟨1, 0, none⟩ = some (.int .i64 4) ∧ w.cell? ⟨1, 1, none⟩ = some (.int .i64 6) ∧ w.cell? ⟨1, 2, none⟩ = some (.int .i64 8) ∧ w.cell? ⟨1, 3, none⟩ = some (.int .i64 10) ∧ w.cell? ⟨1, 4, none⟩ = some (.int .i64 12) ∧ w.cell? ⟨1, 5, none⟩ = some (.int .i64 28) ∧ w.cell? ⟨1, 6, none⟩ = some (.int .i64 30))
theorem Tabs.since {w w' : World} (h : Tabs w) (k : Since w w') : Tabs w' := by
  obtain ⟨h0, ⟨a0, a1, a2, a3⟩, b0, b1, b2, b3, b4, b5, b6⟩ := h
  have hs := k.below.size
  exact ⟨by omega, ⟨(k.1 _ _ (by omega)).trans a0, (k.1 _ _ (by omega)).trans a1, (k.1 _ _ (by omega)).trans a2, (k.1 _ _ (by omega)).trans a3⟩, (k.1 _ _ (by omega)).trans b0, (k.1 _ _ (by omega)).trans b1, (k.1 _ _ (by omega)).trans b2, (k.1 _ _ (by omega)).trans b3, (k.1 _ _ (by omega)).trans b4, (k.1 _ _ (by omega)).trans b5, (k.1 _ _ (by omega)).trans b6⟩

theorem Tabs.b {w : World} (h : Tabs w) : TabB w := ⟨by have := h.1; omega, h.2.1⟩

def hdE (f : Nat → Int) (n : Nat) : Int := if n < 54 then 3 else if numAt f 12 4 ≠ 1594834165 ∨ numAt f 18 2 < 16 ∨ 16384 < numAt f 18 2 ∨ 1 < numAt f 50 2 then 4 else 0
def hdM (f : Nat → Int) (n : Nat) : Int := if hdE f n = 0 then numAt f 18 2 else 0
def hdS (f : Nat → Int) (n p : Nat) : Int := if hdE f n = 0 then sgn 2 (numAt f p 2) else 0
def hdLg (f : Nat → Int) (n : Nat) : Bool := decide (hdE f n = 0) && (numAt f 50 2 == 1)
def HdV (a b c d e : Int) (l : Bool) : Value := .agg #[.int .i64 a, .int .i64 b, .int .i64 c, .int .i64 d, .int .i64 e, .bool l]
def HdPost (f : Nat → Int) (n : Nat) (w : World) (e : Ending) (w' : World) : Prop := e = .returned (.tuple #[HdV (hdM f n) (hdS f n 36) (hdS f n 38) (hdS f n 40) (hdS f n 42) (hdLg f n), .int .i64 (hdE f n)]) ∧ Since w w'
theorem hd_bad {f : Nat → Int} {n : Nat} {E : Int} {w w' : World} (hE : hdE f n = E) (h0 : E ≠ 0) (hS : Since w w') : HdPost f n w (.returned (.tuple #[HdV 0 0 0 0 0 false, .int .i64 E])) w' := by
  subst hE
  unfold HdPost hdM hdS hdLg
  rw [if_neg h0, if_neg h0, if_neg h0, if_neg h0, if_neg h0, decide_eq_false h0, Bool.false_and]
  exact ⟨rfl, hS⟩
theorem hd_good {f : Nat → Int} {n : Nat} {a b c d e : Int} {l : Bool} {w w' : World} (hE : hdE f n = 0) (ha : numAt f 18 2 = a) (hb : sgn 2 (numAt f 36 2) = b) (hc : sgn 2 (numAt f 38 2) = c) (hd : sgn 2 (numAt f 40 2) = d) (he : sgn 2 (numAt f 42 2) = e) (hl : (numAt f 50 2 == 1) = l) (hS : Since w w') :
    HdPost f n w (.returned (.tuple #[HdV a b c d e l, .int .i64 0])) w' := by
  subst ha hb hc hd he hl
  unfold HdPost hdM hdS hdLg
  rw [if_pos hE, if_pos hE, if_pos hE, if_pos hE, if_pos hE, hE]
  exact ⟨by simp, hS⟩

theorem bx0 (a b c d : Value) (w : World) : (Instr.index 120 (.agg #[a, b, c, d]) (.int .i64 0)).run Tryz.prog w = .ok a w := by rfl
theorem bx1 (a b c d : Value) (w : World) : (Instr.index 120 (.agg #[a, b, c, d]) (.int .i64 1)).run Tryz.prog w = .ok b w := by rfl
theorem bx2 (a b c d : Value) (w : World) : (Instr.index 120 (.agg #[a, b, c, d]) (.int .i64 2)).run Tryz.prog w = .ok c w := by rfl
theorem bx3 (a b c d : Value) (w : World) : (Instr.index 120 (.agg #[a, b, c, d]) (.int .i64 3)).run Tryz.prog w = .ok d w := by rfl
theorem mx0 (a b c d e f g : Value) (w : World) : (Instr.index 121 (.agg #[a, b, c, d, e, f, g]) (.int .i64 0)).run Tryz.prog w = .ok a w := by rfl
theorem mx1 (a b c d e f g : Value) (w : World) : (Instr.index 121 (.agg #[a, b, c, d, e, f, g]) (.int .i64 1)).run Tryz.prog w = .ok b w := by rfl
theorem mx2 (a b c d e f g : Value) (w : World) : (Instr.index 121 (.agg #[a, b, c, d, e, f, g]) (.int .i64 2)).run Tryz.prog w = .ok c w := by rfl
theorem mx3 (a b c d e f g : Value) (w : World) : (Instr.index 121 (.agg #[a, b, c, d, e, f, g]) (.int .i64 3)).run Tryz.prog w = .ok d w := by rfl
theorem mx4 (a b c d e f g : Value) (w : World) : (Instr.index 121 (.agg #[a, b, c, d, e, f, g]) (.int .i64 4)).run Tryz.prog w = .ok e w := by rfl
theorem mx5 (a b c d e f g : Value) (w : World) : (Instr.index 121 (.agg #[a, b, c, d, e, f, g]) (.int .i64 5)).run Tryz.prog w = .ok f w := by rfl
theorem mx6 (a b c d e f g : Value) (w : World) : (Instr.index 121 (.agg #[a, b, c, d, e, f, g]) (.int .i64 6)).run Tryz.prog w = .ok g w := by rfl
set_option maxRecDepth 100000 in
set_option maxHeartbeats 8000000 in
theorem hd_head (A : Option Addr) (n c : Nat) (f : Nat → Int) (w : World) (hT : TabB w) (h : Rd w w.heap.size A n (U8 f)) (hf : ∀ j, j < n → 0 ≤ f j ∧ f j ≤ 255) (hn : n ≤ 140737488355328) :
    Calls Tryz.prog 99 #[.slice A n c] w (HdPost f n w) := by
  have hn' : (n : Int) ≤ 140737488355328 := by omega
  by_cases h1 : n < 54
  · have E := Lib.hid (show hdE f n = 3 by unfold hdE; rw [if_pos h1])
    have h1' : (n : Int) < 54 := by omega
    clear h
    go_enter Tryz.func99, Tryz.ntmps99
    go_wp2
    refine bodyPost_ret (v := .tuple #[.agg #[.int .i64 0, .int .i64 0, .int .i64 0, .int .i64 0, .int .i64 0, .bool false], .int .i64 3]) (by simp only [results, Tryz.results99]; go_simp) rfl ?_
    exact hd_bad E.out (by decide) (by (repeat (first | with_reducible (exact Since.refl _) | with_reducible assumption | with_reducible (refine Since.drew ?_) | with_reducible (refine Since.drewN ?_ _) | with_reducible (refine Since.alloc ?_ _) | (with_reducible (refine Since.setCell ?_ ?_ _); rotate_left; focus (first | (simp; done) | (simp; omega) | omega)) | (with_reducible (refine Since.trans ?_ (by with_reducible assumption))))))
  have h1' : (54 : Int) ≤ n := by omega
  have hU : ∀ (p m : Nat), p + m ≤ 54 → 1 ≤ m ∧ m ≤ 4 → ∀ w1, Since w w1 → ∀ (x y : Int), x = p → y = m → Calls Tryz.prog 97 #[.slice A n c, .int .i64 x, .int .i64 y] w1 fun e w' => e = .returned (.tuple #[.int .i64 (numAt f p m), .int .i64 0]) ∧ w' = w1 := fun p m hp hm w1 hS x y hx hy => u_in A n c f p m x y w1 (h.on hS) hf hx hy hm (by omega) hn
  have hSg : ∀ (p : Nat), p + 2 ≤ 54 → ∀ w1, Since w w1 → ∀ (x : Int), x = p → Calls Tryz.prog 103 #[.slice A n c, .int .i64 x, .int .i64 2] w1 fun e w' => e = .returned (.tuple #[.int .i64 (sgn 2 (numAt f p 2)), .int .i64 0]) ∧ w' = w1 := fun p hp w1 hS x hx => s_in A n c f p 2 x 2 w1 (h.on hS) hf hx rfl (by omega) (by omega) hn
  have u12 : ∀ w1, Since w w1 → Calls Tryz.prog 97 #[.slice A n c, .int .i64 12, .int .i64 4] w1 fun e w' => e = .returned (.tuple #[.int .i64 (numAt f 12 4), .int .i64 0]) ∧ w' = w1 := fun w1 hS => hU 12 4 (by omega) (by omega) w1 hS 12 4 rfl rfl
  have u18 : ∀ w1, Since w w1 → Calls Tryz.prog 97 #[.slice A n c, .int .i64 18, .int .i64 2] w1 fun e w' => e = .returned (.tuple #[.int .i64 (numAt f 18 2), .int .i64 0]) ∧ w' = w1 := fun w1 hS => hU 18 2 (by omega) (by omega) w1 hS 18 2 rfl rfl
  have u50 : ∀ w1, Since w w1 → Calls Tryz.prog 97 #[.slice A n c, .int .i64 50, .int .i64 2] w1 fun e w' => e = .returned (.tuple #[.int .i64 (numAt f 50 2), .int .i64 0]) ∧ w' = w1 := fun w1 hS => hU 50 2 (by omega) (by omega) w1 hS 50 2 rfl rfl
  have s36 : ∀ w1, Since w w1 → Calls Tryz.prog 103 #[.slice A n c, .int .i64 36, .int .i64 2] w1 fun e w' => e = .returned (.tuple #[.int .i64 (sgn 2 (numAt f 36 2)), .int .i64 0]) ∧ w' = w1 := fun w1 hS => hSg 36 (by omega) w1 hS 36 rfl
  have s38 : ∀ w1, Since w w1 → Calls Tryz.prog 103 #[.slice A n c, .int .i64 38, .int .i64 2] w1 fun e w' => e = .returned (.tuple #[.int .i64 (sgn 2 (numAt f 38 2)), .int .i64 0]) ∧ w' = w1 := fun w1 hS => hSg 38 (by omega) w1 hS 38 rfl
  have s40 : ∀ w1, Since w w1 → Calls Tryz.prog 103 #[.slice A n c, .int .i64 40, .int .i64 2] w1 fun e w' => e = .returned (.tuple #[.int .i64 (sgn 2 (numAt f 40 2)), .int .i64 0]) ∧ w' = w1 := fun w1 hS => hSg 40 (by omega) w1 hS 40 rfl
  have s42 : ∀ w1, Since w w1 → Calls Tryz.prog 103 #[.slice A n c, .int .i64 42, .int .i64 2] w1 fun e w' => e = .returned (.tuple #[.int .i64 (sgn 2 (numAt f 42 2)), .int .i64 0]) ∧ w' = w1 := fun w1 hS => hSg 42 (by omega) w1 hS 42 rfl
  have r18 := numAt_small (f := f) (p := 18) (j := 2) (by omega) (fun i hi => hf i (by omega))
  have r50 := numAt_small (f := f) (p := 50) (j := 2) (by omega) (fun i hi => hf i (by omega))
  have hE : hdE f n = if numAt f 12 4 ≠ 1594834165 ∨ numAt f 18 2 < 16 ∨ 16384 < numAt f 18 2 ∨ 1 < numAt f 50 2 then 4 else 0 := by unfold hdE; rw [if_neg h1]
  have HG : ∀ (w' : World), Since w w' → hdE f n = 0 → HdPost f n w (.returned (.tuple #[HdV (numAt f 18 2) (sgn 2 (numAt f 36 2)) (sgn 2 (numAt f 38 2)) (sgn 2 (numAt f 40 2)) (sgn 2 (numAt f 42 2)) (numAt f 50 2 == 1), .int .i64 0])) w' := fun w' hS h0 => hd_good h0 rfl rfl rfl rfl rfl rfl hS
  clear h hU hSg
  generalize numAt f 12 4 = x12 at *
  generalize numAt f 18 2 = x18 at *
  generalize numAt f 50 2 = x50 at *
  generalize sgn 2 (numAt f 36 2) = y36 at *
  generalize sgn 2 (numAt f 38 2) = y38 at *
  generalize sgn 2 (numAt f 40 2) = y40 at *
  generalize sgn 2 (numAt f 42 2) = y42 at *
  have U12 := Lib.hid u12; have U18 := Lib.hid u18; have U50 := Lib.hid u50
  have S36 := Lib.hid s36; have S38 := Lib.hid s38; have S40 := Lib.hid s40; have S42 := Lib.hid s42
  clear u12 u18 u50 s36 s38 s40 s42
  by_cases hbad : x12 ≠ 1594834165 ∨ x18 < 16 ∨ 16384 < x18 ∨ 1 < x50
  · have E := Lib.hid (show hdE f n = 4 by rw [hE, if_pos hbad])
    have hb : x12 ≠ 1594834165 ∨ (x12 = 1594834165 ∧ x18 < 16) ∨ (x12 = 1594834165 ∧ 16 ≤ x18 ∧ 16384 < x18) ∨ (x12 = 1594834165 ∧ 16 ≤ x18 ∧ x18 ≤ 16384 ∧ 1 < x50) := by omega
    clear hbad hE HG
    rcases hb with h0 | ⟨rfl, h2⟩ | ⟨rfl, h2, h3⟩ | ⟨rfl, h2, h3, h4⟩
    · have d0 : (x12 != 1594834165) = true := by simpa using h0
      go_enter Tryz.func99, Tryz.ntmps99
      go_wp2_with (go_at_call 97; (first | (with_reducible refine Calls.mono (U12.out _ ?_) ?_) | (with_reducible refine Calls.mono (U18.out _ ?_) ?_) | (with_reducible refine Calls.mono (U50.out _ ?_) ?_)); (focus (repeat (first | with_reducible (exact Since.refl _) | with_reducible assumption | with_reducible (refine Since.drew ?_) | with_reducible (refine Since.drewN ?_ _) | with_reducible (refine Since.alloc ?_ _) | (with_reducible (refine Since.setCell ?_ ?_ _); rotate_left; focus (first | (simp; done) | (simp; omega) | omega)) | (with_reducible (refine Since.trans ?_ (by with_reducible assumption)))))); rintro e w1 ⟨rfl, rfl⟩)
      refine bodyPost_ret (v := .tuple #[.agg #[.int .i64 0, .int .i64 0, .int .i64 0, .int .i64 0, .int .i64 0, .bool false], .int .i64 4]) (by simp only [results, Tryz.results99]; go_simp) rfl ?_
      exact hd_bad E.out (by decide) (by (repeat (first | with_reducible (exact Since.refl _) | with_reducible assumption | with_reducible (refine Since.drew ?_) | with_reducible (refine Since.drewN ?_ _) | with_reducible (refine Since.alloc ?_ _) | (with_reducible (refine Since.setCell ?_ ?_ _); rotate_left; focus (first | (simp; done) | (simp; omega) | omega)) | (with_reducible (refine Since.trans ?_ (by with_reducible assumption))))))
    all_goals
      go_enter Tryz.func99, Tryz.ntmps99
      go_wp2_with (go_at_call 97; (first | (with_reducible refine Calls.mono (U12.out _ ?_) ?_) | (with_reducible refine Calls.mono (U18.out _ ?_) ?_) | (with_reducible refine Calls.mono (U50.out _ ?_) ?_)); (focus (repeat (first | with_reducible (exact Since.refl _) | with_reducible assumption | with_reducible (refine Since.drew ?_) | with_reducible (refine Since.drewN ?_ _) | with_reducible (refine Since.alloc ?_ _) | (with_reducible (refine Since.setCell ?_ ?_ _); rotate_left; focus (first | (simp; done) | (simp; omega) | omega)) | (with_reducible (refine Since.trans ?_ (by with_reducible assumption)))))); rintro e w1 ⟨rfl, rfl⟩)
      refine bodyPost_ret (v := .tuple #[.agg #[.int .i64 0, .int .i64 0, .int .i64 0, .int .i64 0, .int .i64 0, .bool false], .int .i64 4]) (by simp only [results, Tryz.results99]; go_simp) rfl ?_
      exact hd_bad E.out (by decide) (by (repeat (first | with_reducible (exact Since.refl _) | with_reducible assumption | with_reducible (refine Since.drew ?_) | with_reducible (refine Since.drewN ?_ _) | with_reducible (refine Since.alloc ?_ _) | (with_reducible (refine Since.setCell ?_ ?_ _); rotate_left; focus (first | (simp; done) | (simp; omega) | omega)) | (with_reducible (refine Since.trans ?_ (by with_reducible assumption))))))
  · have G := Lib.hid (fun w' (hS : Since w w') => HG w' hS (by rw [hE, if_neg hbad]))
    obtain ⟨rfl, h2, h3, h4⟩ : x12 = 1594834165 ∧ 16 ≤ x18 ∧ x18 ≤ 16384 ∧ x50 ≤ 1 := by omega
    clear hbad hE HG
    obtain ⟨t0, t1, t2, t3, t4⟩ := hT
    have t5 : 0 < w.heap.size := by omega
    have x0 := bx0; have x1 := bx1; have x2 := bx2; have x3 := bx3
    go_enter Tryz.func99, Tryz.ntmps99
    go_wp2_with (go_at_call 97; (first | (with_reducible refine Calls.mono (U12.out _ ?_) ?_) | (with_reducible refine Calls.mono (U18.out _ ?_) ?_) | (with_reducible refine Calls.mono (U50.out _ ?_) ?_)); (focus (repeat (first | with_reducible (exact Since.refl _) | with_reducible assumption | with_reducible (refine Since.drew ?_) | with_reducible (refine Since.drewN ?_ _) | with_reducible (refine Since.alloc ?_ _) | (with_reducible (refine Since.setCell ?_ ?_ _); rotate_left; focus (first | (simp; done) | (simp; omega) | omega)) | (with_reducible (refine Since.trans ?_ (by with_reducible assumption)))))); rintro e w1 ⟨rfl, rfl⟩)
    refine wp_loop_rounds 5 ?_
    rw [rounds_succ]
    go_wp2_with (go_at_call 103; (first | (with_reducible refine Calls.mono (S36.out _ ?_) ?_) | (with_reducible refine Calls.mono (S38.out _ ?_) ?_) | (with_reducible refine Calls.mono (S40.out _ ?_) ?_) | (with_reducible refine Calls.mono (S42.out _ ?_) ?_)); (focus (repeat (first | with_reducible (exact Since.refl _) | with_reducible assumption | with_reducible (refine Since.drew ?_) | with_reducible (refine Since.drewN ?_ _) | with_reducible (refine Since.alloc ?_ _) | (with_reducible (refine Since.setCell ?_ ?_ _); rotate_left; focus (first | (simp; done) | (simp; omega) | omega)) | (with_reducible (refine Since.trans ?_ (by with_reducible assumption)))))); rintro e w1 ⟨rfl, rfl⟩)
    rw [rounds_succ]
    go_wp2_with (go_at_call 103; (first | (with_reducible refine Calls.mono (S36.out _ ?_) ?_) | (with_reducible refine Calls.mono (S38.out _ ?_) ?_) | (with_reducible refine Calls.mono (S40.out _ ?_) ?_) | (with_reducible refine Calls.mono (S42.out _ ?_) ?_)); (focus (repeat (first | with_reducible (exact Since.refl _) | with_reducible assumption | with_reducible (refine Since.drew ?_) | with_reducible (refine Since.drewN ?_ _) | with_reducible (refine Since.alloc ?_ _) | (with_reducible (refine Since.setCell ?_ ?_ _); rotate_left; focus (first | (simp; done) | (simp; omega) | omega)) | (with_reducible (refine Since.trans ?_ (by with_reducible assumption)))))); rintro e w1 ⟨rfl, rfl⟩)
    rw [rounds_succ]
    go_wp2_with (go_at_call 103; (first | (with_reducible refine Calls.mono (S36.out _ ?_) ?_) | (with_reducible refine Calls.mono (S38.out _ ?_) ?_) | (with_reducible refine Calls.mono (S40.out _ ?_) ?_) | (with_reducible refine Calls.mono (S42.out _ ?_) ?_)); (focus (repeat (first | with_reducible (exact Since.refl _) | with_reducible assumption | with_reducible (refine Since.drew ?_) | with_reducible (refine Since.drewN ?_ _) | with_reducible (refine Since.alloc ?_ _) | (with_reducible (refine Since.setCell ?_ ?_ _); rotate_left; focus (first | (simp; done) | (simp; omega) | omega)) | (with_reducible (refine Since.trans ?_ (by with_reducible assumption)))))); rintro e w1 ⟨rfl, rfl⟩)
    rw [rounds_succ]
    go_wp2_with (go_at_call 103; (first | (with_reducible refine Calls.mono (S36.out _ ?_) ?_) | (with_reducible refine Calls.mono (S38.out _ ?_) ?_) | (with_reducible refine Calls.mono (S40.out _ ?_) ?_) | (with_reducible refine Calls.mono (S42.out _ ?_) ?_)); (focus (repeat (first | with_reducible (exact Since.refl _) | with_reducible assumption | with_reducible (refine Since.drew ?_) | with_reducible (refine Since.drewN ?_ _) | with_reducible (refine Since.alloc ?_ _) | (with_reducible (refine Since.setCell ?_ ?_ _); rotate_left; focus (first | (simp; done) | (simp; omega) | omega)) | (with_reducible (refine Since.trans ?_ (by with_reducible assumption)))))); rintro e w1 ⟨rfl, rfl⟩)
    rw [rounds_succ]
    go_wp2_with (go_at_call 103; (first | (with_reducible refine Calls.mono (S36.out _ ?_) ?_) | (with_reducible refine Calls.mono (S38.out _ ?_) ?_) | (with_reducible refine Calls.mono (S40.out _ ?_) ?_) | (with_reducible refine Calls.mono (S42.out _ ?_) ?_)); (focus (repeat (first | with_reducible (exact Since.refl _) | with_reducible assumption | with_reducible (refine Since.drew ?_) | with_reducible (refine Since.drewN ?_ _) | with_reducible (refine Since.alloc ?_ _) | (with_reducible (refine Since.setCell ?_ ?_ _); rotate_left; focus (first | (simp; done) | (simp; omega) | omega)) | (with_reducible (refine Since.trans ?_ (by with_reducible assumption)))))); rintro e w1 ⟨rfl, rfl⟩)
    refine bodyPost_ret (v := .tuple #[.agg #[.int .i64 x18, .int .i64 y36, .int .i64 y38, .int .i64 y40, .int .i64 y42, .bool (x50 == 1)], .int .i64 0]) (by simp only [results, Tryz.results99]; go_simp) rfl ?_
    exact G.out _ (by (repeat (first | with_reducible (exact Since.refl _) | with_reducible assumption | with_reducible (refine Since.drew ?_) | with_reducible (refine Since.drewN ?_ _) | with_reducible (refine Since.alloc ?_ _) | (with_reducible (refine Since.setCell ?_ ?_ _); rotate_left; focus (first | (simp; done) | (simp; omega) | omega)) | (with_reducible (refine Since.trans ?_ (by with_reducible assumption))))))
end Go.Proofs.YteckkcpnfeoehaaGreatDoor

/-
  Layer 5: the reference's 'Head'; 'put' and 'lay'.
-/
namespace Go.Proofs.YteckkcpnfeoehaaGreatDoor
set_option maxRecDepth 100000
open Go.RowKit
set_option linter.unusedVariables false

def shortB (x : Int) : Bool := decide (-32768 ≤ x) && decide (x ≤ 32767)
theorem rf_short (x : Int) (w : World) : Calls Tryz.prog 95 #[.int .i64 x] w fun e w' => e = .returned (.bool (shortB x)) ∧ w' = w := by
  by_cases h : -32768 ≤ x
  · have e : shortB x = decide (x ≤ 32767) := by unfold shortB; rw [decide_eq_true h, Bool.true_and]
    have E := Lib.hid e; clear e
    go_enter Tryz.func95, Tryz.ntmps95
    go_wp2
    go_ret
    exact ⟨by rw [E.out]; rfl, rfl⟩
  · have e : shortB x = false := by unfold shortB; rw [decide_eq_false h, Bool.false_and]
    have E := Lib.hid e; clear e
    go_enter Tryz.func95, Tryz.ntmps95
    go_wp2
    go_ret
    exact ⟨by rw [E.out]; rfl, rfl⟩

set_option maxHeartbeats 4000000 in
theorem hd_put (A : Option Addr) (n c : Nat) (f : Nat → Int) (p : Nat) (x y : Int) (w : World) (h : Rd w w.heap.size A n (U8 f)) (hx : x = p) (hy : In64 y) (hp : p + 2 ≤ n) (hn : n ≤ 140737488355328) :
    Calls Tryz.prog 90 #[.slice A n c, .int .i64 x, .int .i64 y] w fun e w' => ∃ A' c', e = .returned (.slice A' n c') ∧ n ≤ c' ∧ Nw w' w.heap.size A' n (U8 (lay2 f p y)) ∧ Since w w' := by
  subst hx
  have hP := put_in 2 y 2 w hy rfl (by omega)
  have HL := Lib.hid (fun (g : Nat) (w1 : World) (hS : Since w w1) (hR : Row w1 g 2 (U8 (byteOf y 2))) => lay_in A (some ⟨g, 0, none⟩) n c 2 2 f (byteOf y 2) p p w1 (h.on hS) (Rd.of_row hR) rfl hn hp)
  clear h
  go_enter Tryz.func90, Tryz.ntmps90
  go_wp2_with (first | (go_at_call 64; (with_reducible refine hP.mono ?_); rintro e w1 ⟨g, rfl, hg, hR, hS1⟩) | (go_at_call 119; (with_reducible refine (HL.out g _ hS1 hR).mono ?_); rintro e w2 ⟨A', c', rfl, hc', hN, hS2⟩))
  go_ret
  refine ⟨A', c', rfl, hc', ?_, hS1.trans hS2⟩
  rw [lay2_is] at hN
  exact hN.low hS1.below.size

set_option maxHeartbeats 4000000 in
theorem rf_lay (A : Option Addr) (n c : Nat) (f : Nat → Int) (p : Nat) (x y : Int) (w : World) (h : Rd w w.heap.size A n (U8 f)) (hx : x = p) (hy : In64 y) (hp : p + 2 ≤ n) (hn : n ≤ 140737488355328) :
    Calls Tryz.prog 96 #[.slice A n c, .int .i64 x, .int .i64 y] w fun e w' => ∃ A' c', e = .returned (.slice A' n c') ∧ n ≤ c' ∧ Nw w' w.heap.size A' n (U8 (lay2 f p y)) ∧ Since w w' := by
  subst hx
  have hP := rput_in 2 y 2 w hy rfl (by omega)
  have HL := Lib.hid (fun (g : Nat) (w1 : World) (hS : Since w w1) (hR : Row w1 g 2 (U8 (byteOf y 2))) => rlay_in A (some ⟨g, 0, none⟩) n c 2 2 f (byteOf y 2) p p w1 (h.on hS) (Rd.of_row hR) rfl hn hp)
  clear h
  go_enter Tryz.func96, Tryz.ntmps96
  go_wp2_with (first | (go_at_call 83; (with_reducible refine hP.mono ?_); rintro e w1 ⟨g, rfl, hg, hR, hS1⟩) | (go_at_call 82; (with_reducible refine (HL.out g _ hS1 hR).mono ?_); rintro e w2 ⟨A', c', rfl, hc', hN, hS2⟩))
  go_ret
  refine ⟨A', c', rfl, hc', ?_, hS1.trans hS2⟩
  rw [lay2_is] at hN
  exact hN.low hS1.below.size


end Go.Proofs.YteckkcpnfeoehaaGreatDoor

/-
  Layer 5: numbers put into a head; what 'PutHead' leaves.
-/
namespace Go.Proofs.YteckkcpnfeoehaaGreatDoor
set_option maxRecDepth 100000
open Go.RowKit
set_option linter.unusedVariables false

def PutQ (n p : Nat) (f : Nat → Int) (y : Int) (w0 w1 : World) (e : Ending) (w' : World) : Prop := ∃ A' c', e = .returned (.slice A' n c') ∧ n ≤ c' ∧ Nw w' w0.heap.size A' n (U8 (lay2 f p y)) ∧ Since w0 w' ∧ Since w1 w'

theorem hd_put18 (A : Option Addr) (n c : Nat) (f : Nat → Int) (y : Int) (w w0 : World) (hS0 : Since w0 w) (hy : In64 y) (h : Rd w w.heap.size A n (U8 f)) (hp : 18 + 2 ≤ n) (hn : n ≤ 140737488355328) : Calls Tryz.prog 90 #[.slice A n c, .int .i64 18, .int .i64 y] w (PutQ n 18 f y w0 w) :=
  (hd_put A n c f 18 18 y w h rfl hy hp hn).mono fun _ _ ⟨A', c', h1, h2, h3, h4⟩ => ⟨A', c', h1, h2, h3.low hS0.below.size, hS0.trans h4, h4⟩
theorem rf_layH18 (A : Option Addr) (n c : Nat) (f : Nat → Int) (y : Int) (w w0 : World) (hS0 : Since w0 w) (hy : In64 y) (h : Rd w w.heap.size A n (U8 f)) (hp : 18 + 2 ≤ n) (hn : n ≤ 140737488355328) : Calls Tryz.prog 96 #[.slice A n c, .int .i64 18, .int .i64 y] w (PutQ n 18 f y w0 w) :=
  (rf_lay A n c f 18 18 y w h rfl hy hp hn).mono fun _ _ ⟨A', c', h1, h2, h3, h4⟩ => ⟨A', c', h1, h2, h3.low hS0.below.size, hS0.trans h4, h4⟩

theorem hd_put36 (A : Option Addr) (n c : Nat) (f : Nat → Int) (y : Int) (w w0 : World) (hS0 : Since w0 w) (hy : In64 y) (h : Rd w w.heap.size A n (U8 f)) (hp : 36 + 2 ≤ n) (hn : n ≤ 140737488355328) : Calls Tryz.prog 90 #[.slice A n c, .int .i64 36, .int .i64 y] w (PutQ n 36 f y w0 w) :=
  (hd_put A n c f 36 36 y w h rfl hy hp hn).mono fun _ _ ⟨A', c', h1, h2, h3, h4⟩ => ⟨A', c', h1, h2, h3.low hS0.below.size, hS0.trans h4, h4⟩
theorem rf_layH36 (A : Option Addr) (n c : Nat) (f : Nat → Int) (y : Int) (w w0 : World) (hS0 : Since w0 w) (hy : In64 y) (h : Rd w w.heap.size A n (U8 f)) (hp : 36 + 2 ≤ n) (hn : n ≤ 140737488355328) : Calls Tryz.prog 96 #[.slice A n c, .int .i64 36, .int .i64 y] w (PutQ n 36 f y w0 w) :=
  (rf_lay A n c f 36 36 y w h rfl hy hp hn).mono fun _ _ ⟨A', c', h1, h2, h3, h4⟩ => ⟨A', c', h1, h2, h3.low hS0.below.size, hS0.trans h4, h4⟩

theorem hd_put38 (A : Option Addr) (n c : Nat) (f : Nat → Int) (y : Int) (w w0 : World) (hS0 : Since w0 w) (hy : In64 y) (h : Rd w w.heap.size A n (U8 f)) (hp : 38 + 2 ≤ n) (hn : n ≤ 140737488355328) : Calls Tryz.prog 90 #[.slice A n c, .int .i64 38, .int .i64 y] w (PutQ n 38 f y w0 w) :=
  (hd_put A n c f 38 38 y w h rfl hy hp hn).mono fun _ _ ⟨A', c', h1, h2, h3, h4⟩ => ⟨A', c', h1, h2, h3.low hS0.below.size, hS0.trans h4, h4⟩
theorem rf_layH38 (A : Option Addr) (n c : Nat) (f : Nat → Int) (y : Int) (w w0 : World) (hS0 : Since w0 w) (hy : In64 y) (h : Rd w w.heap.size A n (U8 f)) (hp : 38 + 2 ≤ n) (hn : n ≤ 140737488355328) : Calls Tryz.prog 96 #[.slice A n c, .int .i64 38, .int .i64 y] w (PutQ n 38 f y w0 w) :=
  (rf_lay A n c f 38 38 y w h rfl hy hp hn).mono fun _ _ ⟨A', c', h1, h2, h3, h4⟩ => ⟨A', c', h1, h2, h3.low hS0.below.size, hS0.trans h4, h4⟩

theorem hd_put40 (A : Option Addr) (n c : Nat) (f : Nat → Int) (y : Int) (w w0 : World) (hS0 : Since w0 w) (hy : In64 y) (h : Rd w w.heap.size A n (U8 f)) (hp : 40 + 2 ≤ n) (hn : n ≤ 140737488355328) : Calls Tryz.prog 90 #[.slice A n c, .int .i64 40, .int .i64 y] w (PutQ n 40 f y w0 w) :=
  (hd_put A n c f 40 40 y w h rfl hy hp hn).mono fun _ _ ⟨A', c', h1, h2, h3, h4⟩ => ⟨A', c', h1, h2, h3.low hS0.below.size, hS0.trans h4, h4⟩
theorem rf_layH40 (A : Option Addr) (n c : Nat) (f : Nat → Int) (y : Int) (w w0 : World) (hS0 : Since w0 w) (hy : In64 y) (h : Rd w w.heap.size A n (U8 f)) (hp : 40 + 2 ≤ n) (hn : n ≤ 140737488355328) : Calls Tryz.prog 96 #[.slice A n c, .int .i64 40, .int .i64 y] w (PutQ n 40 f y w0 w) :=
  (rf_lay A n c f 40 40 y w h rfl hy hp hn).mono fun _ _ ⟨A', c', h1, h2, h3, h4⟩ => ⟨A', c', h1, h2, h3.low hS0.below.size, hS0.trans h4, h4⟩

theorem hd_put42 (A : Option Addr) (n c : Nat) (f : Nat → Int) (y : Int) (w w0 : World) (hS0 : Since w0 w) (hy : In64 y) (h : Rd w w.heap.size A n (U8 f)) (hp : 42 + 2 ≤ n) (hn : n ≤ 140737488355328) : Calls Tryz.prog 90 #[.slice A n c, .int .i64 42, .int .i64 y] w (PutQ n 42 f y w0 w) :=
  (hd_put A n c f 42 42 y w h rfl hy hp hn).mono fun _ _ ⟨A', c', h1, h2, h3, h4⟩ => ⟨A', c', h1, h2, h3.low hS0.below.size, hS0.trans h4, h4⟩
theorem rf_layH42 (A : Option Addr) (n c : Nat) (f : Nat → Int) (y : Int) (w w0 : World) (hS0 : Since w0 w) (hy : In64 y) (h : Rd w w.heap.size A n (U8 f)) (hp : 42 + 2 ≤ n) (hn : n ≤ 140737488355328) : Calls Tryz.prog 96 #[.slice A n c, .int .i64 42, .int .i64 y] w (PutQ n 42 f y w0 w) :=
  (rf_lay A n c f 42 42 y w h rfl hy hp hn).mono fun _ _ ⟨A', c', h1, h2, h3, h4⟩ => ⟨A', c', h1, h2, h3.low hS0.below.size, hS0.trans h4, h4⟩

theorem hd_put50 (A : Option Addr) (n c : Nat) (f : Nat → Int) (y : Int) (w w0 : World) (hS0 : Since w0 w) (hy : In64 y) (h : Rd w w.heap.size A n (U8 f)) (hp : 50 + 2 ≤ n) (hn : n ≤ 140737488355328) : Calls Tryz.prog 90 #[.slice A n c, .int .i64 50, .int .i64 y] w (PutQ n 50 f y w0 w) :=
  (hd_put A n c f 50 50 y w h rfl hy hp hn).mono fun _ _ ⟨A', c', h1, h2, h3, h4⟩ => ⟨A', c', h1, h2, h3.low hS0.below.size, hS0.trans h4, h4⟩
theorem rf_layH50 (A : Option Addr) (n c : Nat) (f : Nat → Int) (y : Int) (w w0 : World) (hS0 : Since w0 w) (hy : In64 y) (h : Rd w w.heap.size A n (U8 f)) (hp : 50 + 2 ≤ n) (hn : n ≤ 140737488355328) : Calls Tryz.prog 96 #[.slice A n c, .int .i64 50, .int .i64 y] w (PutQ n 50 f y w0 w) :=
  (rf_lay A n c f 50 50 y w h rfl hy hp hn).mono fun _ _ ⟨A', c', h1, h2, h3, h4⟩ => ⟨A', c', h1, h2, h3.low hS0.below.size, hS0.trans h4, h4⟩

theorem hd_put4 (A : Option Addr) (n c : Nat) (f : Nat → Int) (y : Int) (w w0 : World) (hS0 : Since w0 w) (hy : In64 y) (h : Rd w w.heap.size A n (U8 f)) (hp : 4 + 2 ≤ n) (hn : n ≤ 140737488355328) : Calls Tryz.prog 90 #[.slice A n c, .int .i64 4, .int .i64 y] w (PutQ n 4 f y w0 w) :=
  (hd_put A n c f 4 4 y w h rfl hy hp hn).mono fun _ _ ⟨A', c', h1, h2, h3, h4⟩ => ⟨A', c', h1, h2, h3.low hS0.below.size, hS0.trans h4, h4⟩
theorem rf_layH4 (A : Option Addr) (n c : Nat) (f : Nat → Int) (y : Int) (w w0 : World) (hS0 : Since w0 w) (hy : In64 y) (h : Rd w w.heap.size A n (U8 f)) (hp : 4 + 2 ≤ n) (hn : n ≤ 140737488355328) : Calls Tryz.prog 96 #[.slice A n c, .int .i64 4, .int .i64 y] w (PutQ n 4 f y w0 w) :=
  (rf_lay A n c f 4 4 y w h rfl hy hp hn).mono fun _ _ ⟨A', c', h1, h2, h3, h4⟩ => ⟨A', c', h1, h2, h3.low hS0.below.size, hS0.trans h4, h4⟩

theorem hd_put6 (A : Option Addr) (n c : Nat) (f : Nat → Int) (y : Int) (w w0 : World) (hS0 : Since w0 w) (hy : In64 y) (h : Rd w w.heap.size A n (U8 f)) (hp : 6 + 2 ≤ n) (hn : n ≤ 140737488355328) : Calls Tryz.prog 90 #[.slice A n c, .int .i64 6, .int .i64 y] w (PutQ n 6 f y w0 w) :=
  (hd_put A n c f 6 6 y w h rfl hy hp hn).mono fun _ _ ⟨A', c', h1, h2, h3, h4⟩ => ⟨A', c', h1, h2, h3.low hS0.below.size, hS0.trans h4, h4⟩
theorem rf_layH6 (A : Option Addr) (n c : Nat) (f : Nat → Int) (y : Int) (w w0 : World) (hS0 : Since w0 w) (hy : In64 y) (h : Rd w w.heap.size A n (U8 f)) (hp : 6 + 2 ≤ n) (hn : n ≤ 140737488355328) : Calls Tryz.prog 96 #[.slice A n c, .int .i64 6, .int .i64 y] w (PutQ n 6 f y w0 w) :=
  (rf_lay A n c f 6 6 y w h rfl hy hp hn).mono fun _ _ ⟨A', c', h1, h2, h3, h4⟩ => ⟨A', c', h1, h2, h3.low hS0.below.size, hS0.trans h4, h4⟩

theorem hd_put8 (A : Option Addr) (n c : Nat) (f : Nat → Int) (y : Int) (w w0 : World) (hS0 : Since w0 w) (hy : In64 y) (h : Rd w w.heap.size A n (U8 f)) (hp : 8 + 2 ≤ n) (hn : n ≤ 140737488355328) : Calls Tryz.prog 90 #[.slice A n c, .int .i64 8, .int .i64 y] w (PutQ n 8 f y w0 w) :=
  (hd_put A n c f 8 8 y w h rfl hy hp hn).mono fun _ _ ⟨A', c', h1, h2, h3, h4⟩ => ⟨A', c', h1, h2, h3.low hS0.below.size, hS0.trans h4, h4⟩
theorem rf_layH8 (A : Option Addr) (n c : Nat) (f : Nat → Int) (y : Int) (w w0 : World) (hS0 : Since w0 w) (hy : In64 y) (h : Rd w w.heap.size A n (U8 f)) (hp : 8 + 2 ≤ n) (hn : n ≤ 140737488355328) : Calls Tryz.prog 96 #[.slice A n c, .int .i64 8, .int .i64 y] w (PutQ n 8 f y w0 w) :=
  (rf_lay A n c f 8 8 y w h rfl hy hp hn).mono fun _ _ ⟨A', c', h1, h2, h3, h4⟩ => ⟨A', c', h1, h2, h3.low hS0.below.size, hS0.trans h4, h4⟩

theorem hd_put10 (A : Option Addr) (n c : Nat) (f : Nat → Int) (y : Int) (w w0 : World) (hS0 : Since w0 w) (hy : In64 y) (h : Rd w w.heap.size A n (U8 f)) (hp : 10 + 2 ≤ n) (hn : n ≤ 140737488355328) : Calls Tryz.prog 90 #[.slice A n c, .int .i64 10, .int .i64 y] w (PutQ n 10 f y w0 w) :=
  (hd_put A n c f 10 10 y w h rfl hy hp hn).mono fun _ _ ⟨A', c', h1, h2, h3, h4⟩ => ⟨A', c', h1, h2, h3.low hS0.below.size, hS0.trans h4, h4⟩
theorem rf_layH10 (A : Option Addr) (n c : Nat) (f : Nat → Int) (y : Int) (w w0 : World) (hS0 : Since w0 w) (hy : In64 y) (h : Rd w w.heap.size A n (U8 f)) (hp : 10 + 2 ≤ n) (hn : n ≤ 140737488355328) : Calls Tryz.prog 96 #[.slice A n c, .int .i64 10, .int .i64 y] w (PutQ n 10 f y w0 w) :=
  (rf_lay A n c f 10 10 y w h rfl hy hp hn).mono fun _ _ ⟨A', c', h1, h2, h3, h4⟩ => ⟨A', c', h1, h2, h3.low hS0.below.size, hS0.trans h4, h4⟩

theorem hd_put12 (A : Option Addr) (n c : Nat) (f : Nat → Int) (y : Int) (w w0 : World) (hS0 : Since w0 w) (hy : In64 y) (h : Rd w w.heap.size A n (U8 f)) (hp : 12 + 2 ≤ n) (hn : n ≤ 140737488355328) : Calls Tryz.prog 90 #[.slice A n c, .int .i64 12, .int .i64 y] w (PutQ n 12 f y w0 w) :=
  (hd_put A n c f 12 12 y w h rfl hy hp hn).mono fun _ _ ⟨A', c', h1, h2, h3, h4⟩ => ⟨A', c', h1, h2, h3.low hS0.below.size, hS0.trans h4, h4⟩
theorem rf_layH12 (A : Option Addr) (n c : Nat) (f : Nat → Int) (y : Int) (w w0 : World) (hS0 : Since w0 w) (hy : In64 y) (h : Rd w w.heap.size A n (U8 f)) (hp : 12 + 2 ≤ n) (hn : n ≤ 140737488355328) : Calls Tryz.prog 96 #[.slice A n c, .int .i64 12, .int .i64 y] w (PutQ n 12 f y w0 w) :=
  (rf_lay A n c f 12 12 y w h rfl hy hp hn).mono fun _ _ ⟨A', c', h1, h2, h3, h4⟩ => ⟨A', c', h1, h2, h3.low hS0.below.size, hS0.trans h4, h4⟩

theorem hd_put28 (A : Option Addr) (n c : Nat) (f : Nat → Int) (y : Int) (w w0 : World) (hS0 : Since w0 w) (hy : In64 y) (h : Rd w w.heap.size A n (U8 f)) (hp : 28 + 2 ≤ n) (hn : n ≤ 140737488355328) : Calls Tryz.prog 90 #[.slice A n c, .int .i64 28, .int .i64 y] w (PutQ n 28 f y w0 w) :=
  (hd_put A n c f 28 28 y w h rfl hy hp hn).mono fun _ _ ⟨A', c', h1, h2, h3, h4⟩ => ⟨A', c', h1, h2, h3.low hS0.below.size, hS0.trans h4, h4⟩
theorem rf_layH28 (A : Option Addr) (n c : Nat) (f : Nat → Int) (y : Int) (w w0 : World) (hS0 : Since w0 w) (hy : In64 y) (h : Rd w w.heap.size A n (U8 f)) (hp : 28 + 2 ≤ n) (hn : n ≤ 140737488355328) : Calls Tryz.prog 96 #[.slice A n c, .int .i64 28, .int .i64 y] w (PutQ n 28 f y w0 w) :=
  (rf_lay A n c f 28 28 y w h rfl hy hp hn).mono fun _ _ ⟨A', c', h1, h2, h3, h4⟩ => ⟨A', c', h1, h2, h3.low hS0.below.size, hS0.trans h4, h4⟩

theorem hd_put30 (A : Option Addr) (n c : Nat) (f : Nat → Int) (y : Int) (w w0 : World) (hS0 : Since w0 w) (hy : In64 y) (h : Rd w w.heap.size A n (U8 f)) (hp : 30 + 2 ≤ n) (hn : n ≤ 140737488355328) : Calls Tryz.prog 90 #[.slice A n c, .int .i64 30, .int .i64 y] w (PutQ n 30 f y w0 w) :=
  (hd_put A n c f 30 30 y w h rfl hy hp hn).mono fun _ _ ⟨A', c', h1, h2, h3, h4⟩ => ⟨A', c', h1, h2, h3.low hS0.below.size, hS0.trans h4, h4⟩
theorem rf_layH30 (A : Option Addr) (n c : Nat) (f : Nat → Int) (y : Int) (w w0 : World) (hS0 : Since w0 w) (hy : In64 y) (h : Rd w w.heap.size A n (U8 f)) (hp : 30 + 2 ≤ n) (hn : n ≤ 140737488355328) : Calls Tryz.prog 96 #[.slice A n c, .int .i64 30, .int .i64 y] w (PutQ n 30 f y w0 w) :=
  (rf_lay A n c f 30 30 y w h rfl hy hp hn).mono fun _ _ ⟨A', c', h1, h2, h3, h4⟩ => ⟨A', c', h1, h2, h3.low hS0.below.size, hS0.trans h4, h4⟩

theorem hd_put34 (A : Option Addr) (n c : Nat) (f : Nat → Int) (y : Int) (w w0 : World) (hS0 : Since w0 w) (hy : In64 y) (h : Rd w w.heap.size A n (U8 f)) (hp : 34 + 2 ≤ n) (hn : n ≤ 140737488355328) : Calls Tryz.prog 90 #[.slice A n c, .int .i64 34, .int .i64 y] w (PutQ n 34 f y w0 w) :=
  (hd_put A n c f 34 34 y w h rfl hy hp hn).mono fun _ _ ⟨A', c', h1, h2, h3, h4⟩ => ⟨A', c', h1, h2, h3.low hS0.below.size, hS0.trans h4, h4⟩
theorem rf_layH34 (A : Option Addr) (n c : Nat) (f : Nat → Int) (y : Int) (w w0 : World) (hS0 : Since w0 w) (hy : In64 y) (h : Rd w w.heap.size A n (U8 f)) (hp : 34 + 2 ≤ n) (hn : n ≤ 140737488355328) : Calls Tryz.prog 96 #[.slice A n c, .int .i64 34, .int .i64 y] w (PutQ n 34 f y w0 w) :=
  (rf_lay A n c f 34 34 y w h rfl hy hp hn).mono fun _ _ ⟨A', c', h1, h2, h3, h4⟩ => ⟨A', c', h1, h2, h3.low hS0.below.size, hS0.trans h4, h4⟩

def phOk (em a b c d : Int) : Bool := (decide (16 ≤ em) && decide (em ≤ 16384)) && (shortB a && shortB b && shortB c && shortB d)
def phE (n : Nat) (em a b c d : Int) : Int := if n < 54 then 3 else if phOk em a b c d then 0 else 6
def phN (n : Nat) (em a b c d : Int) : Nat := if phE n em a b c d = 0 then n else 0
def oneIf (l : Bool) : Int := if l then 1 else 0
def phF (f : Nat → Int) (em a b c d : Int) (l : Bool) : Nat → Int := lay2 (lay2 (lay2 (lay2 (lay2 (lay2 f 18 em) 36 a) 38 b) 40 c) 42 d) 50 (oneIf l)
def PhPost (f : Nat → Int) (n : Nat) (em a b c d : Int) (l : Bool) (w : World) (e : Ending) (w' : World) : Prop := ∃ A' c', e = .returned (.tuple #[.slice A' (phN n em a b c d) c', .int .i64 (phE n em a b c d)]) ∧ phN n em a b c d ≤ c' ∧ Nw w' w.heap.size A' (phN n em a b c d) (U8 (phF f em a b c d l)) ∧ Since w w'
theorem ph_bad {f : Nat → Int} {n : Nat} {em a b c d E : Int} {l : Bool} {w w' : World} (hE : phE n em a b c d = E) (h0 : E ≠ 0) (hS : Since w w') : PhPost f n em a b c d l w (.returned (.tuple #[.slice none 0 0, .int .i64 E])) w' := by
  subst hE
  have e : phN n em a b c d = 0 := by unfold phN; rw [if_neg h0]
  unfold PhPost
  rw [e]
  exact ⟨none, 0, rfl, Nat.le_refl _, Nw.zero, hS⟩
theorem ph_good {f g : Nat → Int} {n c' B : Nat} {em a b c d : Int} {l : Bool} {A' : Option Addr} {w w' : World} (hE : phE n em a b c d = 0) (hc : n ≤ c') (hN : Nw w' B A' n (U8 g)) (hg : g = phF f em a b c d l) (hB : w.heap.size ≤ B) (hS : Since w w') : PhPost f n em a b c d l w (.returned (.tuple #[.slice A' n c', .int .i64 0])) w' := by
  subst hg
  have e : phN n em a b c d = n := by unfold phN; rw [if_pos hE]
  unfold PhPost
  rw [e, hE]
  exact ⟨A', c', rfl, hc, hN.low hB, hS⟩
theorem box_at (w : World) (a b c d : Value) (t : TypeId) (j : Nat) (v : Value) (h : #[a, b, c, d][j]? = some v) : (w.alloc (.cells #[a, b, c, d] t)).cell? ⟨w.heap.size, j, none⟩ = some v := by rw [World.cell?_alloc_new]; exact h
theorem hbox_at (w : World) (a b c d e f : Value) (t : TypeId) (j : Nat) (v : Value) (h : #[a, b, c, d, e, f][j]? = some v) : (w.alloc (.cells #[a, b, c, d, e, f] t)).cell? ⟨w.heap.size, j, none⟩ = some v := by rw [World.cell?_alloc_new]; exact h
theorem ph_prog (f : Nat → Int) (em a b c d : Int) (l : Bool) : lay2 (lay2 (lay2 (lay2 (lay2 (lay2 f 18 em) 50 (oneIf l)) 36 a) 38 b) 40 c) 42 d = phF f em a b c d l := by
  unfold phF
  rw [lay2_comm (lay2 f 18 em) 50 36 _ _ (by omega), lay2_comm _ 50 38 _ _ (by omega), lay2_comm _ 50 40 _ _ (by omega), lay2_comm _ 50 42 _ _ (by omega)]
theorem short_no {x : Int} (h : x < -32768 ∨ 32767 < x) : shortB x = false := by
  unfold shortB
  rcases h with h | h
  · rw [decide_eq_false (by omega), Bool.false_and]
  · rw [decide_eq_false (p := x ≤ 32767) (by omega), Bool.and_false]
theorem short_yes {x : Int} (h : -32768 ≤ x ∧ x ≤ 32767) : shortB x = true := by
  unfold shortB
  rw [decide_eq_true h.1, decide_eq_true h.2]; rfl
end Go.Proofs.YteckkcpnfeoehaaGreatDoor

/-
  Layer 5: 'Maxp', 'Count', 'PutCount', walked, program and reference.
-/
namespace Go.Proofs.YteckkcpnfeoehaaGreatDoor
set_option maxRecDepth 100000
open Go.RowKit
set_option linter.unusedVariables false

def mxE (f : Nat → Int) (n : Nat) : Int := if n < 32 then 3 else if numAt f 0 4 ≠ 65536 then 4 else 0
def mxN (f : Nat → Int) (n p : Nat) : Int := if mxE f n = 0 then numAt f p 2 else 0
def MxV (a b c d e g i : Int) : Value := .agg #[.int .i64 a, .int .i64 b, .int .i64 c, .int .i64 d, .int .i64 e, .int .i64 g, .int .i64 i]
def MxPost (f : Nat → Int) (n : Nat) (w : World) (e : Ending) (w' : World) : Prop := e = .returned (.tuple #[MxV (mxN f n 4) (mxN f n 6) (mxN f n 8) (mxN f n 10) (mxN f n 12) (mxN f n 28) (mxN f n 30), .int .i64 (mxE f n)]) ∧ Since w w'
theorem mx_bad {f : Nat → Int} {n : Nat} {E : Int} {w w' : World} (hE : mxE f n = E) (h0 : E ≠ 0) (hS : Since w w') : MxPost f n w (.returned (.tuple #[MxV 0 0 0 0 0 0 0, .int .i64 E])) w' := by
  subst hE
  have e : ∀ p, mxN f n p = 0 := fun p => by unfold mxN; rw [if_neg h0]
  unfold MxPost
  rw [e, e, e, e, e, e, e]
  exact ⟨rfl, hS⟩
theorem mx_good {f : Nat → Int} {n : Nat} {w w' : World} (hE : mxE f n = 0) (hS : Since w w') : MxPost f n w (.returned (.tuple #[MxV (numAt f 4 2) (numAt f 6 2) (numAt f 8 2) (numAt f 10 2) (numAt f 12 2) (numAt f 28 2) (numAt f 30 2), .int .i64 0])) w' := by
  have e : ∀ p, mxN f n p = numAt f p 2 := fun p => by unfold mxN; rw [if_pos hE]
  unfold MxPost
  rw [e, e, e, e, e, e, e, hE]
  exact ⟨rfl, hS⟩

set_option maxRecDepth 100000 in
set_option maxHeartbeats 8000000 in
theorem hd_maxp (A : Option Addr) (n c : Nat) (f : Nat → Int) (w : World) (hT : Tabs w) (h : Rd w w.heap.size A n (U8 f)) (hf : ∀ j, j < n → 0 ≤ f j ∧ f j ≤ 255) (hn : n ≤ 140737488355328) :
    Calls Tryz.prog 100 #[.slice A n c] w (MxPost f n w) := by
  have hn' : (n : Int) ≤ 140737488355328 := by omega
  by_cases h1 : n < 32
  · have E := Lib.hid (show mxE f n = 3 by unfold mxE; rw [if_pos h1])
    have h1' : (n : Int) < 32 := by omega
    clear h
    go_enter Tryz.func100, Tryz.ntmps100
    go_wp2
    refine bodyPost_ret (v := .tuple #[.agg #[.int .i64 0, .int .i64 0, .int .i64 0, .int .i64 0, .int .i64 0, .int .i64 0, .int .i64 0], .int .i64 3]) (by simp only [results, Tryz.results100]; go_simp) rfl ?_
    exact mx_bad E.out (by decide) (by (repeat (first | with_reducible (exact Since.refl _) | with_reducible assumption | with_reducible (refine Since.drew ?_) | with_reducible (refine Since.drewN ?_ _) | with_reducible (refine Since.alloc ?_ _) | (with_reducible (refine Since.setCell ?_ ?_ _); rotate_left; focus (first | (simp; done) | (simp; omega) | omega)) | (with_reducible (refine Since.trans ?_ (by with_reducible assumption))))))
  have h1' : (32 : Int) ≤ n := by omega
  have u0 : ∀ w1, Since w w1 → Calls Tryz.prog 97 #[.slice A n c, .int .i64 0, .int .i64 4] w1 fun e w' => e = .returned (.tuple #[.int .i64 (numAt f 0 4), .int .i64 0]) ∧ w' = w1 := fun w1 hS => u_in A n c f 0 4 0 4 w1 (h.on hS) hf rfl rfl (by omega) (by omega) hn
  have u4 : ∀ w1, Since w w1 → Calls Tryz.prog 97 #[.slice A n c, .int .i64 4, .int .i64 2] w1 fun e w' => e = .returned (.tuple #[.int .i64 (numAt f 4 2), .int .i64 0]) ∧ w' = w1 := fun w1 hS => u_in A n c f 4 2 4 2 w1 (h.on hS) hf rfl rfl (by omega) (by omega) hn
  have u6 : ∀ w1, Since w w1 → Calls Tryz.prog 97 #[.slice A n c, .int .i64 6, .int .i64 2] w1 fun e w' => e = .returned (.tuple #[.int .i64 (numAt f 6 2), .int .i64 0]) ∧ w' = w1 := fun w1 hS => u_in A n c f 6 2 6 2 w1 (h.on hS) hf rfl rfl (by omega) (by omega) hn
  have u8 : ∀ w1, Since w w1 → Calls Tryz.prog 97 #[.slice A n c, .int .i64 8, .int .i64 2] w1 fun e w' => e = .returned (.tuple #[.int .i64 (numAt f 8 2), .int .i64 0]) ∧ w' = w1 := fun w1 hS => u_in A n c f 8 2 8 2 w1 (h.on hS) hf rfl rfl (by omega) (by omega) hn
  have u10 : ∀ w1, Since w w1 → Calls Tryz.prog 97 #[.slice A n c, .int .i64 10, .int .i64 2] w1 fun e w' => e = .returned (.tuple #[.int .i64 (numAt f 10 2), .int .i64 0]) ∧ w' = w1 := fun w1 hS => u_in A n c f 10 2 10 2 w1 (h.on hS) hf rfl rfl (by omega) (by omega) hn
  have u12 : ∀ w1, Since w w1 → Calls Tryz.prog 97 #[.slice A n c, .int .i64 12, .int .i64 2] w1 fun e w' => e = .returned (.tuple #[.int .i64 (numAt f 12 2), .int .i64 0]) ∧ w' = w1 := fun w1 hS => u_in A n c f 12 2 12 2 w1 (h.on hS) hf rfl rfl (by omega) (by omega) hn
  have u28 : ∀ w1, Since w w1 → Calls Tryz.prog 97 #[.slice A n c, .int .i64 28, .int .i64 2] w1 fun e w' => e = .returned (.tuple #[.int .i64 (numAt f 28 2), .int .i64 0]) ∧ w' = w1 := fun w1 hS => u_in A n c f 28 2 28 2 w1 (h.on hS) hf rfl rfl (by omega) (by omega) hn
  have u30 : ∀ w1, Since w w1 → Calls Tryz.prog 97 #[.slice A n c, .int .i64 30, .int .i64 2] w1 fun e w' => e = .returned (.tuple #[.int .i64 (numAt f 30 2), .int .i64 0]) ∧ w' = w1 := fun w1 hS => u_in A n c f 30 2 30 2 w1 (h.on hS) hf rfl rfl (by omega) (by omega) hn
  have hE : mxE f n = if numAt f 0 4 ≠ 65536 then 4 else 0 := by unfold mxE; rw [if_neg h1]
  have HG : ∀ w', Since w w' → mxE f n = 0 → MxPost f n w _ w' := fun w' hS h0 => mx_good h0 hS
  clear h
  generalize numAt f 4 2 = y4 at *
  generalize numAt f 6 2 = y6 at *
  generalize numAt f 8 2 = y8 at *
  generalize numAt f 10 2 = y10 at *
  generalize numAt f 12 2 = y12 at *
  generalize numAt f 28 2 = y28 at *
  generalize numAt f 30 2 = y30 at *
  generalize numAt f 0 4 = x0 at *
  have U0 := Lib.hid u0
  have U4 := Lib.hid u4
  have U6 := Lib.hid u6
  have U8 := Lib.hid u8
  have U10 := Lib.hid u10
  have U12 := Lib.hid u12
  have U28 := Lib.hid u28
  have U30 := Lib.hid u30
  clear u0 u4 u6 u8 u10 u12 u28 u30
  by_cases hb : x0 ≠ 65536
  · have E := Lib.hid (show mxE f n = 4 by rw [hE, if_pos hb])
    have d0 : (x0 != 65536) = true := by simpa using hb
    clear hE HG
    go_enter Tryz.func100, Tryz.ntmps100
    go_wp2_with (go_at_call 97; (first | (with_reducible refine Calls.mono (U0.out _ ?_) ?_)); (focus (repeat (first | with_reducible (exact Since.refl _) | with_reducible assumption | with_reducible (refine Since.drew ?_) | with_reducible (refine Since.drewN ?_ _) | with_reducible (refine Since.alloc ?_ _) | (with_reducible (refine Since.setCell ?_ ?_ _); rotate_left; focus (first | (simp; done) | (simp; omega) | omega)) | (with_reducible (refine Since.trans ?_ (by with_reducible assumption)))))); rintro e w1 ⟨rfl, rfl⟩)
    refine bodyPost_ret (v := .tuple #[.agg #[.int .i64 0, .int .i64 0, .int .i64 0, .int .i64 0, .int .i64 0, .int .i64 0, .int .i64 0], .int .i64 4]) (by simp only [results, Tryz.results100]; go_simp) rfl ?_
    exact mx_bad E.out (by decide) (by (repeat (first | with_reducible (exact Since.refl _) | with_reducible assumption | with_reducible (refine Since.drew ?_) | with_reducible (refine Since.drewN ?_ _) | with_reducible (refine Since.alloc ?_ _) | (with_reducible (refine Since.setCell ?_ ?_ _); rotate_left; focus (first | (simp; done) | (simp; omega) | omega)) | (with_reducible (refine Since.trans ?_ (by with_reducible assumption))))))
  · have G := Lib.hid (fun w' (hS : Since w w') => HG w' hS (by rw [hE, if_neg hb]))
    obtain rfl : x0 = 65536 := by omega
    clear hE HG hb
    obtain ⟨t0, ta, t1, t2, t3, t4, t5, t6, t7⟩ := hT
    have t8 : 1 < w.heap.size := by omega
    have t9 : 0 < w.heap.size := by omega
    have x0 := mx0; have x1 := mx1; have x2 := mx2; have x3 := mx3; have x4 := mx4; have x5 := mx5; have x6 := mx6
    clear ta
    go_enter Tryz.func100, Tryz.ntmps100
    go_wp2_with (go_at_call 97; (first | (with_reducible refine Calls.mono (U0.out _ ?_) ?_) | (with_reducible refine Calls.mono (U4.out _ ?_) ?_) | (with_reducible refine Calls.mono (U6.out _ ?_) ?_) | (with_reducible refine Calls.mono (U8.out _ ?_) ?_) | (with_reducible refine Calls.mono (U10.out _ ?_) ?_) | (with_reducible refine Calls.mono (U12.out _ ?_) ?_) | (with_reducible refine Calls.mono (U28.out _ ?_) ?_) | (with_reducible refine Calls.mono (U30.out _ ?_) ?_)); (focus (repeat (first | with_reducible (exact Since.refl _) | with_reducible assumption | with_reducible (refine Since.drew ?_) | with_reducible (refine Since.drewN ?_ _) | with_reducible (refine Since.alloc ?_ _) | (with_reducible (refine Since.setCell ?_ ?_ _); rotate_left; focus (first | (simp; done) | (simp; omega) | omega)) | (with_reducible (refine Since.trans ?_ (by with_reducible assumption)))))); rintro e w1 ⟨rfl, rfl⟩)
    refine wp_loop_rounds 8 ?_
    rw [rounds_succ]
    go_wp2_with (go_at_call 97; (first | (with_reducible refine Calls.mono (U4.out _ ?_) ?_) | (with_reducible refine Calls.mono (U6.out _ ?_) ?_) | (with_reducible refine Calls.mono (U8.out _ ?_) ?_) | (with_reducible refine Calls.mono (U10.out _ ?_) ?_) | (with_reducible refine Calls.mono (U12.out _ ?_) ?_) | (with_reducible refine Calls.mono (U28.out _ ?_) ?_) | (with_reducible refine Calls.mono (U30.out _ ?_) ?_)); (focus (repeat (first | with_reducible (exact Since.refl _) | with_reducible assumption | with_reducible (refine Since.drew ?_) | with_reducible (refine Since.drewN ?_ _) | with_reducible (refine Since.alloc ?_ _) | (with_reducible (refine Since.setCell ?_ ?_ _); rotate_left; focus (first | (simp; done) | (simp; omega) | omega)) | (with_reducible (refine Since.trans ?_ (by with_reducible assumption)))))); rintro e w1 ⟨rfl, rfl⟩)
    rw [rounds_succ]
    go_wp2_with (go_at_call 97; (first | (with_reducible refine Calls.mono (U4.out _ ?_) ?_) | (with_reducible refine Calls.mono (U6.out _ ?_) ?_) | (with_reducible refine Calls.mono (U8.out _ ?_) ?_) | (with_reducible refine Calls.mono (U10.out _ ?_) ?_) | (with_reducible refine Calls.mono (U12.out _ ?_) ?_) | (with_reducible refine Calls.mono (U28.out _ ?_) ?_) | (with_reducible refine Calls.mono (U30.out _ ?_) ?_)); (focus (repeat (first | with_reducible (exact Since.refl _) | with_reducible assumption | with_reducible (refine Since.drew ?_) | with_reducible (refine Since.drewN ?_ _) | with_reducible (refine Since.alloc ?_ _) | (with_reducible (refine Since.setCell ?_ ?_ _); rotate_left; focus (first | (simp; done) | (simp; omega) | omega)) | (with_reducible (refine Since.trans ?_ (by with_reducible assumption)))))); rintro e w1 ⟨rfl, rfl⟩)
    rw [rounds_succ]
    go_wp2_with (go_at_call 97; (first | (with_reducible refine Calls.mono (U4.out _ ?_) ?_) | (with_reducible refine Calls.mono (U6.out _ ?_) ?_) | (with_reducible refine Calls.mono (U8.out _ ?_) ?_) | (with_reducible refine Calls.mono (U10.out _ ?_) ?_) | (with_reducible refine Calls.mono (U12.out _ ?_) ?_) | (with_reducible refine Calls.mono (U28.out _ ?_) ?_) | (with_reducible refine Calls.mono (U30.out _ ?_) ?_)); (focus (repeat (first | with_reducible (exact Since.refl _) | with_reducible assumption | with_reducible (refine Since.drew ?_) | with_reducible (refine Since.drewN ?_ _) | with_reducible (refine Since.alloc ?_ _) | (with_reducible (refine Since.setCell ?_ ?_ _); rotate_left; focus (first | (simp; done) | (simp; omega) | omega)) | (with_reducible (refine Since.trans ?_ (by with_reducible assumption)))))); rintro e w1 ⟨rfl, rfl⟩)
    rw [rounds_succ]
    go_wp2_with (go_at_call 97; (first | (with_reducible refine Calls.mono (U4.out _ ?_) ?_) | (with_reducible refine Calls.mono (U6.out _ ?_) ?_) | (with_reducible refine Calls.mono (U8.out _ ?_) ?_) | (with_reducible refine Calls.mono (U10.out _ ?_) ?_) | (with_reducible refine Calls.mono (U12.out _ ?_) ?_) | (with_reducible refine Calls.mono (U28.out _ ?_) ?_) | (with_reducible refine Calls.mono (U30.out _ ?_) ?_)); (focus (repeat (first | with_reducible (exact Since.refl _) | with_reducible assumption | with_reducible (refine Since.drew ?_) | with_reducible (refine Since.drewN ?_ _) | with_reducible (refine Since.alloc ?_ _) | (with_reducible (refine Since.setCell ?_ ?_ _); rotate_left; focus (first | (simp; done) | (simp; omega) | omega)) | (with_reducible (refine Since.trans ?_ (by with_reducible assumption)))))); rintro e w1 ⟨rfl, rfl⟩)
    rw [rounds_succ]
    go_wp2_with (go_at_call 97; (first | (with_reducible refine Calls.mono (U4.out _ ?_) ?_) | (with_reducible refine Calls.mono (U6.out _ ?_) ?_) | (with_reducible refine Calls.mono (U8.out _ ?_) ?_) | (with_reducible refine Calls.mono (U10.out _ ?_) ?_) | (with_reducible refine Calls.mono (U12.out _ ?_) ?_) | (with_reducible refine Calls.mono (U28.out _ ?_) ?_) | (with_reducible refine Calls.mono (U30.out _ ?_) ?_)); (focus (repeat (first | with_reducible (exact Since.refl _) | with_reducible assumption | with_reducible (refine Since.drew ?_) | with_reducible (refine Since.drewN ?_ _) | with_reducible (refine Since.alloc ?_ _) | (with_reducible (refine Since.setCell ?_ ?_ _); rotate_left; focus (first | (simp; done) | (simp; omega) | omega)) | (with_reducible (refine Since.trans ?_ (by with_reducible assumption)))))); rintro e w1 ⟨rfl, rfl⟩)
    rw [rounds_succ]
    go_wp2_with (go_at_call 97; (first | (with_reducible refine Calls.mono (U4.out _ ?_) ?_) | (with_reducible refine Calls.mono (U6.out _ ?_) ?_) | (with_reducible refine Calls.mono (U8.out _ ?_) ?_) | (with_reducible refine Calls.mono (U10.out _ ?_) ?_) | (with_reducible refine Calls.mono (U12.out _ ?_) ?_) | (with_reducible refine Calls.mono (U28.out _ ?_) ?_) | (with_reducible refine Calls.mono (U30.out _ ?_) ?_)); (focus (repeat (first | with_reducible (exact Since.refl _) | with_reducible assumption | with_reducible (refine Since.drew ?_) | with_reducible (refine Since.drewN ?_ _) | with_reducible (refine Since.alloc ?_ _) | (with_reducible (refine Since.setCell ?_ ?_ _); rotate_left; focus (first | (simp; done) | (simp; omega) | omega)) | (with_reducible (refine Since.trans ?_ (by with_reducible assumption)))))); rintro e w1 ⟨rfl, rfl⟩)
    rw [rounds_succ]
    go_wp2_with (go_at_call 97; (first | (with_reducible refine Calls.mono (U4.out _ ?_) ?_) | (with_reducible refine Calls.mono (U6.out _ ?_) ?_) | (with_reducible refine Calls.mono (U8.out _ ?_) ?_) | (with_reducible refine Calls.mono (U10.out _ ?_) ?_) | (with_reducible refine Calls.mono (U12.out _ ?_) ?_) | (with_reducible refine Calls.mono (U28.out _ ?_) ?_) | (with_reducible refine Calls.mono (U30.out _ ?_) ?_)); (focus (repeat (first | with_reducible (exact Since.refl _) | with_reducible assumption | with_reducible (refine Since.drew ?_) | with_reducible (refine Since.drewN ?_ _) | with_reducible (refine Since.alloc ?_ _) | (with_reducible (refine Since.setCell ?_ ?_ _); rotate_left; focus (first | (simp; done) | (simp; omega) | omega)) | (with_reducible (refine Since.trans ?_ (by with_reducible assumption)))))); rintro e w1 ⟨rfl, rfl⟩)
    rw [rounds_succ]
    go_wp2_with (go_at_call 97; (first | (with_reducible refine Calls.mono (U4.out _ ?_) ?_) | (with_reducible refine Calls.mono (U6.out _ ?_) ?_) | (with_reducible refine Calls.mono (U8.out _ ?_) ?_) | (with_reducible refine Calls.mono (U10.out _ ?_) ?_) | (with_reducible refine Calls.mono (U12.out _ ?_) ?_) | (with_reducible refine Calls.mono (U28.out _ ?_) ?_) | (with_reducible refine Calls.mono (U30.out _ ?_) ?_)); (focus (repeat (first | with_reducible (exact Since.refl _) | with_reducible assumption | with_reducible (refine Since.drew ?_) | with_reducible (refine Since.drewN ?_ _) | with_reducible (refine Since.alloc ?_ _) | (with_reducible (refine Since.setCell ?_ ?_ _); rotate_left; focus (first | (simp; done) | (simp; omega) | omega)) | (with_reducible (refine Since.trans ?_ (by with_reducible assumption)))))); rintro e w1 ⟨rfl, rfl⟩)
    refine bodyPost_ret (v := .tuple #[.agg #[.int .i64 y4, .int .i64 y6, .int .i64 y8, .int .i64 y10, .int .i64 y12, .int .i64 y28, .int .i64 y30], .int .i64 0]) (by simp only [results, Tryz.results100]; go_simp) rfl ?_
    exact G.out _ (by (repeat (first | with_reducible (exact Since.refl _) | with_reducible assumption | with_reducible (refine Since.drew ?_) | with_reducible (refine Since.drewN ?_ _) | with_reducible (refine Since.alloc ?_ _) | (with_reducible (refine Since.setCell ?_ ?_ _); rotate_left; focus (first | (simp; done) | (simp; omega) | omega)) | (with_reducible (refine Since.trans ?_ (by with_reducible assumption))))))
def ctE (f : Nat → Int) (n : Nat) : Int := if n < 36 then 3 else if numAt f 34 2 = 0 then 4 else 0
def ctN (f : Nat → Int) (n : Nat) : Int := if ctE f n = 0 then numAt f 34 2 else 0
set_option maxHeartbeats 4000000 in
theorem hd_count (A : Option Addr) (n c : Nat) (f : Nat → Int) (w : World) (h : Rd w w.heap.size A n (U8 f)) (hf : ∀ j, j < n → 0 ≤ f j ∧ f j ≤ 255) (hn : n ≤ 140737488355328) :
    Calls Tryz.prog 101 #[.slice A n c] w fun e w' => e = .returned (.tuple #[.int .i64 (ctN f n), .int .i64 (ctE f n)]) ∧ Since w w' := by
  have hn' : (n : Int) ≤ 140737488355328 := by omega
  by_cases h1 : n < 36
  · have e : ctE f n = 3 := by unfold ctE; rw [if_pos h1]
    have e' : ctN f n = 0 := by unfold ctN; rw [e]; rfl
    rw [e, e']
    have h1' : (n : Int) < 36 := by omega
    clear h e e'
    go_enter Tryz.func101, Tryz.ntmps101
    go_wp2
    go_ret2
    exact ⟨rfl, Since.refl _⟩
  have h1' : (36 : Int) ≤ n := by omega
  have u34 : ∀ w1, Since w w1 → Calls Tryz.prog 97 #[.slice A n c, .int .i64 34, .int .i64 2] w1 fun e w' => e = .returned (.tuple #[.int .i64 (numAt f 34 2), .int .i64 0]) ∧ w' = w1 := fun w1 hS => u_in A n c f 34 2 34 2 w1 (h.on hS) hf rfl rfl (by omega) (by omega) hn
  have e : ctE f n = if numAt f 34 2 = 0 then 4 else 0 := by unfold ctE; rw [if_neg h1]
  have e' : ctN f n = if ctE f n = 0 then numAt f 34 2 else 0 := rfl
  clear h
  generalize numAt f 34 2 = x at *
  have U34 := Lib.hid u34
  clear u34
  by_cases hx : x = 0
  · rw [if_pos hx] at e
    rw [e, if_neg (by decide)] at e'
    rw [e, e']
    have d0 : (x == 0) = true := by simpa using hx
    clear e e' hx
    go_enter Tryz.func101, Tryz.ntmps101
    go_wp2_with (go_at_call 97; (first | (with_reducible refine Calls.mono (U34.out _ ?_) ?_)); (focus (repeat (first | with_reducible (exact Since.refl _) | with_reducible assumption | with_reducible (refine Since.drew ?_) | with_reducible (refine Since.drewN ?_ _) | with_reducible (refine Since.alloc ?_ _) | (with_reducible (refine Since.setCell ?_ ?_ _); rotate_left; focus (first | (simp; done) | (simp; omega) | omega)) | (with_reducible (refine Since.trans ?_ (by with_reducible assumption)))))); rintro e w1 ⟨rfl, rfl⟩)
    go_ret2
    exact ⟨rfl, Since.refl _⟩
  · rw [if_neg hx] at e
    rw [e, if_pos rfl] at e'
    rw [e, e']
    have d0 : (x == 0) = false := by simpa using hx
    clear e e'
    go_enter Tryz.func101, Tryz.ntmps101
    go_wp2_with (go_at_call 97; (first | (with_reducible refine Calls.mono (U34.out _ ?_) ?_)); (focus (repeat (first | with_reducible (exact Since.refl _) | with_reducible assumption | with_reducible (refine Since.drew ?_) | with_reducible (refine Since.drewN ?_ _) | with_reducible (refine Since.alloc ?_ _) | (with_reducible (refine Since.setCell ?_ ?_ _); rotate_left; focus (first | (simp; done) | (simp; omega) | omega)) | (with_reducible (refine Since.trans ?_ (by with_reducible assumption)))))); rintro e w1 ⟨rfl, rfl⟩)
    go_ret2
    exact ⟨rfl, Since.refl _⟩
def pcE (n : Nat) (x : Int) : Int := if n < 36 then 3 else if x < 1 ∨ 65535 < x then 6 else 0
def pcN (n : Nat) (x : Int) : Nat := if pcE n x = 0 then n else 0
def PcPost (f : Nat → Int) (n : Nat) (x : Int) (w : World) (e : Ending) (w' : World) : Prop := ∃ A' c', e = .returned (.tuple #[.slice A' (pcN n x) c', .int .i64 (pcE n x)]) ∧ pcN n x ≤ c' ∧ Nw w' w.heap.size A' (pcN n x) (U8 (lay2 f 34 x)) ∧ Since w w'
theorem pc_bad {f : Nat → Int} {n : Nat} {x E : Int} {w w' : World} (hE : pcE n x = E) (h0 : E ≠ 0) (hS : Since w w') : PcPost f n x w (.returned (.tuple #[.slice none 0 0, .int .i64 E])) w' := by
  subst hE
  have e : pcN n x = 0 := by unfold pcN; rw [if_neg h0]
  unfold PcPost
  rw [e]
  exact ⟨none, 0, rfl, Nat.le_refl _, Nw.zero, hS⟩
theorem pc_good {f : Nat → Int} {n c' : Nat} {x : Int} {A' : Option Addr} {w w' : World} (hE : pcE n x = 0) (hc : n ≤ c') (hN : Nw w' w.heap.size A' n (U8 (lay2 f 34 x))) (hS : Since w w') : PcPost f n x w (.returned (.tuple #[.slice A' n c', .int .i64 0])) w' := by
  have e : pcN n x = n := by unfold pcN; rw [if_pos hE]
  unfold PcPost
  rw [e, hE]
  exact ⟨A', c', rfl, hc, hN, hS⟩

set_option maxHeartbeats 4000000 in
theorem hd_putcount (A : Option Addr) (n q : Nat) (f : Nat → Int) (x : Int) (w : World) (h : Rd w w.heap.size A n (U8 f)) (hx : In64 x) (hn : n ≤ 140737488355328) :
    Calls Tryz.prog 47 #[.slice A n q, .int .i64 x] w (PcPost f n x w) := by
  have hn' : (n : Int) ≤ 140737488355328 := by omega
  by_cases h1 : n < 36
  · have E := Lib.hid (show pcE n x = 3 by unfold pcE; rw [if_pos h1])
    have h1' : (n : Int) < 36 := by omega
    clear h
    go_enter Tryz.func47, Tryz.ntmps47
    go_wp2
    go_ret2
    exact pc_bad E.out (by decide) (Since.refl _)
  have h1' : (36 : Int) ≤ n := by omega
  by_cases h2 : x < 1 ∨ 65535 < x
  · have E := Lib.hid (show pcE n x = 6 by unfold pcE; rw [if_neg h1, if_pos h2])
    have h3 : x < 1 ∨ (1 ≤ x ∧ 65535 < x) := by omega
    clear h h2
    rcases h3 with h3 | ⟨h3, h4⟩
    all_goals
      go_enter Tryz.func47, Tryz.ntmps47
      go_wp2
      go_ret2
      exact pc_bad E.out (by decide) (Since.refl _)
  have E := Lib.hid (show pcE n x = 0 by unfold pcE; rw [if_neg h1, if_neg h2])
  have h3 : 1 ≤ x := by omega
  have h4 : x ≤ 65535 := by omega
  have hP := hd_put34 A n q f x w w (Since.refl _) hx h (by omega) hn
  clear h h2
  go_enter Tryz.func47, Tryz.ntmps47
  go_wp2_with (go_at_call 90; (with_reducible refine hP.mono ?_); rintro e w1 ⟨A', c', rfl, hc', hN, hS, _⟩)
  go_ret2
  exact pc_good E.out hc' hN hS

set_option maxHeartbeats 4000000 in
theorem rf_putcount (A : Option Addr) (n q : Nat) (f : Nat → Int) (x : Int) (w : World) (h : Rd w w.heap.size A n (U8 f)) (hx : In64 x) (hn : n ≤ 140737488355328) :
    Calls Tryz.prog 52 #[.slice A n q, .int .i64 x] w (PcPost f n x w) := by
  have hn' : (n : Int) ≤ 140737488355328 := by omega
  by_cases h1 : n < 36
  · have E := Lib.hid (show pcE n x = 3 by unfold pcE; rw [if_pos h1])
    have h1' : (n : Int) < 36 := by omega
    clear h
    go_enter Tryz.func52, Tryz.ntmps52
    go_wp2
    go_ret2
    exact pc_bad E.out (by decide) (Since.refl _)
  have h1' : (36 : Int) ≤ n := by omega
  by_cases h2 : x < 1 ∨ 65535 < x
  · have E := Lib.hid (show pcE n x = 6 by unfold pcE; rw [if_neg h1, if_pos h2])
    have h3 : x < 1 ∨ (1 ≤ x ∧ 65535 < x) := by omega
    clear h h2
    rcases h3 with h3 | ⟨h3, h4⟩
    all_goals
      go_enter Tryz.func52, Tryz.ntmps52
      go_wp2
      go_ret2
      exact pc_bad E.out (by decide) (Since.refl _)
  have E := Lib.hid (show pcE n x = 0 by unfold pcE; rw [if_neg h1, if_neg h2])
  have h3 : 1 ≤ x := by omega
  have h4 : x ≤ 65535 := by omega
  have hP := rf_layH34 A n q f x w w (Since.refl _) hx h (by omega) hn
  clear h h2
  go_enter Tryz.func52, Tryz.ntmps52
  go_wp2_with (go_at_call 96; (with_reducible refine hP.mono ?_); rintro e w1 ⟨A', c', rfl, hc', hN, hS, _⟩)
  go_ret2
  exact pc_good E.out hc' hN hS

end Go.Proofs.YteckkcpnfeoehaaGreatDoor

/-
  Layer 5: 'PutMaxp', walked, program and reference.
-/
namespace Go.Proofs.YteckkcpnfeoehaaGreatDoor
set_option maxRecDepth 100000
open Go.RowKit
set_option linter.unusedVariables false

def seven (a b c d e g i : Int) (j : Nat) : Int := if j = 0 then a else if j = 1 then b else if j = 2 then c else if j = 3 then d else if j = 4 then e else if j = 5 then g else i
def mpP (j : Nat) : Nat := if j = 0 then 4 else if j = 1 then 6 else if j = 2 then 8 else if j = 3 then 10 else if j = 4 then 12 else if j = 5 then 28 else 30
def mpF (f v : Nat → Int) : Nat → Nat → Int
  | 0 => f
  | k + 1 => lay2 (mpF f v k) (mpP k) (v k)
def wordB (x : Int) : Bool := decide (0 ≤ x) && decide (x ≤ 65535)
def allW (v : Nat → Int) : Nat → Bool
  | 0 => true
  | k + 1 => allW v k && wordB (v k)
theorem allW_no {v : Nat → Int} {j : Nat} (h : wordB (v j) = false) : ∀ {k : Nat}, j < k → allW v k = false
  | k + 1, hj => by
    unfold allW
    rcases Nat.lt_or_ge j k with h' | h'
    · rw [allW_no h h']; rfl
    · obtain rfl : j = k := by omega
      rw [h]; simp
theorem allW_next {v : Nat → Int} {k : Nat} (h : allW v k = true) (h' : 0 ≤ v k ∧ v k ≤ 65535) : allW v (k + 1) = true := by
  unfold allW wordB; rw [h, decide_eq_true h'.1, decide_eq_true h'.2]; rfl
theorem word_no {x : Int} (h : x < 0 ∨ 65535 < x) : wordB x = false := by
  unfold wordB
  rcases h with h | h
  · rw [decide_eq_false (by omega), Bool.false_and]
  · rw [decide_eq_false (p := x ≤ 65535) (by omega), Bool.and_false]
def mpE (n : Nat) (v : Nat → Int) : Int := if n < 32 then 3 else if allW v 7 then 0 else 6
def mpN (n : Nat) (v : Nat → Int) : Nat := if mpE n v = 0 then n else 0
def MpPost (f : Nat → Int) (n : Nat) (v : Nat → Int) (w : World) (e : Ending) (w' : World) : Prop := ∃ A' c', e = .returned (.tuple #[.slice A' (mpN n v) c', .int .i64 (mpE n v)]) ∧ mpN n v ≤ c' ∧ Nw w' w.heap.size A' (mpN n v) (U8 (mpF f v 7)) ∧ Since w w'
theorem mp_bad {f v : Nat → Int} {n : Nat} {E : Int} {w w' : World} (hE : mpE n v = E) (h0 : E ≠ 0) (hS : Since w w') : MpPost f n v w (.returned (.tuple #[.slice none 0 0, .int .i64 E])) w' := by
  subst hE
  have e : mpN n v = 0 := by unfold mpN; rw [if_neg h0]
  unfold MpPost
  rw [e]
  exact ⟨none, 0, rfl, Nat.le_refl _, Nw.zero, hS⟩
theorem mp_good {f v : Nat → Int} {n c' : Nat} {A' : Option Addr} {w w' : World} (hE : mpE n v = 0) (hc : n ≤ c') (hN : Nw w' w.heap.size A' n (U8 (mpF f v 7))) (hS : Since w w') : MpPost f n v w (.returned (.tuple #[.slice A' n c', .int .i64 0])) w' := by
  have e : mpN n v = n := by unfold mpN; rw [if_pos hE]
  unfold MpPost
  rw [e, hE]
  exact ⟨A', c', rfl, hc, hN, hS⟩
theorem sbox_at (w : World) (b : Nat) (hb : b = w.heap.size) (v0 v1 v2 v3 v4 v5 v6 : Value) (t : TypeId) (j : Nat) (v : Value) (h : #[v0, v1, v2, v3, v4, v5, v6][j]? = some v) : (w.alloc (.cells #[v0, v1, v2, v3, v4, v5, v6] t)).cell? ⟨b, j, none⟩ = some v := by subst hb; rw [World.cell?_alloc_new]; exact h
set_option maxRecDepth 100000 in
set_option maxHeartbeats 8000000 in
theorem hd_putmaxp (A : Option Addr) (n q : Nat) (f : Nat → Int) (a b c d e g i : Int) (w : World) (hT : Tabs w) (h : Rd w w.heap.size A n (U8 f)) (ha : In64 a) (hb : In64 b) (hc : In64 c) (hd : In64 d) (he : In64 e) (hg : In64 g) (hi : In64 i) (hn : n ≤ 140737488355328) :
    Calls Tryz.prog 46 #[.slice A n q, .agg #[.int .i64 a, .int .i64 b, .int .i64 c, .int .i64 d, .int .i64 e, .int .i64 g, .int .i64 i]] w (MpPost f n (seven a b c d e g i) w) := by
  have hn' : (n : Int) ≤ 140737488355328 := by omega
  by_cases h1 : n < 32
  · have E := Lib.hid (show mpE n (seven a b c d e g i) = 3 by unfold mpE; rw [if_pos h1])
    have h1' : (n : Int) < 32 := by omega
    clear h
    go_enter Tryz.func46, Tryz.ntmps46
    go_wp2
    go_ret2
    exact mp_bad E.out (by decide) (by (repeat (first | with_reducible (exact Since.refl _) | with_reducible assumption | with_reducible (refine Since.drew ?_) | with_reducible (refine Since.drewN ?_ _) | with_reducible (refine Since.alloc ?_ _) | (with_reducible (refine Since.setCell ?_ ?_ _); rotate_left; focus (first | (simp; done) | (simp; omega) | omega)) | (with_reducible (refine Since.trans ?_ (by with_reducible assumption))))))
  have h1' : (32 : Int) ≤ n := by omega
  have hE : mpE n (seven a b c d e g i) = if allW (seven a b c d e g i) 7 then 0 else 6 := by unfold mpE; rw [if_neg h1]
  obtain ⟨t0, ta, t1, t2, t3, t4, t5, t6, t7⟩ := hT
  have t8 : 1 < w.heap.size := by omega
  have t9 : 0 < w.heap.size := by omega
  clear ta
  have m0 := mx0; have m1 := mx1; have m2 := mx2; have m3 := mx3; have m4 := mx4; have m5 := mx5; have m6 := mx6
  have HE := Lib.hid hE; have HH := Lib.hid h
  clear hE h
  go_enter Tryz.func46, Tryz.ntmps46
  go_wp2
  refine wp_named fun W1 hW1 => ?_
  have hS1 : Since w W1 := by subst hW1; (repeat (first | with_reducible (exact Since.refl _) | with_reducible assumption | with_reducible (refine Since.drew ?_) | with_reducible (refine Since.drewN ?_ _) | with_reducible (refine Since.alloc ?_ _) | (with_reducible (refine Since.setCell ?_ ?_ _); rotate_left; focus (first | (simp; done) | (simp; omega) | omega)) | (with_reducible (refine Since.trans ?_ (by with_reducible assumption)))))
  have hlt : w.heap.size + 1 < W1.heap.size := by subst hW1; simp
  have a0 : W1.cell? ⟨w.heap.size + 1, 0, none⟩ = some (.int .i64 a) := by subst hW1; exact sbox_at _ _ (by simp) _ _ _ _ _ _ _ _ 0 _ rfl
  have a1 : W1.cell? ⟨w.heap.size + 1, 1, none⟩ = some (.int .i64 b) := by subst hW1; exact sbox_at _ _ (by simp) _ _ _ _ _ _ _ _ 1 _ rfl
  have a2 : W1.cell? ⟨w.heap.size + 1, 2, none⟩ = some (.int .i64 c) := by subst hW1; exact sbox_at _ _ (by simp) _ _ _ _ _ _ _ _ 2 _ rfl
  have a3 : W1.cell? ⟨w.heap.size + 1, 3, none⟩ = some (.int .i64 d) := by subst hW1; exact sbox_at _ _ (by simp) _ _ _ _ _ _ _ _ 3 _ rfl
  have a4 : W1.cell? ⟨w.heap.size + 1, 4, none⟩ = some (.int .i64 e) := by subst hW1; exact sbox_at _ _ (by simp) _ _ _ _ _ _ _ _ 4 _ rfl
  have a5 : W1.cell? ⟨w.heap.size + 1, 5, none⟩ = some (.int .i64 g) := by subst hW1; exact sbox_at _ _ (by simp) _ _ _ _ _ _ _ _ 5 _ rfl
  have a6 : W1.cell? ⟨w.heap.size + 1, 6, none⟩ = some (.int .i64 i) := by subst hW1; exact sbox_at _ _ (by simp) _ _ _ _ _ _ _ _ 6 _ rfl
  clear hW1
  go_loopw [7, 30] (fun v y wr => ∃ (k : Nat) (z : Int) (A' : Option Addr) (c' : Nat), k ≤ 7 ∧ z = k ∧ y = .int .i64 z ∧ v = .slice A' n c' ∧ Since W1 wr ∧ Rd wr wr.heap.size A' n (U8 (mpF f (seven a b c d e g i) k)) ∧ (0 < k → n ≤ c' ∧ Nw wr w.heap.size A' n (U8 (mpF f (seven a b c d e g i) k))) ∧ allW (seven a b c d e g i) k = true) (fun _ y _ => (7 - intOf y).toNat)
  case atStart => exact ⟨0, 0, A, q, by omega, rfl, rfl, rfl, Since.refl _, HH.out.on hS1, fun h => absurd h (by decide), rfl⟩
  case round =>
    obtain ⟨k, z, A', c', hk, hz, rfl, rfl, hSr, hR, hN, hall⟩ := hrel
    have HR := Lib.hid hR; have HN := Lib.hid hN; have HA := Lib.hid hall
    clear hR hN hall
    have hTr := hS1.trans hSr
    have hcase : k = 0 ∨ k = 1 ∨ k = 2 ∨ k = 3 ∨ k = 4 ∨ k = 5 ∨ k = 6 ∨ k = 7 := by omega
    rcases hcase with rfl | rfl | rfl | rfl | rfl | rfl | rfl | rfl
    · obtain rfl : z = 0 := by omega
      clear hz hk
      have c0 := (hSr.1 _ 0 hlt).trans a0
      by_cases hbd : a < 0 ∨ 65535 < a
      · have E2 := Lib.hid (show mpE n (seven a b c d e g i) = 6 by rw [HE.out, allW_no (j := 0) (word_no hbd) (by omega)]; rfl)
        rcases hbd with hbd | hbd
        · go_wp2
          go_ret2
          exact mp_bad E2.out (by decide) hTr
        · have hb' : 0 ≤ a := by omega
          go_wp2
          go_ret2
          exact mp_bad E2.out (by decide) hTr
      · have hb1 : 0 ≤ a := by omega
        have hb2 : a ≤ 65535 := by omega
        have hP := hd_put4 A' n c' _ a wr w hTr ha HR.out (by omega) hn
        have HP := Lib.hid hP
        clear hbd hP
        go_wp2_with (go_at_call 90; (with_reducible refine HP.out.mono ?_); rintro e w2 ⟨A2, c2, rfl, hc2, hN2, hT2, hS2⟩)
        exact ⟨⟨1, 1, A2, c2, by omega, by simp, by simp, rfl, hSr.trans hS2, hN2.rd, fun _ => ⟨hc2, hN2⟩, allW_next HA.out ⟨hb1, hb2⟩⟩, by simp [intOf]⟩
    · obtain rfl : z = 1 := by omega
      clear hz hk
      have c0 := (hSr.1 _ 1 hlt).trans a1
      by_cases hbd : b < 0 ∨ 65535 < b
      · have E2 := Lib.hid (show mpE n (seven a b c d e g i) = 6 by rw [HE.out, allW_no (j := 1) (word_no hbd) (by omega)]; rfl)
        rcases hbd with hbd | hbd
        · go_wp2
          go_ret2
          exact mp_bad E2.out (by decide) hTr
        · have hb' : 0 ≤ b := by omega
          go_wp2
          go_ret2
          exact mp_bad E2.out (by decide) hTr
      · have hb1 : 0 ≤ b := by omega
        have hb2 : b ≤ 65535 := by omega
        have hP := hd_put6 A' n c' _ b wr w hTr hb HR.out (by omega) hn
        have HP := Lib.hid hP
        clear hbd hP
        go_wp2_with (go_at_call 90; (with_reducible refine HP.out.mono ?_); rintro e w2 ⟨A2, c2, rfl, hc2, hN2, hT2, hS2⟩)
        exact ⟨⟨2, 2, A2, c2, by omega, by simp, by simp, rfl, hSr.trans hS2, hN2.rd, fun _ => ⟨hc2, hN2⟩, allW_next HA.out ⟨hb1, hb2⟩⟩, by simp [intOf]⟩
    · obtain rfl : z = 2 := by omega
      clear hz hk
      have c0 := (hSr.1 _ 2 hlt).trans a2
      by_cases hbd : c < 0 ∨ 65535 < c
      · have E2 := Lib.hid (show mpE n (seven a b c d e g i) = 6 by rw [HE.out, allW_no (j := 2) (word_no hbd) (by omega)]; rfl)
        rcases hbd with hbd | hbd
        · go_wp2
          go_ret2
          exact mp_bad E2.out (by decide) hTr
        · have hb' : 0 ≤ c := by omega
          go_wp2
          go_ret2
          exact mp_bad E2.out (by decide) hTr
      · have hb1 : 0 ≤ c := by omega
        have hb2 : c ≤ 65535 := by omega
        have hP := hd_put8 A' n c' _ c wr w hTr hc HR.out (by omega) hn
        have HP := Lib.hid hP
        clear hbd hP
        go_wp2_with (go_at_call 90; (with_reducible refine HP.out.mono ?_); rintro e w2 ⟨A2, c2, rfl, hc2, hN2, hT2, hS2⟩)
        exact ⟨⟨3, 3, A2, c2, by omega, by simp, by simp, rfl, hSr.trans hS2, hN2.rd, fun _ => ⟨hc2, hN2⟩, allW_next HA.out ⟨hb1, hb2⟩⟩, by simp [intOf]⟩
    · obtain rfl : z = 3 := by omega
      clear hz hk
      have c0 := (hSr.1 _ 3 hlt).trans a3
      by_cases hbd : d < 0 ∨ 65535 < d
      · have E2 := Lib.hid (show mpE n (seven a b c d e g i) = 6 by rw [HE.out, allW_no (j := 3) (word_no hbd) (by omega)]; rfl)
        rcases hbd with hbd | hbd
        · go_wp2
          go_ret2
          exact mp_bad E2.out (by decide) hTr
        · have hb' : 0 ≤ d := by omega
          go_wp2
          go_ret2
          exact mp_bad E2.out (by decide) hTr
      · have hb1 : 0 ≤ d := by omega
        have hb2 : d ≤ 65535 := by omega
        have hP := hd_put10 A' n c' _ d wr w hTr hd HR.out (by omega) hn
        have HP := Lib.hid hP
        clear hbd hP
        go_wp2_with (go_at_call 90; (with_reducible refine HP.out.mono ?_); rintro e w2 ⟨A2, c2, rfl, hc2, hN2, hT2, hS2⟩)
        exact ⟨⟨4, 4, A2, c2, by omega, by simp, by simp, rfl, hSr.trans hS2, hN2.rd, fun _ => ⟨hc2, hN2⟩, allW_next HA.out ⟨hb1, hb2⟩⟩, by simp [intOf]⟩
    · obtain rfl : z = 4 := by omega
      clear hz hk
      have c0 := (hSr.1 _ 4 hlt).trans a4
      by_cases hbd : e < 0 ∨ 65535 < e
      · have E2 := Lib.hid (show mpE n (seven a b c d e g i) = 6 by rw [HE.out, allW_no (j := 4) (word_no hbd) (by omega)]; rfl)
        rcases hbd with hbd | hbd
        · go_wp2
          go_ret2
          exact mp_bad E2.out (by decide) hTr
        · have hb' : 0 ≤ e := by omega
          go_wp2
          go_ret2
          exact mp_bad E2.out (by decide) hTr
      · have hb1 : 0 ≤ e := by omega
        have hb2 : e ≤ 65535 := by omega
        have hP := hd_put12 A' n c' _ e wr w hTr he HR.out (by omega) hn
        have HP := Lib.hid hP
        clear hbd hP
        go_wp2_with (go_at_call 90; (with_reducible refine HP.out.mono ?_); rintro e w2 ⟨A2, c2, rfl, hc2, hN2, hT2, hS2⟩)
        exact ⟨⟨5, 5, A2, c2, by omega, by simp, by simp, rfl, hSr.trans hS2, hN2.rd, fun _ => ⟨hc2, hN2⟩, allW_next HA.out ⟨hb1, hb2⟩⟩, by simp [intOf]⟩
    · obtain rfl : z = 5 := by omega
      clear hz hk
      have c0 := (hSr.1 _ 5 hlt).trans a5
      by_cases hbd : g < 0 ∨ 65535 < g
      · have E2 := Lib.hid (show mpE n (seven a b c d e g i) = 6 by rw [HE.out, allW_no (j := 5) (word_no hbd) (by omega)]; rfl)
        rcases hbd with hbd | hbd
        · go_wp2
          go_ret2
          exact mp_bad E2.out (by decide) hTr
        · have hb' : 0 ≤ g := by omega
          go_wp2
          go_ret2
          exact mp_bad E2.out (by decide) hTr
      · have hb1 : 0 ≤ g := by omega
        have hb2 : g ≤ 65535 := by omega
        have hP := hd_put28 A' n c' _ g wr w hTr hg HR.out (by omega) hn
        have HP := Lib.hid hP
        clear hbd hP
        go_wp2_with (go_at_call 90; (with_reducible refine HP.out.mono ?_); rintro e w2 ⟨A2, c2, rfl, hc2, hN2, hT2, hS2⟩)
        exact ⟨⟨6, 6, A2, c2, by omega, by simp, by simp, rfl, hSr.trans hS2, hN2.rd, fun _ => ⟨hc2, hN2⟩, allW_next HA.out ⟨hb1, hb2⟩⟩, by simp [intOf]⟩
    · obtain rfl : z = 6 := by omega
      clear hz hk
      have c0 := (hSr.1 _ 6 hlt).trans a6
      by_cases hbd : i < 0 ∨ 65535 < i
      · have E2 := Lib.hid (show mpE n (seven a b c d e g i) = 6 by rw [HE.out, allW_no (j := 6) (word_no hbd) (by omega)]; rfl)
        rcases hbd with hbd | hbd
        · go_wp2
          go_ret2
          exact mp_bad E2.out (by decide) hTr
        · have hb' : 0 ≤ i := by omega
          go_wp2
          go_ret2
          exact mp_bad E2.out (by decide) hTr
      · have hb1 : 0 ≤ i := by omega
        have hb2 : i ≤ 65535 := by omega
        have hP := hd_put30 A' n c' _ i wr w hTr hi HR.out (by omega) hn
        have HP := Lib.hid hP
        clear hbd hP
        go_wp2_with (go_at_call 90; (with_reducible refine HP.out.mono ?_); rintro e w2 ⟨A2, c2, rfl, hc2, hN2, hT2, hS2⟩)
        exact ⟨⟨7, 7, A2, c2, by omega, by simp, by simp, rfl, hSr.trans hS2, hN2.rd, fun _ => ⟨hc2, hN2⟩, allW_next HA.out ⟨hb1, hb2⟩⟩, by simp [intOf]⟩
    · obtain rfl : z = 7 := by omega
      clear hz hk
      have E2 := Lib.hid (show mpE n (seven a b c d e g i) = 0 by rw [HE.out, HA.out]; rfl)
      go_wp2
      go_ret2
      exact mp_good E2.out (HN.out (by decide)).1 (HN.out (by decide)).2 hTr
end Go.Proofs.YteckkcpnfeoehaaGreatDoor
