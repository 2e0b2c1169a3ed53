/-
  Texts of this seat, put together: each with its own head.
-/
import Derived.Test.YteckkcpnfeoehaaGreatDoorMnAd
import Derived.LoopN

/-
  Layer 5: the tables of places; 'Head', walked, program and reference.
-/
namespace Go.Proofs.YteckkcpnfeoehaaGreatDoor
set_option maxRecDepth 100000
open Go.RowKit
set_option linter.unusedVariables false

/-- The first table of the package. -/
def TabB (w : World) : Prop := 1 ≤ w.heap.size ∧ w.cell? ⟨0, 0, none⟩ = some (.int .i64 36) ∧ w.cell? ⟨0, 1, none⟩ = some (.int .i64 38) ∧ w.cell? ⟨0, 2, none⟩ = some (.int .i64 40) ∧ w.cell? ⟨0, 3, none⟩ = some (.int .i64 42)
theorem TabB.since {w w' : World} (h : TabB w) (k : Since w w') : TabB w' := by
  obtain ⟨h0, a0, a1, a2, a3⟩ := h
  have hs := k.below.size
  exact ⟨by omega, (k.1 _ _ (by omega)).trans a0, (k.1 _ _ (by omega)).trans a1, (k.1 _ _ (by omega)).trans a2, (k.1 _ _ (by omega)).trans a3⟩
/-- The two tables of the package. -/
def Tabs (w : World) : Prop := 2 ≤ w.heap.size ∧ (w.cell? ⟨0, 0, none⟩ = some (.int .i64 36) ∧ w.cell? ⟨0, 1, none⟩ = some (.int .i64 38) ∧ w.cell? ⟨0, 2, none⟩ = some (.int .i64 40) ∧ w.cell? ⟨0, 3, none⟩ = some (.int .i64 42)) ∧
  (w.cell? ⟨1, 0, none⟩ = some (.int .i64 4) ∧ w.cell? ⟨1, 1, none⟩ = some (.int .i64 6) ∧ w.cell? ⟨1, 2, none⟩ = some (.int .i64 8) ∧ w.cell? ⟨1, 3, none⟩ = some (.int .i64 10) ∧ w.cell? ⟨1, 4, none⟩ = some (.int .i64 12) ∧ w.cell? ⟨1, 5, none⟩ = some (.int .i64 28) ∧ w.cell? ⟨1, 6, none⟩ = some (.int .i64 30))
theorem Tabs.since {w w' : World} (h : Tabs w) (k : Since w w') : Tabs w' := by
  obtain ⟨h0, ⟨a0, a1, a2, a3⟩, b0, b1, b2, b3, b4, b5, b6⟩ := h
  have hs := k.below.size
  exact ⟨by omega, ⟨(k.1 _ _ (by omega)).trans a0, (k.1 _ _ (by omega)).trans a1, (k.1 _ _ (by omega)).trans a2, (k.1 _ _ (by omega)).trans a3⟩, (k.1 _ _ (by omega)).trans b0, (k.1 _ _ (by omega)).trans b1, (k.1 _ _ (by omega)).trans b2, (k.1 _ _ (by omega)).trans b3, (k.1 _ _ (by omega)).trans b4, (k.1 _ _ (by omega)).trans b5, (k.1 _ _ (by omega)).trans b6⟩

theorem Tabs.b {w : World} (h : Tabs w) : TabB w := ⟨by have := h.1; omega, h.2.1⟩

def hdE (f : Nat → Int) (n : Nat) : Int := if n < 54 then 3 else if numAt f 12 4 ≠ 1594834165 ∨ numAt f 18 2 < 16 ∨ 16384 < numAt f 18 2 ∨ 1 < numAt f 50 2 then 4 else 0
def hdM (f : Nat → Int) (n : Nat) : Int := if hdE f n = 0 then numAt f 18 2 else 0
def hdS (f : Nat → Int) (n p : Nat) : Int := if hdE f n = 0 then sgn 2 (numAt f p 2) else 0
def hdLg (f : Nat → Int) (n : Nat) : Bool := decide (hdE f n = 0) && (numAt f 50 2 == 1)
def HdV (a b c d e : Int) (l : Bool) : Value := .agg #[.int .i64 a, .int .i64 b, .int .i64 c, .int .i64 d, .int .i64 e, .bool l]
def HdPost (f : Nat → Int) (n : Nat) (w : World) (e : Ending) (w' : World) : Prop := e = .returned (.tuple #[HdV (hdM f n) (hdS f n 36) (hdS f n 38) (hdS f n 40) (hdS f n 42) (hdLg f n), .int .i64 (hdE f n)]) ∧ Since w w'
theorem hd_bad {f : Nat → Int} {n : Nat} {E : Int} {w w' : World} (hE : hdE f n = E) (h0 : E ≠ 0) (hS : Since w w') : HdPost f n w (.returned (.tuple #[HdV 0 0 0 0 0 false, .int .i64 E])) w' := by
  subst hE
  unfold HdPost hdM hdS hdLg
  rw [if_neg h0, if_neg h0, if_neg h0, if_neg h0, if_neg h0, decide_eq_false h0, Bool.false_and]
  exact ⟨rfl, hS⟩
theorem hd_good {f : Nat → Int} {n : Nat} {a b c d e : Int} {l : Bool} {w w' : World} (hE : hdE f n = 0) (ha : numAt f 18 2 = a) (hb : sgn 2 (numAt f 36 2) = b) (hc : sgn 2 (numAt f 38 2) = c) (hd : sgn 2 (numAt f 40 2) = d) (he : sgn 2 (numAt f 42 2) = e) (hl : (numAt f 50 2 == 1) = l) (hS : Since w w') :
    HdPost f n w (.returned (.tuple #[HdV a b c d e l, .int .i64 0])) w' := by
  subst ha hb hc hd he hl
  unfold HdPost hdM hdS hdLg
  rw [if_pos hE, if_pos hE, if_pos hE, if_pos hE, if_pos hE, hE]
  exact ⟨by simp, hS⟩

theorem bx0 (a b c d : Value) (w : World) : (Instr.index 120 (.agg #[a, b, c, d]) (.int .i64 0)).run Tryz.prog w = .ok a w := by rfl
theorem bx1 (a b c d : Value) (w : World) : (Instr.index 120 (.agg #[a, b, c, d]) (.int .i64 1)).run Tryz.prog w = .ok b w := by rfl
theorem bx2 (a b c d : Value) (w : World) : (Instr.index 120 (.agg #[a, b, c, d]) (.int .i64 2)).run Tryz.prog w = .ok c w := by rfl
theorem bx3 (a b c d : Value) (w : World) : (Instr.index 120 (.agg #[a, b, c, d]) (.int .i64 3)).run Tryz.prog w = .ok d w := by rfl
theorem mx0 (a b c d e f g : Value) (w : World) : (Instr.index 121 (.agg #[a, b, c, d, e, f, g]) (.int .i64 0)).run Tryz.prog w = .ok a w := by rfl
theorem mx1 (a b c d e f g : Value) (w : World) : (Instr.index 121 (.agg #[a, b, c, d, e, f, g]) (.int .i64 1)).run Tryz.prog w = .ok b w := by rfl
theorem mx2 (a b c d e f g : Value) (w : World) : (Instr.index 121 (.agg #[a, b, c, d, e, f, g]) (.int .i64 2)).run Tryz.prog w = .ok c w := by rfl
theorem mx3 (a b c d e f g : Value) (w : World) : (Instr.index 121 (.agg #[a, b, c, d, e, f, g]) (.int .i64 3)).run Tryz.prog w = .ok d w := by rfl
theorem mx4 (a b c d e f g : Value) (w : World) : (Instr.index 121 (.agg #[a, b, c, d, e, f, g]) (.int .i64 4)).run Tryz.prog w = .ok e w := by rfl
theorem mx5 (a b c d e f g : Value) (w : World) : (Instr.index 121 (.agg #[a, b, c, d, e, f, g]) (.int .i64 5)).run Tryz.prog w = .ok f w := by rfl
theorem mx6 (a b c d e f g : Value) (w : World) : (Instr.index 121 (.agg #[a, b, c, d, e, f, g]) (.int .i64 6)).run Tryz.prog w = .ok g w := by rfl
set_option maxRecDepth 100000 in
set_option maxHeartbeats 8000000 in
theorem hd_head (A : Option Addr) (n c : Nat) (f : Nat → Int) (w : World) (hT : TabB w) (h : Rd w w.heap.size A n (U8 f)) (hf : ∀ j, j < n → 0 ≤ f j ∧ f j ≤ 255) (hn : n ≤ 140737488355328) :
    Calls Tryz.prog 99 #[.slice A n c] w (HdPost f n w) := by
  have hn' : (n : Int) ≤ 140737488355328 := by omega
  by_cases h1 : n < 54
  · have E := Lib.hid (show hdE f n = 3 by unfold hdE; rw [if_pos h1])
    have h1' : (n : Int) < 54 := by omega
    clear h
    go_enter Tryz.func99, Tryz.ntmps99
    go_wp2
    refine bodyPost_ret (v := .tuple #[.agg #[.int .i64 0, .int .i64 0, .int .i64 0, .int .i64 0, .int .i64 0, .bool false], .int .i64 3]) (by simp only [results, Tryz.results99]; go_simp) rfl ?_
    exact hd_bad E.out (by decide) (by (repeat (first | with_reducible (exact Since.refl _) | with_reducible assumption | with_reducible (refine Since.drew ?_) | with_reducible (refine Since.drewN ?_ _) | with_reducible (refine Since.alloc ?_ _) | (with_reducible (refine Since.setCell ?_ ?_ _); rotate_left; focus (first | (simp; done) | (simp; omega) | omega)) | (with_reducible (refine Since.trans ?_ (by with_reducible assumption))))))
  have h1' : (54 : Int) ≤ n := by omega
  have hU : ∀ (p m : Nat), p + m ≤ 54 → 1 ≤ m ∧ m ≤ 4 → ∀ w1, Since w w1 → ∀ (x y : Int), x = p → y = m → Calls Tryz.prog 97 #[.slice A n c, .int .i64 x, .int .i64 y] w1 fun e w' => e = .returned (.tuple #[.int .i64 (numAt f p m), .int .i64 0]) ∧ w' = w1 := fun p m hp hm w1 hS x y hx hy => u_in A n c f p m x y w1 (h.on hS) hf hx hy hm (by omega) hn
  have hSg : ∀ (p : Nat), p + 2 ≤ 54 → ∀ w1, Since w w1 → ∀ (x : Int), x = p → Calls Tryz.prog 103 #[.slice A n c, .int .i64 x, .int .i64 2] w1 fun e w' => e = .returned (.tuple #[.int .i64 (sgn 2 (numAt f p 2)), .int .i64 0]) ∧ w' = w1 := fun p hp w1 hS x hx => s_in A n c f p 2 x 2 w1 (h.on hS) hf hx rfl (by omega) (by omega) hn
  have u12 : ∀ w1, Since w w1 → Calls Tryz.prog 97 #[.slice A n c, .int .i64 12, .int .i64 4] w1 fun e w' => e = .returned (.tuple #[.int .i64 (numAt f 12 4), .int .i64 0]) ∧ w' = w1 := fun w1 hS => hU 12 4 (by omega) (by omega) w1 hS 12 4 rfl rfl
  have u18 : ∀ w1, Since w w1 → Calls Tryz.prog 97 #[.slice A n c, .int .i64 18, .int .i64 2] w1 fun e w' => e = .returned (.tuple #[.int .i64 (numAt f 18 2), .int .i64 0]) ∧ w' = w1 := fun w1 hS => hU 18 2 (by omega) (by omega) w1 hS 18 2 rfl rfl
  have u50 : ∀ w1, Since w w1 → Calls Tryz.prog 97 #[.slice A n c, .int .i64 50, .int .i64 2] w1 fun e w' => e = .returned (.tuple #[.int .i64 (numAt f 50 2), .int .i64 0]) ∧ w' = w1 := fun w1 hS => hU 50 2 (by omega) (by omega) w1 hS 50 2 rfl rfl
  have s36 : ∀ w1, Since w w1 → Calls Tryz.prog 103 #[.slice A n c, .int .i64 36, .int .i64 2] w1 fun e w' => e = .returned (.tuple #[.int .i64 (sgn 2 (numAt f 36 2)), .int .i64 0]) ∧ w' = w1 := fun w1 hS => hSg 36 (by omega) w1 hS 36 rfl
  have s38 : ∀ w1, Since w w1 → Calls Tryz.prog 103 #[.slice A n c, .int .i64 38, .int .i64 2] w1 fun e w' => e = .returned (.tuple #[.int .i64 (sgn 2 (numAt f 38 2)), .int .i64 0]) ∧ w' = w1 := fun w1 hS => hSg 38 (by omega) w1 hS 38 rfl
  have s40 : ∀ w1, Since w w1 → Calls Tryz.prog 103 #[.slice A n c, .int .i64 40, .int .i64 2] w1 fun e w' => e = .returned (.tuple #[.int .i64 (sgn 2 (numAt f 40 2)), .int .i64 0]) ∧ w' = w1 := fun w1 hS => hSg 40 (by omega) w1 hS 40 rfl
  have s42 : ∀ w1, Since w w1 → Calls Tryz.prog 103 #[.slice A n c, .int .i64 42, .int .i64 2] w1 fun e w' => e = .returned (.tuple #[.int .i64 (sgn 2 (numAt f 42 2)), .int .i64 0]) ∧ w' = w1 := fun w1 hS => hSg 42 (by omega) w1 hS 42 rfl
  have r18 := numAt_small (f := f) (p := 18) (j := 2) (by omega) (fun i hi => hf i (by omega))
  have r50 := numAt_small (f := f) (p := 50) (j := 2) (by omega) (fun i hi => hf i (by omega))
  have hE : hdE f n = if numAt f 12 4 ≠ 1594834165 ∨ numAt f 18 2 < 16 ∨ 16384 < numAt f 18 2 ∨ 1 < numAt f 50 2 then 4 else 0 := by unfold hdE; rw [if_neg h1]
  have HG : ∀ (w' : World), Since w w' → hdE f n = 0 → HdPost f n w (.returned (.tuple #[HdV (numAt f 18 2) (sgn 2 (numAt f 36 2)) (sgn 2 (numAt f 38 2)) (sgn 2 (numAt f 40 2)) (sgn 2 (numAt f 42 2)) (numAt f 50 2 == 1), .int .i64 0])) w' := fun w' hS h0 => hd_good h0 rfl rfl rfl rfl rfl rfl hS
  clear h hU hSg
  generalize numAt f 12 4 = x12 at *
  generalize numAt f 18 2 = x18 at *
  generalize numAt f 50 2 = x50 at *
  generalize sgn 2 (numAt f 36 2) = y36 at *
  generalize sgn 2 (numAt f 38 2) = y38 at *
  generalize sgn 2 (numAt f 40 2) = y40 at *
  generalize sgn 2 (numAt f 42 2) = y42 at *
  have U12 := Lib.hid u12; have U18 := Lib.hid u18; have U50 := Lib.hid u50
  have S36 := Lib.hid s36; have S38 := Lib.hid s38; have S40 := Lib.hid s40; have S42 := Lib.hid s42
  clear u12 u18 u50 s36 s38 s40 s42
  by_cases hbad : x12 ≠ 1594834165 ∨ x18 < 16 ∨ 16384 < x18 ∨ 1 < x50
  · have E := Lib.hid (show hdE f n = 4 by rw [hE, if_pos hbad])
    have hb : x12 ≠ 1594834165 ∨ (x12 = 1594834165 ∧ x18 < 16) ∨ (x12 = 1594834165 ∧ 16 ≤ x18 ∧ 16384 < x18) ∨ (x12 = 1594834165 ∧ 16 ≤ x18 ∧ x18 ≤ 16384 ∧ 1 < x50) := by omega
    clear hbad hE HG
    rcases hb with h0 | ⟨rfl, h2⟩ | ⟨rfl, h2, h3⟩ | ⟨rfl, h2, h3, h4⟩
    · have d0 : (x12 != 1594834165) = true := by simpa using h0
      go_enter Tryz.func99, Tryz.ntmps99
      go_wp2_with (go_at_call 97; (first | (with_reducible refine Calls.mono (U12.out _ ?_) ?_) | (with_reducible refine Calls.mono (U18.out _ ?_) ?_) | (with_reducible refine Calls.mono (U50.out _ ?_) ?_)); (focus (repeat (first | with_reducible (exact Since.refl _) | with_reducible assumption | with_reducible (refine Since.drew ?_) | with_reducible (refine Since.drewN ?_ _) | with_reducible (refine Since.alloc ?_ _) | (with_reducible (refine Since.setCell ?_ ?_ _); rotate_left; focus (first | (simp; done) | (simp; omega) | omega)) | (with_reducible (refine Since.trans ?_ (by with_reducible assumption)))))); rintro e w1 ⟨rfl, rfl⟩)
      refine bodyPost_ret (v := .tuple #[.agg #[.int .i64 0, .int .i64 0, .int .i64 0, .int .i64 0, .int .i64 0, .bool false], .int .i64 4]) (by simp only [results, Tryz.results99]; go_simp) rfl ?_
      exact hd_bad E.out (by decide) (by (repeat (first | with_reducible (exact Since.refl _) | with_reducible assumption | with_reducible (refine Since.drew ?_) | with_reducible (refine Since.drewN ?_ _) | with_reducible (refine Since.alloc ?_ _) | (with_reducible (refine Since.setCell ?_ ?_ _); rotate_left; focus (first | (simp; done) | (simp; omega) | omega)) | (with_reducible (refine Since.trans ?_ (by with_reducible assumption))))))
    all_goals
      go_enter Tryz.func99, Tryz.ntmps99
      go_wp2_with (go_at_call 97; (first | (with_reducible refine Calls.mono (U12.out _ ?_) ?_) | (with_reducible refine Calls.mono (U18.out _ ?_) ?_) | (with_reducible refine Calls.mono (U50.out _ ?_) ?_)); (focus (repeat (first | with_reducible (exact Since.refl _) | with_reducible assumption | with_reducible (refine Since.drew ?_) | with_reducible (refine Since.drewN ?_ _) | with_reducible (refine Since.alloc ?_ _) | (with_reducible (refine Since.setCell ?_ ?_ _); rotate_left; focus (first | (simp; done) | (simp; omega) | omega)) | (with_reducible (refine Since.trans ?_ (by with_reducible assumption)))))); rintro e w1 ⟨rfl, rfl⟩)
      refine bodyPost_ret (v := .tuple #[.agg #[.int .i64 0, .int .i64 0, .int .i64 0, .int .i64 0, .int .i64 0, .bool false], .int .i64 4]) (by simp only [results, Tryz.results99]; go_simp) rfl ?_
      exact hd_bad E.out (by decide) (by (repeat (first | with_reducible (exact Since.refl _) | with_reducible assumption | with_reducible (refine Since.drew ?_) | with_reducible (refine Since.drewN ?_ _) | with_reducible (refine Since.alloc ?_ _) | (with_reducible (refine Since.setCell ?_ ?_ _); rotate_left; focus (first | (simp; done) | (simp; omega) | omega)) | (with_reducible (refine Since.trans ?_ (by with_reducible assumption))))))
  · have G := Lib.hid (fun w' (hS : Since w w') => HG w' hS (by rw [hE, if_neg hbad]))
    obtain ⟨rfl, h2, h3, h4⟩ : x12 = 1594834165 ∧ 16 ≤ x18 ∧ x18 ≤ 16384 ∧ x50 ≤ 1 := by omega
    clear hbad hE HG
    obtain ⟨t0, t1, t2, t3, t4⟩ := hT
    have t5 : 0 < w.heap.size := by omega
    have x0 := bx0; have x1 := bx1; have x2 := bx2; have x3 := bx3
    go_enter Tryz.func99, Tryz.ntmps99
    go_wp2_with (go_at_call 97; (first | (with_reducible refine Calls.mono (U12.out _ ?_) ?_) | (with_reducible refine Calls.mono (U18.out _ ?_) ?_) | (with_reducible refine Calls.mono (U50.out _ ?_) ?_)); (focus (repeat (first | with_reducible (exact Since.refl _) | with_reducible assumption | with_reducible (refine Since.drew ?_) | with_reducible (refine Since.drewN ?_ _) | with_reducible (refine Since.alloc ?_ _) | (with_reducible (refine Since.setCell ?_ ?_ _); rotate_left; focus (first | (simp; done) | (simp; omega) | omega)) | (with_reducible (refine Since.trans ?_ (by with_reducible assumption)))))); rintro e w1 ⟨rfl, rfl⟩)
    refine wp_loop_rounds 5 ?_
    rw [rounds_succ]
    go_wp2_with (go_at_call 103; (first | (with_reducible refine Calls.mono (S36.out _ ?_) ?_) | (with_reducible refine Calls.mono (S38.out _ ?_) ?_) | (with_reducible refine Calls.mono (S40.out _ ?_) ?_) | (with_reducible refine Calls.mono (S42.out _ ?_) ?_)); (focus (repeat (first | with_reducible (exact Since.refl _) | with_reducible assumption | with_reducible (refine Since.drew ?_) | with_reducible (refine Since.drewN ?_ _) | with_reducible (refine Since.alloc ?_ _) | (with_reducible (refine Since.setCell ?_ ?_ _); rotate_left; focus (first | (simp; done) | (simp; omega) | omega)) | (with_reducible (refine Since.trans ?_ (by with_reducible assumption)))))); rintro e w1 ⟨rfl, rfl⟩)
    rw [rounds_succ]
    go_wp2_with (go_at_call 103; (first | (with_reducible refine Calls.mono (S36.out _ ?_) ?_) | (with_reducible refine Calls.mono (S38.out _ ?_) ?_) | (with_reducible refine Calls.mono (S40.out _ ?_) ?_) | (with_reducible refine Calls.mono (S42.out _ ?_) ?_)); (focus (repeat (first | with_reducible (exact Since.refl _) | with_reducible assumption | with_reducible (refine Since.drew ?_) | with_reducible (refine Since.drewN ?_ _) | with_reducible (refine Since.alloc ?_ _) | (with_reducible (refine Since.setCell ?_ ?_ _); rotate_left; focus (first | (simp; done) | (simp; omega) | omega)) | (with_reducible (refine Since.trans ?_ (by with_reducible assumption)))))); rintro e w1 ⟨rfl, rfl⟩)
    rw [rounds_succ]
    go_wp2_with (go_at_call 103; (first | (with_reducible refine Calls.mono (S36.out _ ?_) ?_) | (with_reducible refine Calls.mono (S38.out _ ?_) ?_) | (with_reducible refine Calls.mono (S40.out _ ?_) ?_) | (with_reducible refine Calls.mono (S42.out _ ?_) ?_)); (focus (repeat (first | with_reducible (exact Since.refl _) | with_reducible assumption | with_reducible (refine Since.drew ?_) | with_reducible (refine Since.drewN ?_ _) | with_reducible (refine Since.alloc ?_ _) | (with_reducible (refine Since.setCell ?_ ?_ _); rotate_left; focus (first | (simp; done) | (simp; omega) | omega)) | (with_reducible (refine Since.trans ?_ (by with_reducible assumption)))))); rintro e w1 ⟨rfl, rfl⟩)
    rw [rounds_succ]
    go_wp2_with (go_at_call 103; (first | (with_reducible refine Calls.mono (S36.out _ ?_) ?_) | (with_reducible refine Calls.mono (S38.out _ ?_) ?_) | (with_reducible refine Calls.mono (S40.out _ ?_) ?_) | (with_reducible refine Calls.mono (S42.out _ ?_) ?_)); (focus (repeat (first | with_reducible (exact Since.refl _) | with_reducible assumption | with_reducible (refine Since.drew ?_) | with_reducible (refine Since.drewN ?_ _) | with_reducible (refine Since.alloc ?_ _) | (with_reducible (refine Since.setCell ?_ ?_ _); rotate_left; focus (first | (simp; done) | (simp; omega) | omega)) | (with_reducible (refine Since.trans ?_ (by with_reducible assumption)))))); rintro e w1 ⟨rfl, rfl⟩)
    rw [rounds_succ]
    go_wp2_with (go_at_call 103; (first | (with_reducible refine Calls.mono (S36.out _ ?_) ?_) | (with_reducible refine Calls.mono (S38.out _ ?_) ?_) | (with_reducible refine Calls.mono (S40.out _ ?_) ?_) | (with_reducible refine Calls.mono (S42.out _ ?_) ?_)); (focus (repeat (first | with_reducible (exact Since.refl _) | with_reducible assumption | with_reducible (refine Since.drew ?_) | with_reducible (refine Since.drewN ?_ _) | with_reducible (refine Since.alloc ?_ _) | (with_reducible (refine Since.setCell ?_ ?_ _); rotate_left; focus (first | (simp; done) | (simp; omega) | omega)) | (with_reducible (refine Since.trans ?_ (by with_reducible assumption)))))); rintro e w1 ⟨rfl, rfl⟩)
    refine bodyPost_ret (v := .tuple #[.agg #[.int .i64 x18, .int .i64 y36, .int .i64 y38, .int .i64 y40, .int .i64 y42, .bool (x50 == 1)], .int .i64 0]) (by simp only [results, Tryz.results99]; go_simp) rfl ?_
    exact G.out _ (by (repeat (first | with_reducible (exact Since.refl _) | with_reducible assumption | with_reducible (refine Since.drew ?_) | with_reducible (refine Since.drewN ?_ _) | with_reducible (refine Since.alloc ?_ _) | (with_reducible (refine Since.setCell ?_ ?_ _); rotate_left; focus (first | (simp; done) | (simp; omega) | omega)) | (with_reducible (refine Since.trans ?_ (by with_reducible assumption))))))
end Go.Proofs.YteckkcpnfeoehaaGreatDoor

/-
  Layer 5: the reference's 'Head'; 'put' and 'lay'.
-/
namespace Go.Proofs.YteckkcpnfeoehaaGreatDoor
set_option maxRecDepth 100000
open Go.RowKit
set_option linter.unusedVariables false

theorem rf_at (A : Option Addr) (n c : Nat) (f : Nat → Int) (p : Nat) (x : Int) (w : World) (h : Rd w w.heap.size A n (U8 f)) (hf : ∀ j, j < n → 0 ≤ f j ∧ f j ≤ 255) (hx : x = p) (hp : p + 2 ≤ n) (hn : n ≤ 140737488355328) :
    Calls Tryz.prog 70 #[.slice A n c, .int .i64 x] w fun e w' => e = .returned (.int .i64 (numAt f p 2)) ∧ w' = w := by
  subst hx
  have hU := ru_in A n c f p 2 p 2 w h hf rfl rfl (by omega) hp hn
  clear h
  go_enter Tryz.func70, Tryz.ntmps70
  go_wp2_with (go_at_call 112; (with_reducible refine hU.mono ?_); rintro e w1 ⟨rfl, rfl⟩)
  go_ret
  exact ⟨rfl, rfl⟩
theorem rf_signed (A : Option Addr) (n c : Nat) (f : Nat → Int) (p : Nat) (x : Int) (w : World) (h : Rd w w.heap.size A n (U8 f)) (hf : ∀ j, j < n → 0 ≤ f j ∧ f j ≤ 255) (hx : x = p) (hp : p + 2 ≤ n) (hn : n ≤ 140737488355328) :
    Calls Tryz.prog 71 #[.slice A n c, .int .i64 x] w fun e w' => e = .returned (.int .i64 (sgn 2 (numAt f p 2))) ∧ w' = w := by
  subst hx
  have hU := rs_in A n c f p 2 p 2 w h hf rfl rfl (by omega) hp hn
  clear h
  go_enter Tryz.func71, Tryz.ntmps71
  go_wp2_with (go_at_call 113; (with_reducible refine hU.mono ?_); rintro e w1 ⟨rfl, rfl⟩)
  go_ret
  exact ⟨rfl, rfl⟩
set_option maxRecDepth 100000 in
set_option maxHeartbeats 8000000 in
theorem rf_head (A : Option Addr) (n c : Nat) (f : Nat → Int) (w : World) (h : Rd w w.heap.size A n (U8 f)) (hf : ∀ j, j < n → 0 ≤ f j ∧ f j ≤ 255) (hn : n ≤ 140737488355328) :
    Calls Tryz.prog 29 #[.slice A n c] w (HdPost f n w) := by
  have hn' : (n : Int) ≤ 140737488355328 := by omega
  by_cases h1 : n < 54
  · have E := Lib.hid (show hdE f n = 3 by unfold hdE; rw [if_pos h1])
    have h1' : (n : Int) < 54 := by omega
    clear h
    go_enter Tryz.func29, Tryz.ntmps29
    go_wp2
    refine bodyPost_ret (v := .tuple #[.agg #[.int .i64 0, .int .i64 0, .int .i64 0, .int .i64 0, .int .i64 0, .bool false], .int .i64 3]) (by simp only [results, Tryz.results29]; go_simp) rfl ?_
    exact hd_bad E.out (by decide) (by (repeat (first | with_reducible (exact Since.refl _) | with_reducible assumption | with_reducible (refine Since.drew ?_) | with_reducible (refine Since.drewN ?_ _) | with_reducible (refine Since.alloc ?_ _) | (with_reducible (refine Since.setCell ?_ ?_ _); rotate_left; focus (first | (simp; done) | (simp; omega) | omega)) | (with_reducible (refine Since.trans ?_ (by with_reducible assumption))))))
  have h1' : (54 : Int) ≤ n := by omega
  have u12 : ∀ w1, Since w w1 → Calls Tryz.prog 70 #[.slice A n c, .int .i64 12] w1 fun e w' => e = .returned (.int .i64 (numAt f 12 2)) ∧ w' = w1 := fun w1 hS => rf_at A n c f 12 12 w1 (h.on hS) hf rfl (by omega) hn
  have u14 : ∀ w1, Since w w1 → Calls Tryz.prog 70 #[.slice A n c, .int .i64 14] w1 fun e w' => e = .returned (.int .i64 (numAt f 14 2)) ∧ w' = w1 := fun w1 hS => rf_at A n c f 14 14 w1 (h.on hS) hf rfl (by omega) hn
  have u18 : ∀ w1, Since w w1 → Calls Tryz.prog 70 #[.slice A n c, .int .i64 18] w1 fun e w' => e = .returned (.int .i64 (numAt f 18 2)) ∧ w' = w1 := fun w1 hS => rf_at A n c f 18 18 w1 (h.on hS) hf rfl (by omega) hn
  have u50 : ∀ w1, Since w w1 → Calls Tryz.prog 70 #[.slice A n c, .int .i64 50] w1 fun e w' => e = .returned (.int .i64 (numAt f 50 2)) ∧ w' = w1 := fun w1 hS => rf_at A n c f 50 50 w1 (h.on hS) hf rfl (by omega) hn
  have s36 : ∀ w1, Since w w1 → Calls Tryz.prog 71 #[.slice A n c, .int .i64 36] w1 fun e w' => e = .returned (.int .i64 (sgn 2 (numAt f 36 2))) ∧ w' = w1 := fun w1 hS => rf_signed A n c f 36 36 w1 (h.on hS) hf rfl (by omega) hn
  have s38 : ∀ w1, Since w w1 → Calls Tryz.prog 71 #[.slice A n c, .int .i64 38] w1 fun e w' => e = .returned (.int .i64 (sgn 2 (numAt f 38 2))) ∧ w' = w1 := fun w1 hS => rf_signed A n c f 38 38 w1 (h.on hS) hf rfl (by omega) hn
  have s40 : ∀ w1, Since w w1 → Calls Tryz.prog 71 #[.slice A n c, .int .i64 40] w1 fun e w' => e = .returned (.int .i64 (sgn 2 (numAt f 40 2))) ∧ w' = w1 := fun w1 hS => rf_signed A n c f 40 40 w1 (h.on hS) hf rfl (by omega) hn
  have s42 : ∀ w1, Since w w1 → Calls Tryz.prog 71 #[.slice A n c, .int .i64 42] w1 fun e w' => e = .returned (.int .i64 (sgn 2 (numAt f 42 2))) ∧ w' = w1 := fun w1 hS => rf_signed A n c f 42 42 w1 (h.on hS) hf rfl (by omega) hn
  have r12 := numAt_small (f := f) (p := 12) (j := 2) (by omega) (fun i hi => hf i (by omega))
  have r14 := numAt_small (f := f) (p := 14) (j := 2) (by omega) (fun i hi => hf i (by omega))
  have q14 : numAt f 14 2 ≤ 65535 := by have := numAt_range (f := f) (p := 14) (k := 2) (fun i hi => hf i (by omega)); simp only [Int.reducePow] at this; omega
  have h4 : numAt f 12 4 = 65536 * numAt f 12 2 + numAt f 14 2 := num_four f 12
  have hE : hdE f n = if numAt f 12 4 ≠ 1594834165 ∨ numAt f 18 2 < 16 ∨ 16384 < numAt f 18 2 ∨ 1 < numAt f 50 2 then 4 else 0 := by unfold hdE; rw [if_neg h1]
  rw [h4] at hE
  have HG : ∀ (w' : World), Since w w' → hdE f n = 0 → HdPost f n w (.returned (.tuple #[HdV (numAt f 18 2) (sgn 2 (numAt f 36 2)) (sgn 2 (numAt f 38 2)) (sgn 2 (numAt f 40 2)) (sgn 2 (numAt f 42 2)) (numAt f 50 2 == 1), .int .i64 0])) w' := fun w' hS h0 => hd_good h0 rfl rfl rfl rfl rfl rfl hS
  clear h h4
  generalize numAt f 12 2 = x12 at *
  generalize numAt f 14 2 = x14 at *
  generalize numAt f 18 2 = x18 at *
  generalize numAt f 50 2 = x50 at *
  generalize sgn 2 (numAt f 36 2) = y36 at *
  generalize sgn 2 (numAt f 38 2) = y38 at *
  generalize sgn 2 (numAt f 40 2) = y40 at *
  generalize sgn 2 (numAt f 42 2) = y42 at *
  have U12 := Lib.hid u12; have U14 := Lib.hid u14; have U18 := Lib.hid u18; have U50 := Lib.hid u50
  have S36 := Lib.hid s36; have S38 := Lib.hid s38; have S40 := Lib.hid s40; have S42 := Lib.hid s42
  clear u12 u14 u18 u50 s36 s38 s40 s42
  by_cases hbad : 65536 * x12 + x14 ≠ 1594834165 ∨ x18 < 16 ∨ 16384 < x18 ∨ 1 < x50
  · have E := Lib.hid (show hdE f n = 4 by rw [hE, if_pos hbad])
    have hb : x12 ≠ 24335 ∨ (x12 = 24335 ∧ x14 ≠ 15605) ∨ (x12 = 24335 ∧ x14 = 15605 ∧ x18 < 16) ∨ (x12 = 24335 ∧ x14 = 15605 ∧ 16 ≤ x18 ∧ 16384 < x18) ∨ (x12 = 24335 ∧ x14 = 15605 ∧ 16 ≤ x18 ∧ x18 ≤ 16384 ∧ 1 < x50) := by omega
    clear hbad hE HG
    rcases hb with h0 | ⟨rfl, h0⟩ | ⟨rfl, rfl, h2⟩ | ⟨rfl, rfl, h2, h3⟩ | ⟨rfl, rfl, h2, h3, h4⟩
    · have d0 : (x12 != 24335) = true := by simpa using h0
      go_enter Tryz.func29, Tryz.ntmps29
      go_wp2_with (first | (go_at_call 70; (first | (with_reducible refine Calls.mono (U12.out _ ?_) ?_) | (with_reducible refine Calls.mono (U14.out _ ?_) ?_) | (with_reducible refine Calls.mono (U18.out _ ?_) ?_) | (with_reducible refine Calls.mono (U50.out _ ?_) ?_)); (focus (repeat (first | with_reducible (exact Since.refl _) | with_reducible assumption | with_reducible (refine Since.drew ?_) | with_reducible (refine Since.drewN ?_ _) | with_reducible (refine Since.alloc ?_ _) | (with_reducible (refine Since.setCell ?_ ?_ _); rotate_left; focus (first | (simp; done) | (simp; omega) | omega)) | (with_reducible (refine Since.trans ?_ (by with_reducible assumption)))))); rintro e w1 ⟨rfl, rfl⟩) | (go_at_call 71; (first | (with_reducible refine Calls.mono (S36.out _ ?_) ?_) | (with_reducible refine Calls.mono (S38.out _ ?_) ?_) | (with_reducible refine Calls.mono (S40.out _ ?_) ?_) | (with_reducible refine Calls.mono (S42.out _ ?_) ?_)); (focus (repeat (first | with_reducible (exact Since.refl _) | with_reducible assumption | with_reducible (refine Since.drew ?_) | with_reducible (refine Since.drewN ?_ _) | with_reducible (refine Since.alloc ?_ _) | (with_reducible (refine Since.setCell ?_ ?_ _); rotate_left; focus (first | (simp; done) | (simp; omega) | omega)) | (with_reducible (refine Since.trans ?_ (by with_reducible assumption)))))); rintro e w1 ⟨rfl, rfl⟩))
      refine bodyPost_ret (v := .tuple #[.agg #[.int .i64 0, .int .i64 0, .int .i64 0, .int .i64 0, .int .i64 0, .bool false], .int .i64 4]) (by simp only [results, Tryz.results29]; go_simp) rfl ?_
      exact hd_bad E.out (by decide) (by (repeat (first | with_reducible (exact Since.refl _) | with_reducible assumption | with_reducible (refine Since.drew ?_) | with_reducible (refine Since.drewN ?_ _) | with_reducible (refine Since.alloc ?_ _) | (with_reducible (refine Since.setCell ?_ ?_ _); rotate_left; focus (first | (simp; done) | (simp; omega) | omega)) | (with_reducible (refine Since.trans ?_ (by with_reducible assumption))))))
    · have d0 : (x14 != 15605) = true := by simpa using h0
      go_enter Tryz.func29, Tryz.ntmps29
      go_wp2_with (first | (go_at_call 70; (first | (with_reducible refine Calls.mono (U12.out _ ?_) ?_) | (with_reducible refine Calls.mono (U14.out _ ?_) ?_) | (with_reducible refine Calls.mono (U18.out _ ?_) ?_) | (with_reducible refine Calls.mono (U50.out _ ?_) ?_)); (focus (repeat (first | with_reducible (exact Since.refl _) | with_reducible assumption | with_reducible (refine Since.drew ?_) | with_reducible (refine Since.drewN ?_ _) | with_reducible (refine Since.alloc ?_ _) | (with_reducible (refine Since.setCell ?_ ?_ _); rotate_left; focus (first | (simp; done) | (simp; omega) | omega)) | (with_reducible (refine Since.trans ?_ (by with_reducible assumption)))))); rintro e w1 ⟨rfl, rfl⟩) | (go_at_call 71; (first | (with_reducible refine Calls.mono (S36.out _ ?_) ?_) | (with_reducible refine Calls.mono (S38.out _ ?_) ?_) | (with_reducible refine Calls.mono (S40.out _ ?_) ?_) | (with_reducible refine Calls.mono (S42.out _ ?_) ?_)); (focus (repeat (first | with_reducible (exact Since.refl _) | with_reducible assumption | with_reducible (refine Since.drew ?_) | with_reducible (refine Since.drewN ?_ _) | with_reducible (refine Since.alloc ?_ _) | (with_reducible (refine Since.setCell ?_ ?_ _); rotate_left; focus (first | (simp; done) | (simp; omega) | omega)) | (with_reducible (refine Since.trans ?_ (by with_reducible assumption)))))); rintro e w1 ⟨rfl, rfl⟩))
      refine bodyPost_ret (v := .tuple #[.agg #[.int .i64 0, .int .i64 0, .int .i64 0, .int .i64 0, .int .i64 0, .bool false], .int .i64 4]) (by simp only [results, Tryz.results29]; go_simp) rfl ?_
      exact hd_bad E.out (by decide) (by (repeat (first | with_reducible (exact Since.refl _) | with_reducible assumption | with_reducible (refine Since.drew ?_) | with_reducible (refine Since.drewN ?_ _) | with_reducible (refine Since.alloc ?_ _) | (with_reducible (refine Since.setCell ?_ ?_ _); rotate_left; focus (first | (simp; done) | (simp; omega) | omega)) | (with_reducible (refine Since.trans ?_ (by with_reducible assumption))))))
    · go_enter Tryz.func29, Tryz.ntmps29
      go_wp2_with (first | (go_at_call 70; (first | (with_reducible refine Calls.mono (U12.out _ ?_) ?_) | (with_reducible refine Calls.mono (U14.out _ ?_) ?_) | (with_reducible refine Calls.mono (U18.out _ ?_) ?_) | (with_reducible refine Calls.mono (U50.out _ ?_) ?_)); (focus (repeat (first | with_reducible (exact Since.refl _) | with_reducible assumption | with_reducible (refine Since.drew ?_) | with_reducible (refine Since.drewN ?_ _) | with_reducible (refine Since.alloc ?_ _) | (with_reducible (refine Since.setCell ?_ ?_ _); rotate_left; focus (first | (simp; done) | (simp; omega) | omega)) | (with_reducible (refine Since.trans ?_ (by with_reducible assumption)))))); rintro e w1 ⟨rfl, rfl⟩) | (go_at_call 71; (first | (with_reducible refine Calls.mono (S36.out _ ?_) ?_) | (with_reducible refine Calls.mono (S38.out _ ?_) ?_) | (with_reducible refine Calls.mono (S40.out _ ?_) ?_) | (with_reducible refine Calls.mono (S42.out _ ?_) ?_)); (focus (repeat (first | with_reducible (exact Since.refl _) | with_reducible assumption | with_reducible (refine Since.drew ?_) | with_reducible (refine Since.drewN ?_ _) | with_reducible (refine Since.alloc ?_ _) | (with_reducible (refine Since.setCell ?_ ?_ _); rotate_left; focus (first | (simp; done) | (simp; omega) | omega)) | (with_reducible (refine Since.trans ?_ (by with_reducible assumption)))))); rintro e w1 ⟨rfl, rfl⟩))
      refine bodyPost_ret (v := .tuple #[.agg #[.int .i64 0, .int .i64 0, .int .i64 0, .int .i64 0, .int .i64 0, .bool false], .int .i64 4]) (by simp only [results, Tryz.results29]; go_simp) rfl ?_
      exact hd_bad E.out (by decide) (by (repeat (first | with_reducible (exact Since.refl _) | with_reducible assumption | with_reducible (refine Since.drew ?_) | with_reducible (refine Since.drewN ?_ _) | with_reducible (refine Since.alloc ?_ _) | (with_reducible (refine Since.setCell ?_ ?_ _); rotate_left; focus (first | (simp; done) | (simp; omega) | omega)) | (with_reducible (refine Since.trans ?_ (by with_reducible assumption))))))
    · go_enter Tryz.func29, Tryz.ntmps29
      go_wp2_with (first | (go_at_call 70; (first | (with_reducible refine Calls.mono (U12.out _ ?_) ?_) | (with_reducible refine Calls.mono (U14.out _ ?_) ?_) | (with_reducible refine Calls.mono (U18.out _ ?_) ?_) | (with_reducible refine Calls.mono (U50.out _ ?_) ?_)); (focus (repeat (first | with_reducible (exact Since.refl _) | with_reducible assumption | with_reducible (refine Since.drew ?_) | with_reducible (refine Since.drewN ?_ _) | with_reducible (refine Since.alloc ?_ _) | (with_reducible (refine Since.setCell ?_ ?_ _); rotate_left; focus (first | (simp; done) | (simp; omega) | omega)) | (with_reducible (refine Since.trans ?_ (by with_reducible assumption)))))); rintro e w1 ⟨rfl, rfl⟩) | (go_at_call 71; (first | (with_reducible refine Calls.mono (S36.out _ ?_) ?_) | (with_reducible refine Calls.mono (S38.out _ ?_) ?_) | (with_reducible refine Calls.mono (S40.out _ ?_) ?_) | (with_reducible refine Calls.mono (S42.out _ ?_) ?_)); (focus (repeat (first | with_reducible (exact Since.refl _) | with_reducible assumption | with_reducible (refine Since.drew ?_) | with_reducible (refine Since.drewN ?_ _) | with_reducible (refine Since.alloc ?_ _) | (with_reducible (refine Since.setCell ?_ ?_ _); rotate_left; focus (first | (simp; done) | (simp; omega) | omega)) | (with_reducible (refine Since.trans ?_ (by with_reducible assumption)))))); rintro e w1 ⟨rfl, rfl⟩))
      refine bodyPost_ret (v := .tuple #[.agg #[.int .i64 0, .int .i64 0, .int .i64 0, .int .i64 0, .int .i64 0, .bool false], .int .i64 4]) (by simp only [results, Tryz.results29]; go_simp) rfl ?_
      exact hd_bad E.out (by decide) (by (repeat (first | with_reducible (exact Since.refl _) | with_reducible assumption | with_reducible (refine Since.drew ?_) | with_reducible (refine Since.drewN ?_ _) | with_reducible (refine Since.alloc ?_ _) | (with_reducible (refine Since.setCell ?_ ?_ _); rotate_left; focus (first | (simp; done) | (simp; omega) | omega)) | (with_reducible (refine Since.trans ?_ (by with_reducible assumption))))))
    · go_enter Tryz.func29, Tryz.ntmps29
      go_wp2_with (first | (go_at_call 70; (first | (with_reducible refine Calls.mono (U12.out _ ?_) ?_) | (with_reducible refine Calls.mono (U14.out _ ?_) ?_) | (with_reducible refine Calls.mono (U18.out _ ?_) ?_) | (with_reducible refine Calls.mono (U50.out _ ?_) ?_)); (focus (repeat (first | with_reducible (exact Since.refl _) | with_reducible assumption | with_reducible (refine Since.drew ?_) | with_reducible (refine Since.drewN ?_ _) | with_reducible (refine Since.alloc ?_ _) | (with_reducible (refine Since.setCell ?_ ?_ _); rotate_left; focus (first | (simp; done) | (simp; omega) | omega)) | (with_reducible (refine Since.trans ?_ (by with_reducible assumption)))))); rintro e w1 ⟨rfl, rfl⟩) | (go_at_call 71; (first | (with_reducible refine Calls.mono (S36.out _ ?_) ?_) | (with_reducible refine Calls.mono (S38.out _ ?_) ?_) | (with_reducible refine Calls.mono (S40.out _ ?_) ?_) | (with_reducible refine Calls.mono (S42.out _ ?_) ?_)); (focus (repeat (first | with_reducible (exact Since.refl _) | with_reducible assumption | with_reducible (refine Since.drew ?_) | with_reducible (refine Since.drewN ?_ _) | with_reducible (refine Since.alloc ?_ _) | (with_reducible (refine Since.setCell ?_ ?_ _); rotate_left; focus (first | (simp; done) | (simp; omega) | omega)) | (with_reducible (refine Since.trans ?_ (by with_reducible assumption)))))); rintro e w1 ⟨rfl, rfl⟩))
      refine bodyPost_ret (v := .tuple #[.agg #[.int .i64 0, .int .i64 0, .int .i64 0, .int .i64 0, .int .i64 0, .bool false], .int .i64 4]) (by simp only [results, Tryz.results29]; go_simp) rfl ?_
      exact hd_bad E.out (by decide) (by (repeat (first | with_reducible (exact Since.refl _) | with_reducible assumption | with_reducible (refine Since.drew ?_) | with_reducible (refine Since.drewN ?_ _) | with_reducible (refine Since.alloc ?_ _) | (with_reducible (refine Since.setCell ?_ ?_ _); rotate_left; focus (first | (simp; done) | (simp; omega) | omega)) | (with_reducible (refine Since.trans ?_ (by with_reducible assumption))))))
  · have G := Lib.hid (fun w' (hS : Since w w') => HG w' hS (by rw [hE, if_neg hbad]))
    obtain ⟨rfl, rfl, h2, h3, h4⟩ : x12 = 24335 ∧ x14 = 15605 ∧ 16 ≤ x18 ∧ x18 ≤ 16384 ∧ x50 ≤ 1 := by omega
    clear hbad hE HG
    go_enter Tryz.func29, Tryz.ntmps29
    go_wp2_with (first | (go_at_call 70; (first | (with_reducible refine Calls.mono (U12.out _ ?_) ?_) | (with_reducible refine Calls.mono (U14.out _ ?_) ?_) | (with_reducible refine Calls.mono (U18.out _ ?_) ?_) | (with_reducible refine Calls.mono (U50.out _ ?_) ?_)); (focus (repeat (first | with_reducible (exact Since.refl _) | with_reducible assumption | with_reducible (refine Since.drew ?_) | with_reducible (refine Since.drewN ?_ _) | with_reducible (refine Since.alloc ?_ _) | (with_reducible (refine Since.setCell ?_ ?_ _); rotate_left; focus (first | (simp; done) | (simp; omega) | omega)) | (with_reducible (refine Since.trans ?_ (by with_reducible assumption)))))); rintro e w1 ⟨rfl, rfl⟩) | (go_at_call 71; (first | (with_reducible refine Calls.mono (S36.out _ ?_) ?_) | (with_reducible refine Calls.mono (S38.out _ ?_) ?_) | (with_reducible refine Calls.mono (S40.out _ ?_) ?_) | (with_reducible refine Calls.mono (S42.out _ ?_) ?_)); (focus (repeat (first | with_reducible (exact Since.refl _) | with_reducible assumption | with_reducible (refine Since.drew ?_) | with_reducible (refine Since.drewN ?_ _) | with_reducible (refine Since.alloc ?_ _) | (with_reducible (refine Since.setCell ?_ ?_ _); rotate_left; focus (first | (simp; done) | (simp; omega) | omega)) | (with_reducible (refine Since.trans ?_ (by with_reducible assumption)))))); rintro e w1 ⟨rfl, rfl⟩))
    refine bodyPost_ret (v := .tuple #[.agg #[.int .i64 x18, .int .i64 y36, .int .i64 y38, .int .i64 y40, .int .i64 y42, .bool (x50 == 1)], .int .i64 0]) (by simp only [results, Tryz.results29]; go_simp) rfl ?_
    exact G.out _ (by (repeat (first | with_reducible (exact Since.refl _) | with_reducible assumption | with_reducible (refine Since.drew ?_) | with_reducible (refine Since.drewN ?_ _) | with_reducible (refine Since.alloc ?_ _) | (with_reducible (refine Since.setCell ?_ ?_ _); rotate_left; focus (first | (simp; done) | (simp; omega) | omega)) | (with_reducible (refine Since.trans ?_ (by with_reducible assumption))))))
end Go.Proofs.YteckkcpnfeoehaaGreatDoor

/-
  Layer 5: numbers put into a head; what 'PutHead' leaves.
-/
namespace Go.Proofs.YteckkcpnfeoehaaGreatDoor
set_option maxRecDepth 100000
open Go.RowKit
set_option linter.unusedVariables false

end Go.Proofs.YteckkcpnfeoehaaGreatDoor

/-
  Layer 5: 'Maxp', 'Count', 'PutCount', walked, program and reference.
-/
namespace Go.Proofs.YteckkcpnfeoehaaGreatDoor
set_option maxRecDepth 100000
open Go.RowKit
set_option linter.unusedVariables false

def mxE (f : Nat → Int) (n : Nat) : Int := if n < 32 then 3 else if numAt f 0 4 ≠ 65536 then 4 else 0
def mxN (f : Nat → Int) (n p : Nat) : Int := if mxE f n = 0 then numAt f p 2 else 0
def MxV (a b c d e g i : Int) : Value := .agg #[.int .i64 a, .int .i64 b, .int .i64 c, .int .i64 d, .int .i64 e, .int .i64 g, .int .i64 i]
def MxPost (f : Nat → Int) (n : Nat) (w : World) (e : Ending) (w' : World) : Prop := e = .returned (.tuple #[MxV (mxN f n 4) (mxN f n 6) (mxN f n 8) (mxN f n 10) (mxN f n 12) (mxN f n 28) (mxN f n 30), .int .i64 (mxE f n)]) ∧ Since w w'
theorem mx_bad {f : Nat → Int} {n : Nat} {E : Int} {w w' : World} (hE : mxE f n = E) (h0 : E ≠ 0) (hS : Since w w') : MxPost f n w (.returned (.tuple #[MxV 0 0 0 0 0 0 0, .int .i64 E])) w' := by
  subst hE
  have e : ∀ p, mxN f n p = 0 := fun p => by unfold mxN; rw [if_neg h0]
  unfold MxPost
  rw [e, e, e, e, e, e, e]
  exact ⟨rfl, hS⟩
theorem mx_good {f : Nat → Int} {n : Nat} {w w' : World} (hE : mxE f n = 0) (hS : Since w w') : MxPost f n w (.returned (.tuple #[MxV (numAt f 4 2) (numAt f 6 2) (numAt f 8 2) (numAt f 10 2) (numAt f 12 2) (numAt f 28 2) (numAt f 30 2), .int .i64 0])) w' := by
  have e : ∀ p, mxN f n p = numAt f p 2 := fun p => by unfold mxN; rw [if_pos hE]
  unfold MxPost
  rw [e, e, e, e, e, e, e, hE]
  exact ⟨rfl, hS⟩

set_option maxRecDepth 100000 in
set_option maxHeartbeats 8000000 in
theorem hd_maxp (A : Option Addr) (n c : Nat) (f : Nat → Int) (w : World) (hT : Tabs w) (h : Rd w w.heap.size A n (U8 f)) (hf : ∀ j, j < n → 0 ≤ f j ∧ f j ≤ 255) (hn : n ≤ 140737488355328) :
    Calls Tryz.prog 100 #[.slice A n c] w (MxPost f n w) := by
  have hn' : (n : Int) ≤ 140737488355328 := by omega
  by_cases h1 : n < 32
  · have E := Lib.hid (show mxE f n = 3 by unfold mxE; rw [if_pos h1])
    have h1' : (n : Int) < 32 := by omega
    clear h
    go_enter Tryz.func100, Tryz.ntmps100
    go_wp2
    refine bodyPost_ret (v := .tuple #[.agg #[.int .i64 0, .int .i64 0, .int .i64 0, .int .i64 0, .int .i64 0, .int .i64 0, .int .i64 0], .int .i64 3]) (by simp only [results, Tryz.results100]; go_simp) rfl ?_
    exact mx_bad E.out (by decide) (by (repeat (first | with_reducible (exact Since.refl _) | with_reducible assumption | with_reducible (refine Since.drew ?_) | with_reducible (refine Since.drewN ?_ _) | with_reducible (refine Since.alloc ?_ _) | (with_reducible (refine Since.setCell ?_ ?_ _); rotate_left; focus (first | (simp; done) | (simp; omega) | omega)) | (with_reducible (refine Since.trans ?_ (by with_reducible assumption))))))
  have h1' : (32 : Int) ≤ n := by omega
  have u0 : ∀ w1, Since w w1 → Calls Tryz.prog 97 #[.slice A n c, .int .i64 0, .int .i64 4] w1 fun e w' => e = .returned (.tuple #[.int .i64 (numAt f 0 4), .int .i64 0]) ∧ w' = w1 := fun w1 hS => u_in A n c f 0 4 0 4 w1 (h.on hS) hf rfl rfl (by omega) (by omega) hn
  have u4 : ∀ w1, Since w w1 → Calls Tryz.prog 97 #[.slice A n c, .int .i64 4, .int .i64 2] w1 fun e w' => e = .returned (.tuple #[.int .i64 (numAt f 4 2), .int .i64 0]) ∧ w' = w1 := fun w1 hS => u_in A n c f 4 2 4 2 w1 (h.on hS) hf rfl rfl (by omega) (by omega) hn
  have u6 : ∀ w1, Since w w1 → Calls Tryz.prog 97 #[.slice A n c, .int .i64 6, .int .i64 2] w1 fun e w' => e = .returned (.tuple #[.int .i64 (numAt f 6 2), .int .i64 0]) ∧ w' = w1 := fun w1 hS => u_in A n c f 6 2 6 2 w1 (h.on hS) hf rfl rfl (by omega) (by omega) hn
  have u8 : ∀ w1, Since w w1 → Calls Tryz.prog 97 #[.slice A n c, .int .i64 8, .int .i64 2] w1 fun e w' => e = .returned (.tuple #[.int .i64 (numAt f 8 2), .int .i64 0]) ∧ w' = w1 := fun w1 hS => u_in A n c f 8 2 8 2 w1 (h.on hS) hf rfl rfl (by omega) (by omega) hn
  have u10 : ∀ w1, Since w w1 → Calls Tryz.prog 97 #[.slice A n c, .int .i64 10, .int .i64 2] w1 fun e w' => e = .returned (.tuple #[.int .i64 (numAt f 10 2), .int .i64 0]) ∧ w' = w1 := fun w1 hS => u_in A n c f 10 2 10 2 w1 (h.on hS) hf rfl rfl (by omega) (by omega) hn
  have u12 : ∀ w1, Since w w1 → Calls Tryz.prog 97 #[.slice A n c, .int .i64 12, .int .i64 2] w1 fun e w' => e = .returned (.tuple #[.int .i64 (numAt f 12 2), .int .i64 0]) ∧ w' = w1 := fun w1 hS => u_in A n c f 12 2 12 2 w1 (h.on hS) hf rfl rfl (by omega) (by omega) hn
  have u28 : ∀ w1, Since w w1 → Calls Tryz.prog 97 #[.slice A n c, .int .i64 28, .int .i64 2] w1 fun e w' => e = .returned (.tuple #[.int .i64 (numAt f 28 2), .int .i64 0]) ∧ w' = w1 := fun w1 hS => u_in A n c f 28 2 28 2 w1 (h.on hS) hf rfl rfl (by omega) (by omega) hn
  have u30 : ∀ w1, Since w w1 → Calls Tryz.prog 97 #[.slice A n c, .int .i64 30, .int .i64 2] w1 fun e w' => e = .returned (.tuple #[.int .i64 (numAt f 30 2), .int .i64 0]) ∧ w' = w1 := fun w1 hS => u_in A n c f 30 2 30 2 w1 (h.on hS) hf rfl rfl (by omega) (by omega) hn
  have hE : mxE f n = if numAt f 0 4 ≠ 65536 then 4 else 0 := by unfold mxE; rw [if_neg h1]
  have HG : ∀ w', Since w w' → mxE f n = 0 → MxPost f n w _ w' := fun w' hS h0 => mx_good h0 hS
  clear h
  generalize numAt f 4 2 = y4 at *
  generalize numAt f 6 2 = y6 at *
  generalize numAt f 8 2 = y8 at *
  generalize numAt f 10 2 = y10 at *
  generalize numAt f 12 2 = y12 at *
  generalize numAt f 28 2 = y28 at *
  generalize numAt f 30 2 = y30 at *
  generalize numAt f 0 4 = x0 at *
  have U0 := Lib.hid u0
  have U4 := Lib.hid u4
  have U6 := Lib.hid u6
  have U8 := Lib.hid u8
  have U10 := Lib.hid u10
  have U12 := Lib.hid u12
  have U28 := Lib.hid u28
  have U30 := Lib.hid u30
  clear u0 u4 u6 u8 u10 u12 u28 u30
  by_cases hb : x0 ≠ 65536
  · have E := Lib.hid (show mxE f n = 4 by rw [hE, if_pos hb])
    have d0 : (x0 != 65536) = true := by simpa using hb
    clear hE HG
    go_enter Tryz.func100, Tryz.ntmps100
    go_wp2_with (go_at_call 97; (first | (with_reducible refine Calls.mono (U0.out _ ?_) ?_)); (focus (repeat (first | with_reducible (exact Since.refl _) | with_reducible assumption | with_reducible (refine Since.drew ?_) | with_reducible (refine Since.drewN ?_ _) | with_reducible (refine Since.alloc ?_ _) | (with_reducible (refine Since.setCell ?_ ?_ _); rotate_left; focus (first | (simp; done) | (simp; omega) | omega)) | (with_reducible (refine Since.trans ?_ (by with_reducible assumption)))))); rintro e w1 ⟨rfl, rfl⟩)
    refine bodyPost_ret (v := .tuple #[.agg #[.int .i64 0, .int .i64 0, .int .i64 0, .int .i64 0, .int .i64 0, .int .i64 0, .int .i64 0], .int .i64 4]) (by simp only [results, Tryz.results100]; go_simp) rfl ?_
    exact mx_bad E.out (by decide) (by (repeat (first | with_reducible (exact Since.refl _) | with_reducible assumption | with_reducible (refine Since.drew ?_) | with_reducible (refine Since.drewN ?_ _) | with_reducible (refine Since.alloc ?_ _) | (with_reducible (refine Since.setCell ?_ ?_ _); rotate_left; focus (first | (simp; done) | (simp; omega) | omega)) | (with_reducible (refine Since.trans ?_ (by with_reducible assumption))))))
  · have G := Lib.hid (fun w' (hS : Since w w') => HG w' hS (by rw [hE, if_neg hb]))
    obtain rfl : x0 = 65536 := by omega
    clear hE HG hb
    obtain ⟨t0, ta, t1, t2, t3, t4, t5, t6, t7⟩ := hT
    have t8 : 1 < w.heap.size := by omega
    have t9 : 0 < w.heap.size := by omega
    have x0 := mx0; have x1 := mx1; have x2 := mx2; have x3 := mx3; have x4 := mx4; have x5 := mx5; have x6 := mx6
    clear ta
    go_enter Tryz.func100, Tryz.ntmps100
    go_wp2_with (go_at_call 97; (first | (with_reducible refine Calls.mono (U0.out _ ?_) ?_) | (with_reducible refine Calls.mono (U4.out _ ?_) ?_) | (with_reducible refine Calls.mono (U6.out _ ?_) ?_) | (with_reducible refine Calls.mono (U8.out _ ?_) ?_) | (with_reducible refine Calls.mono (U10.out _ ?_) ?_) | (with_reducible refine Calls.mono (U12.out _ ?_) ?_) | (with_reducible refine Calls.mono (U28.out _ ?_) ?_) | (with_reducible refine Calls.mono (U30.out _ ?_) ?_)); (focus (repeat (first | with_reducible (exact Since.refl _) | with_reducible assumption | with_reducible (refine Since.drew ?_) | with_reducible (refine Since.drewN ?_ _) | with_reducible (refine Since.alloc ?_ _) | (with_reducible (refine Since.setCell ?_ ?_ _); rotate_left; focus (first | (simp; done) | (simp; omega) | omega)) | (with_reducible (refine Since.trans ?_ (by with_reducible assumption)))))); rintro e w1 ⟨rfl, rfl⟩)
    refine wp_loop_rounds 8 ?_
    rw [rounds_succ]
    go_wp2_with (go_at_call 97; (first | (with_reducible refine Calls.mono (U4.out _ ?_) ?_) | (with_reducible refine Calls.mono (U6.out _ ?_) ?_) | (with_reducible refine Calls.mono (U8.out _ ?_) ?_) | (with_reducible refine Calls.mono (U10.out _ ?_) ?_) | (with_reducible refine Calls.mono (U12.out _ ?_) ?_) | (with_reducible refine Calls.mono (U28.out _ ?_) ?_) | (with_reducible refine Calls.mono (U30.out _ ?_) ?_)); (focus (repeat (first | with_reducible (exact Since.refl _) | with_reducible assumption | with_reducible (refine Since.drew ?_) | with_reducible (refine Since.drewN ?_ _) | with_reducible (refine Since.alloc ?_ _) | (with_reducible (refine Since.setCell ?_ ?_ _); rotate_left; focus (first | (simp; done) | (simp; omega) | omega)) | (with_reducible (refine Since.trans ?_ (by with_reducible assumption)))))); rintro e w1 ⟨rfl, rfl⟩)
    rw [rounds_succ]
    go_wp2_with (go_at_call 97; (first | (with_reducible refine Calls.mono (U4.out _ ?_) ?_) | (with_reducible refine Calls.mono (U6.out _ ?_) ?_) | (with_reducible refine Calls.mono (U8.out _ ?_) ?_) | (with_reducible refine Calls.mono (U10.out _ ?_) ?_) | (with_reducible refine Calls.mono (U12.out _ ?_) ?_) | (with_reducible refine Calls.mono (U28.out _ ?_) ?_) | (with_reducible refine Calls.mono (U30.out _ ?_) ?_)); (focus (repeat (first | with_reducible (exact Since.refl _) | with_reducible assumption | with_reducible (refine Since.drew ?_) | with_reducible (refine Since.drewN ?_ _) | with_reducible (refine Since.alloc ?_ _) | (with_reducible (refine Since.setCell ?_ ?_ _); rotate_left; focus (first | (simp; done) | (simp; omega) | omega)) | (with_reducible (refine Since.trans ?_ (by with_reducible assumption)))))); rintro e w1 ⟨rfl, rfl⟩)
    rw [rounds_succ]
    go_wp2_with (go_at_call 97; (first | (with_reducible refine Calls.mono (U4.out _ ?_) ?_) | (with_reducible refine Calls.mono (U6.out _ ?_) ?_) | (with_reducible refine Calls.mono (U8.out _ ?_) ?_) | (with_reducible refine Calls.mono (U10.out _ ?_) ?_) | (with_reducible refine Calls.mono (U12.out _ ?_) ?_) | (with_reducible refine Calls.mono (U28.out _ ?_) ?_) | (with_reducible refine Calls.mono (U30.out _ ?_) ?_)); (focus (repeat (first | with_reducible (exact Since.refl _) | with_reducible assumption | with_reducible (refine Since.drew ?_) | with_reducible (refine Since.drewN ?_ _) | with_reducible (refine Since.alloc ?_ _) | (with_reducible (refine Since.setCell ?_ ?_ _); rotate_left; focus (first | (simp; done) | (simp; omega) | omega)) | (with_reducible (refine Since.trans ?_ (by with_reducible assumption)))))); rintro e w1 ⟨rfl, rfl⟩)
    rw [rounds_succ]
    go_wp2_with (go_at_call 97; (first | (with_reducible refine Calls.mono (U4.out _ ?_) ?_) | (with_reducible refine Calls.mono (U6.out _ ?_) ?_) | (with_reducible refine Calls.mono (U8.out _ ?_) ?_) | (with_reducible refine Calls.mono (U10.out _ ?_) ?_) | (with_reducible refine Calls.mono (U12.out _ ?_) ?_) | (with_reducible refine Calls.mono (U28.out _ ?_) ?_) | (with_reducible refine Calls.mono (U30.out _ ?_) ?_)); (focus (repeat (first | with_reducible (exact Since.refl _) | with_reducible assumption | with_reducible (refine Since.drew ?_) | with_reducible (refine Since.drewN ?_ _) | with_reducible (refine Since.alloc ?_ _) | (with_reducible (refine Since.setCell ?_ ?_ _); rotate_left; focus (first | (simp; done) | (simp; omega) | omega)) | (with_reducible (refine Since.trans ?_ (by with_reducible assumption)))))); rintro e w1 ⟨rfl, rfl⟩)
    rw [rounds_succ]
    go_wp2_with (go_at_call 97; (first | (with_reducible refine Calls.mono (U4.out _ ?_) ?_) | (with_reducible refine Calls.mono (U6.out _ ?_) ?_) | (with_reducible refine Calls.mono (U8.out _ ?_) ?_) | (with_reducible refine Calls.mono (U10.out _ ?_) ?_) | (with_reducible refine Calls.mono (U12.out _ ?_) ?_) | (with_reducible refine Calls.mono (U28.out _ ?_) ?_) | (with_reducible refine Calls.mono (U30.out _ ?_) ?_)); (focus (repeat (first | with_reducible (exact Since.refl _) | with_reducible assumption | with_reducible (refine Since.drew ?_) | with_reducible (refine Since.drewN ?_ _) | with_reducible (refine Since.alloc ?_ _) | (with_reducible (refine Since.setCell ?_ ?_ _); rotate_left; focus (first | (simp; done) | (simp; omega) | omega)) | (with_reducible (refine Since.trans ?_ (by with_reducible assumption)))))); rintro e w1 ⟨rfl, rfl⟩)
    rw [rounds_succ]
    go_wp2_with (go_at_call 97; (first | (with_reducible refine Calls.mono (U4.out _ ?_) ?_) | (with_reducible refine Calls.mono (U6.out _ ?_) ?_) | (with_reducible refine Calls.mono (U8.out _ ?_) ?_) | (with_reducible refine Calls.mono (U10.out _ ?_) ?_) | (with_reducible refine Calls.mono (U12.out _ ?_) ?_) | (with_reducible refine Calls.mono (U28.out _ ?_) ?_) | (with_reducible refine Calls.mono (U30.out _ ?_) ?_)); (focus (repeat (first | with_reducible (exact Since.refl _) | with_reducible assumption | with_reducible (refine Since.drew ?_) | with_reducible (refine Since.drewN ?_ _) | with_reducible (refine Since.alloc ?_ _) | (with_reducible (refine Since.setCell ?_ ?_ _); rotate_left; focus (first | (simp; done) | (simp; omega) | omega)) | (with_reducible (refine Since.trans ?_ (by with_reducible assumption)))))); rintro e w1 ⟨rfl, rfl⟩)
    rw [rounds_succ]
    go_wp2_with (go_at_call 97; (first | (with_reducible refine Calls.mono (U4.out _ ?_) ?_) | (with_reducible refine Calls.mono (U6.out _ ?_) ?_) | (with_reducible refine Calls.mono (U8.out _ ?_) ?_) | (with_reducible refine Calls.mono (U10.out _ ?_) ?_) | (with_reducible refine Calls.mono (U12.out _ ?_) ?_) | (with_reducible refine Calls.mono (U28.out _ ?_) ?_) | (with_reducible refine Calls.mono (U30.out _ ?_) ?_)); (focus (repeat (first | with_reducible (exact Since.refl _) | with_reducible assumption | with_reducible (refine Since.drew ?_) | with_reducible (refine Since.drewN ?_ _) | with_reducible (refine Since.alloc ?_ _) | (with_reducible (refine Since.setCell ?_ ?_ _); rotate_left; focus (first | (simp; done) | (simp; omega) | omega)) | (with_reducible (refine Since.trans ?_ (by with_reducible assumption)))))); rintro e w1 ⟨rfl, rfl⟩)
    rw [rounds_succ]
    go_wp2_with (go_at_call 97; (first | (with_reducible refine Calls.mono (U4.out _ ?_) ?_) | (with_reducible refine Calls.mono (U6.out _ ?_) ?_) | (with_reducible refine Calls.mono (U8.out _ ?_) ?_) | (with_reducible refine Calls.mono (U10.out _ ?_) ?_) | (with_reducible refine Calls.mono (U12.out _ ?_) ?_) | (with_reducible refine Calls.mono (U28.out _ ?_) ?_) | (with_reducible refine Calls.mono (U30.out _ ?_) ?_)); (focus (repeat (first | with_reducible (exact Since.refl _) | with_reducible assumption | with_reducible (refine Since.drew ?_) | with_reducible (refine Since.drewN ?_ _) | with_reducible (refine Since.alloc ?_ _) | (with_reducible (refine Since.setCell ?_ ?_ _); rotate_left; focus (first | (simp; done) | (simp; omega) | omega)) | (with_reducible (refine Since.trans ?_ (by with_reducible assumption)))))); rintro e w1 ⟨rfl, rfl⟩)
    refine bodyPost_ret (v := .tuple #[.agg #[.int .i64 y4, .int .i64 y6, .int .i64 y8, .int .i64 y10, .int .i64 y12, .int .i64 y28, .int .i64 y30], .int .i64 0]) (by simp only [results, Tryz.results100]; go_simp) rfl ?_
    exact G.out _ (by (repeat (first | with_reducible (exact Since.refl _) | with_reducible assumption | with_reducible (refine Since.drew ?_) | with_reducible (refine Since.drewN ?_ _) | with_reducible (refine Since.alloc ?_ _) | (with_reducible (refine Since.setCell ?_ ?_ _); rotate_left; focus (first | (simp; done) | (simp; omega) | omega)) | (with_reducible (refine Since.trans ?_ (by with_reducible assumption))))))
set_option maxRecDepth 100000 in
set_option maxHeartbeats 8000000 in
theorem rf_maxp (A : Option Addr) (n c : Nat) (f : Nat → Int) (w : World) (h : Rd w w.heap.size A n (U8 f)) (hf : ∀ j, j < n → 0 ≤ f j ∧ f j ≤ 255) (hn : n ≤ 140737488355328) :
    Calls Tryz.prog 30 #[.slice A n c] w (MxPost f n w) := by
  have hn' : (n : Int) ≤ 140737488355328 := by omega
  by_cases h1 : n < 32
  · have E := Lib.hid (show mxE f n = 3 by unfold mxE; rw [if_pos h1])
    have h1' : (n : Int) < 32 := by omega
    clear h
    go_enter Tryz.func30, Tryz.ntmps30
    go_wp2
    refine bodyPost_ret (v := .tuple #[.agg #[.int .i64 0, .int .i64 0, .int .i64 0, .int .i64 0, .int .i64 0, .int .i64 0, .int .i64 0], .int .i64 3]) (by simp only [results, Tryz.results30]; go_simp) rfl ?_
    exact mx_bad E.out (by decide) (by (repeat (first | with_reducible (exact Since.refl _) | with_reducible assumption | with_reducible (refine Since.drew ?_) | with_reducible (refine Since.drewN ?_ _) | with_reducible (refine Since.alloc ?_ _) | (with_reducible (refine Since.setCell ?_ ?_ _); rotate_left; focus (first | (simp; done) | (simp; omega) | omega)) | (with_reducible (refine Since.trans ?_ (by with_reducible assumption))))))
  have h1' : (32 : Int) ≤ n := by omega
  have u0 : ∀ w1, Since w w1 → Calls Tryz.prog 70 #[.slice A n c, .int .i64 0] w1 fun e w' => e = .returned (.int .i64 (numAt f 0 2)) ∧ w' = w1 := fun w1 hS => rf_at A n c f 0 0 w1 (h.on hS) hf rfl (by omega) hn
  have u2 : ∀ w1, Since w w1 → Calls Tryz.prog 70 #[.slice A n c, .int .i64 2] w1 fun e w' => e = .returned (.int .i64 (numAt f 2 2)) ∧ w' = w1 := fun w1 hS => rf_at A n c f 2 2 w1 (h.on hS) hf rfl (by omega) hn
  have u4 : ∀ w1, Since w w1 → Calls Tryz.prog 70 #[.slice A n c, .int .i64 4] w1 fun e w' => e = .returned (.int .i64 (numAt f 4 2)) ∧ w' = w1 := fun w1 hS => rf_at A n c f 4 4 w1 (h.on hS) hf rfl (by omega) hn
  have u6 : ∀ w1, Since w w1 → Calls Tryz.prog 70 #[.slice A n c, .int .i64 6] w1 fun e w' => e = .returned (.int .i64 (numAt f 6 2)) ∧ w' = w1 := fun w1 hS => rf_at A n c f 6 6 w1 (h.on hS) hf rfl (by omega) hn
  have u8 : ∀ w1, Since w w1 → Calls Tryz.prog 70 #[.slice A n c, .int .i64 8] w1 fun e w' => e = .returned (.int .i64 (numAt f 8 2)) ∧ w' = w1 := fun w1 hS => rf_at A n c f 8 8 w1 (h.on hS) hf rfl (by omega) hn
  have u10 : ∀ w1, Since w w1 → Calls Tryz.prog 70 #[.slice A n c, .int .i64 10] w1 fun e w' => e = .returned (.int .i64 (numAt f 10 2)) ∧ w' = w1 := fun w1 hS => rf_at A n c f 10 10 w1 (h.on hS) hf rfl (by omega) hn
  have u12 : ∀ w1, Since w w1 → Calls Tryz.prog 70 #[.slice A n c, .int .i64 12] w1 fun e w' => e = .returned (.int .i64 (numAt f 12 2)) ∧ w' = w1 := fun w1 hS => rf_at A n c f 12 12 w1 (h.on hS) hf rfl (by omega) hn
  have u28 : ∀ w1, Since w w1 → Calls Tryz.prog 70 #[.slice A n c, .int .i64 28] w1 fun e w' => e = .returned (.int .i64 (numAt f 28 2)) ∧ w' = w1 := fun w1 hS => rf_at A n c f 28 28 w1 (h.on hS) hf rfl (by omega) hn
  have u30 : ∀ w1, Since w w1 → Calls Tryz.prog 70 #[.slice A n c, .int .i64 30] w1 fun e w' => e = .returned (.int .i64 (numAt f 30 2)) ∧ w' = w1 := fun w1 hS => rf_at A n c f 30 30 w1 (h.on hS) hf rfl (by omega) hn
  have q0 : 0 ≤ numAt f 0 2 := by have := numAt_range (f := f) (p := 0) (k := 2) (fun i hi => hf i (by omega)); simp only [Int.reducePow] at this; omega
  have q2 : 0 ≤ numAt f 2 2 ∧ numAt f 2 2 ≤ 65535 := by have := numAt_range (f := f) (p := 2) (k := 2) (fun i hi => hf i (by omega)); simp only [Int.reducePow] at this; omega
  have h4 : numAt f 0 4 = 65536 * numAt f 0 2 + numAt f 2 2 := num_four f 0
  have hE : mxE f n = if numAt f 0 4 ≠ 65536 then 4 else 0 := by unfold mxE; rw [if_neg h1]
  rw [h4] at hE
  have HG : ∀ w', Since w w' → mxE f n = 0 → MxPost f n w _ w' := fun w' hS h0 => mx_good h0 hS
  clear h h4
  generalize numAt f 4 2 = y4 at *
  generalize numAt f 6 2 = y6 at *
  generalize numAt f 8 2 = y8 at *
  generalize numAt f 10 2 = y10 at *
  generalize numAt f 12 2 = y12 at *
  generalize numAt f 28 2 = y28 at *
  generalize numAt f 30 2 = y30 at *
  generalize numAt f 0 2 = x0 at *
  generalize numAt f 2 2 = x2 at *
  have U0 := Lib.hid u0
  have U2 := Lib.hid u2
  have U4 := Lib.hid u4
  have U6 := Lib.hid u6
  have U8 := Lib.hid u8
  have U10 := Lib.hid u10
  have U12 := Lib.hid u12
  have U28 := Lib.hid u28
  have U30 := Lib.hid u30
  clear u0 u2 u4 u6 u8 u10 u12 u28 u30
  by_cases hb : 65536 * x0 + x2 ≠ 65536
  · have E := Lib.hid (show mxE f n = 4 by rw [hE, if_pos hb])
    have hb2 : x0 ≠ 1 ∨ (x0 = 1 ∧ x2 ≠ 0) := by omega
    clear hE HG hb
    rcases hb2 with hb | ⟨rfl, hb⟩
    · have d0 : (x0 != 1) = true := by simpa using hb
      go_enter Tryz.func30, Tryz.ntmps30
      go_wp2_with (go_at_call 70; (first | (with_reducible refine Calls.mono (U0.out _ ?_) ?_) | (with_reducible refine Calls.mono (U2.out _ ?_) ?_)); (focus (repeat (first | with_reducible (exact Since.refl _) | with_reducible assumption | with_reducible (refine Since.drew ?_) | with_reducible (refine Since.drewN ?_ _) | with_reducible (refine Since.alloc ?_ _) | (with_reducible (refine Since.setCell ?_ ?_ _); rotate_left; focus (first | (simp; done) | (simp; omega) | omega)) | (with_reducible (refine Since.trans ?_ (by with_reducible assumption)))))); rintro e w1 ⟨rfl, rfl⟩)
      refine bodyPost_ret (v := .tuple #[.agg #[.int .i64 0, .int .i64 0, .int .i64 0, .int .i64 0, .int .i64 0, .int .i64 0, .int .i64 0], .int .i64 4]) (by simp only [results, Tryz.results30]; go_simp) rfl ?_
      exact mx_bad E.out (by decide) (by (repeat (first | with_reducible (exact Since.refl _) | with_reducible assumption | with_reducible (refine Since.drew ?_) | with_reducible (refine Since.drewN ?_ _) | with_reducible (refine Since.alloc ?_ _) | (with_reducible (refine Since.setCell ?_ ?_ _); rotate_left; focus (first | (simp; done) | (simp; omega) | omega)) | (with_reducible (refine Since.trans ?_ (by with_reducible assumption))))))
    · have d0 : (x2 != 0) = true := by simpa using hb
      go_enter Tryz.func30, Tryz.ntmps30
      go_wp2_with (go_at_call 70; (first | (with_reducible refine Calls.mono (U0.out _ ?_) ?_) | (with_reducible refine Calls.mono (U2.out _ ?_) ?_)); (focus (repeat (first | with_reducible (exact Since.refl _) | with_reducible assumption | with_reducible (refine Since.drew ?_) | with_reducible (refine Since.drewN ?_ _) | with_reducible (refine Since.alloc ?_ _) | (with_reducible (refine Since.setCell ?_ ?_ _); rotate_left; focus (first | (simp; done) | (simp; omega) | omega)) | (with_reducible (refine Since.trans ?_ (by with_reducible assumption)))))); rintro e w1 ⟨rfl, rfl⟩)
      refine bodyPost_ret (v := .tuple #[.agg #[.int .i64 0, .int .i64 0, .int .i64 0, .int .i64 0, .int .i64 0, .int .i64 0, .int .i64 0], .int .i64 4]) (by simp only [results, Tryz.results30]; go_simp) rfl ?_
      exact mx_bad E.out (by decide) (by (repeat (first | with_reducible (exact Since.refl _) | with_reducible assumption | with_reducible (refine Since.drew ?_) | with_reducible (refine Since.drewN ?_ _) | with_reducible (refine Since.alloc ?_ _) | (with_reducible (refine Since.setCell ?_ ?_ _); rotate_left; focus (first | (simp; done) | (simp; omega) | omega)) | (with_reducible (refine Since.trans ?_ (by with_reducible assumption))))))
  · have G := Lib.hid (fun w' (hS : Since w w') => HG w' hS (by rw [hE, if_neg hb]))
    obtain ⟨rfl, rfl⟩ : x0 = 1 ∧ x2 = 0 := by omega
    clear hE HG hb
    go_enter Tryz.func30, Tryz.ntmps30
    go_wp2_with (go_at_call 70; (first | (with_reducible refine Calls.mono (U0.out _ ?_) ?_) | (with_reducible refine Calls.mono (U2.out _ ?_) ?_) | (with_reducible refine Calls.mono (U4.out _ ?_) ?_) | (with_reducible refine Calls.mono (U6.out _ ?_) ?_) | (with_reducible refine Calls.mono (U8.out _ ?_) ?_) | (with_reducible refine Calls.mono (U10.out _ ?_) ?_) | (with_reducible refine Calls.mono (U12.out _ ?_) ?_) | (with_reducible refine Calls.mono (U28.out _ ?_) ?_) | (with_reducible refine Calls.mono (U30.out _ ?_) ?_)); (focus (repeat (first | with_reducible (exact Since.refl _) | with_reducible assumption | with_reducible (refine Since.drew ?_) | with_reducible (refine Since.drewN ?_ _) | with_reducible (refine Since.alloc ?_ _) | (with_reducible (refine Since.setCell ?_ ?_ _); rotate_left; focus (first | (simp; done) | (simp; omega) | omega)) | (with_reducible (refine Since.trans ?_ (by with_reducible assumption)))))); rintro e w1 ⟨rfl, rfl⟩)
    refine bodyPost_ret (v := .tuple #[.agg #[.int .i64 y4, .int .i64 y6, .int .i64 y8, .int .i64 y10, .int .i64 y12, .int .i64 y28, .int .i64 y30], .int .i64 0]) (by simp only [results, Tryz.results30]; go_simp) rfl ?_
    exact G.out _ (by (repeat (first | with_reducible (exact Since.refl _) | with_reducible assumption | with_reducible (refine Since.drew ?_) | with_reducible (refine Since.drewN ?_ _) | with_reducible (refine Since.alloc ?_ _) | (with_reducible (refine Since.setCell ?_ ?_ _); rotate_left; focus (first | (simp; done) | (simp; omega) | omega)) | (with_reducible (refine Since.trans ?_ (by with_reducible assumption))))))

def ctE (f : Nat → Int) (n : Nat) : Int := if n < 36 then 3 else if numAt f 34 2 = 0 then 4 else 0
def ctN (f : Nat → Int) (n : Nat) : Int := if ctE f n = 0 then numAt f 34 2 else 0
set_option maxHeartbeats 4000000 in
theorem hd_count (A : Option Addr) (n c : Nat) (f : Nat → Int) (w : World) (h : Rd w w.heap.size A n (U8 f)) (hf : ∀ j, j < n → 0 ≤ f j ∧ f j ≤ 255) (hn : n ≤ 140737488355328) :
    Calls Tryz.prog 101 #[.slice A n c] w fun e w' => e = .returned (.tuple #[.int .i64 (ctN f n), .int .i64 (ctE f n)]) ∧ Since w w' := by
  have hn' : (n : Int) ≤ 140737488355328 := by omega
  by_cases h1 : n < 36
  · have e : ctE f n = 3 := by unfold ctE; rw [if_pos h1]
    have e' : ctN f n = 0 := by unfold ctN; rw [e]; rfl
    rw [e, e']
    have h1' : (n : Int) < 36 := by omega
    clear h e e'
    go_enter Tryz.func101, Tryz.ntmps101
    go_wp2
    go_ret2
    exact ⟨rfl, Since.refl _⟩
  have h1' : (36 : Int) ≤ n := by omega
  have u34 : ∀ w1, Since w w1 → Calls Tryz.prog 97 #[.slice A n c, .int .i64 34, .int .i64 2] w1 fun e w' => e = .returned (.tuple #[.int .i64 (numAt f 34 2), .int .i64 0]) ∧ w' = w1 := fun w1 hS => u_in A n c f 34 2 34 2 w1 (h.on hS) hf rfl rfl (by omega) (by omega) hn
  have e : ctE f n = if numAt f 34 2 = 0 then 4 else 0 := by unfold ctE; rw [if_neg h1]
  have e' : ctN f n = if ctE f n = 0 then numAt f 34 2 else 0 := rfl
  clear h
  generalize numAt f 34 2 = x at *
  have U34 := Lib.hid u34
  clear u34
  by_cases hx : x = 0
  · rw [if_pos hx] at e
    rw [e, if_neg (by decide)] at e'
    rw [e, e']
    have d0 : (x == 0) = true := by simpa using hx
    clear e e' hx
    go_enter Tryz.func101, Tryz.ntmps101
    go_wp2_with (go_at_call 97; (first | (with_reducible refine Calls.mono (U34.out _ ?_) ?_)); (focus (repeat (first | with_reducible (exact Since.refl _) | with_reducible assumption | with_reducible (refine Since.drew ?_) | with_reducible (refine Since.drewN ?_ _) | with_reducible (refine Since.alloc ?_ _) | (with_reducible (refine Since.setCell ?_ ?_ _); rotate_left; focus (first | (simp; done) | (simp; omega) | omega)) | (with_reducible (refine Since.trans ?_ (by with_reducible assumption)))))); rintro e w1 ⟨rfl, rfl⟩)
    go_ret2
    exact ⟨rfl, Since.refl _⟩
  · rw [if_neg hx] at e
    rw [e, if_pos rfl] at e'
    rw [e, e']
    have d0 : (x == 0) = false := by simpa using hx
    clear e e'
    go_enter Tryz.func101, Tryz.ntmps101
    go_wp2_with (go_at_call 97; (first | (with_reducible refine Calls.mono (U34.out _ ?_) ?_)); (focus (repeat (first | with_reducible (exact Since.refl _) | with_reducible assumption | with_reducible (refine Since.drew ?_) | with_reducible (refine Since.drewN ?_ _) | with_reducible (refine Since.alloc ?_ _) | (with_reducible (refine Since.setCell ?_ ?_ _); rotate_left; focus (first | (simp; done) | (simp; omega) | omega)) | (with_reducible (refine Since.trans ?_ (by with_reducible assumption)))))); rintro e w1 ⟨rfl, rfl⟩)
    go_ret2
    exact ⟨rfl, Since.refl _⟩
set_option maxHeartbeats 4000000 in
theorem rf_count (A : Option Addr) (n c : Nat) (f : Nat → Int) (w : World) (h : Rd w w.heap.size A n (U8 f)) (hf : ∀ j, j < n → 0 ≤ f j ∧ f j ≤ 255) (hn : n ≤ 140737488355328) :
    Calls Tryz.prog 31 #[.slice A n c] w fun e w' => e = .returned (.tuple #[.int .i64 (ctN f n), .int .i64 (ctE f n)]) ∧ Since w w' := by
  have hn' : (n : Int) ≤ 140737488355328 := by omega
  by_cases h1 : n < 36
  · have e : ctE f n = 3 := by unfold ctE; rw [if_pos h1]
    have e' : ctN f n = 0 := by unfold ctN; rw [e]; rfl
    rw [e, e']
    have h1' : (n : Int) < 36 := by omega
    clear h e e'
    go_enter Tryz.func31, Tryz.ntmps31
    go_wp2
    go_ret2
    exact ⟨rfl, Since.refl _⟩
  have h1' : (36 : Int) ≤ n := by omega
  have u34 : ∀ w1, Since w w1 → Calls Tryz.prog 70 #[.slice A n c, .int .i64 34] w1 fun e w' => e = .returned (.int .i64 (numAt f 34 2)) ∧ w' = w1 := fun w1 hS => rf_at A n c f 34 34 w1 (h.on hS) hf rfl (by omega) hn
  have e : ctE f n = if numAt f 34 2 = 0 then 4 else 0 := by unfold ctE; rw [if_neg h1]
  have e' : ctN f n = if ctE f n = 0 then numAt f 34 2 else 0 := rfl
  clear h
  generalize numAt f 34 2 = x at *
  have U34 := Lib.hid u34
  clear u34
  by_cases hx : x = 0
  · rw [if_pos hx] at e
    rw [e, if_neg (by decide)] at e'
    rw [e, e']
    have d0 : (x == 0) = true := by simpa using hx
    clear e e' hx
    go_enter Tryz.func31, Tryz.ntmps31
    go_wp2_with (go_at_call 70; (first | (with_reducible refine Calls.mono (U34.out _ ?_) ?_)); (focus (repeat (first | with_reducible (exact Since.refl _) | with_reducible assumption | with_reducible (refine Since.drew ?_) | with_reducible (refine Since.drewN ?_ _) | with_reducible (refine Since.alloc ?_ _) | (with_reducible (refine Since.setCell ?_ ?_ _); rotate_left; focus (first | (simp; done) | (simp; omega) | omega)) | (with_reducible (refine Since.trans ?_ (by with_reducible assumption)))))); rintro e w1 ⟨rfl, rfl⟩)
    go_ret2
    exact ⟨rfl, Since.refl _⟩
  · rw [if_neg hx] at e
    rw [e, if_pos rfl] at e'
    rw [e, e']
    have d0 : (x == 0) = false := by simpa using hx
    clear e e'
    go_enter Tryz.func31, Tryz.ntmps31
    go_wp2_with (go_at_call 70; (first | (with_reducible refine Calls.mono (U34.out _ ?_) ?_)); (focus (repeat (first | with_reducible (exact Since.refl _) | with_reducible assumption | with_reducible (refine Since.drew ?_) | with_reducible (refine Since.drewN ?_ _) | with_reducible (refine Since.alloc ?_ _) | (with_reducible (refine Since.setCell ?_ ?_ _); rotate_left; focus (first | (simp; done) | (simp; omega) | omega)) | (with_reducible (refine Since.trans ?_ (by with_reducible assumption)))))); rintro e w1 ⟨rfl, rfl⟩)
    go_ret2
    exact ⟨rfl, Since.refl _⟩

end Go.Proofs.YteckkcpnfeoehaaGreatDoor

/-
  Layer 5: 'PutMaxp', walked, program and reference.
-/
namespace Go.Proofs.YteckkcpnfeoehaaGreatDoor
set_option maxRecDepth 100000
open Go.RowKit
set_option linter.unusedVariables false

end Go.Proofs.YteckkcpnfeoehaaGreatDoor
