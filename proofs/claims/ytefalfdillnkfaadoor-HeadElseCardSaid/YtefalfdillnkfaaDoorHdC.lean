/-
  Layer 5: numbers put into a head; what 'PutHead' leaves.
-/
import Derived.Test.YtefalfdillnkfaaDoorHdB
namespace Go.Proofs.YtefalfdillnkfaaDoor
open Go.RowKit
set_option linter.unusedVariables false

def PutQ (n p : Nat) (f : Nat → Int) (y : Int) (w0 w1 : World) (e : Ending) (w' : World) : Prop := ∃ A' c', e = .returned (.slice A' n c') ∧ n ≤ c' ∧ Nw w' w0.heap.size A' n (U8 (lay2 f p y)) ∧ Since w0 w' ∧ Since w1 w'

theorem hd_put18 (A : Option Addr) (n c : Nat) (f : Nat → Int) (y : Int) (w w0 : World) (hS0 : Since w0 w) (hy : In64 y) (h : Rd w w.heap.size A n (U8 f)) (hp : 18 + 2 ≤ n) (hn : n ≤ 140737488355328) : Calls Tryd.prog 27 #[.slice A n c, .int .i64 18, .int .i64 y] w (PutQ n 18 f y w0 w) :=
  (hd_put A n c f 18 18 y w h rfl hy hp hn).mono fun _ _ ⟨A', c', h1, h2, h3, h4⟩ => ⟨A', c', h1, h2, h3.low hS0.below.size, hS0.trans h4, h4⟩
theorem rf_lay18 (A : Option Addr) (n c : Nat) (f : Nat → Int) (y : Int) (w w0 : World) (hS0 : Since w0 w) (hy : In64 y) (h : Rd w w.heap.size A n (U8 f)) (hp : 18 + 2 ≤ n) (hn : n ≤ 140737488355328) : Calls Tryd.prog 29 #[.slice A n c, .int .i64 18, .int .i64 y] w (PutQ n 18 f y w0 w) :=
  (rf_lay A n c f 18 18 y w h rfl hy hp hn).mono fun _ _ ⟨A', c', h1, h2, h3, h4⟩ => ⟨A', c', h1, h2, h3.low hS0.below.size, hS0.trans h4, h4⟩

theorem hd_put36 (A : Option Addr) (n c : Nat) (f : Nat → Int) (y : Int) (w w0 : World) (hS0 : Since w0 w) (hy : In64 y) (h : Rd w w.heap.size A n (U8 f)) (hp : 36 + 2 ≤ n) (hn : n ≤ 140737488355328) : Calls Tryd.prog 27 #[.slice A n c, .int .i64 36, .int .i64 y] w (PutQ n 36 f y w0 w) :=
  (hd_put A n c f 36 36 y w h rfl hy hp hn).mono fun _ _ ⟨A', c', h1, h2, h3, h4⟩ => ⟨A', c', h1, h2, h3.low hS0.below.size, hS0.trans h4, h4⟩
theorem rf_lay36 (A : Option Addr) (n c : Nat) (f : Nat → Int) (y : Int) (w w0 : World) (hS0 : Since w0 w) (hy : In64 y) (h : Rd w w.heap.size A n (U8 f)) (hp : 36 + 2 ≤ n) (hn : n ≤ 140737488355328) : Calls Tryd.prog 29 #[.slice A n c, .int .i64 36, .int .i64 y] w (PutQ n 36 f y w0 w) :=
  (rf_lay A n c f 36 36 y w h rfl hy hp hn).mono fun _ _ ⟨A', c', h1, h2, h3, h4⟩ => ⟨A', c', h1, h2, h3.low hS0.below.size, hS0.trans h4, h4⟩

theorem hd_put38 (A : Option Addr) (n c : Nat) (f : Nat → Int) (y : Int) (w w0 : World) (hS0 : Since w0 w) (hy : In64 y) (h : Rd w w.heap.size A n (U8 f)) (hp : 38 + 2 ≤ n) (hn : n ≤ 140737488355328) : Calls Tryd.prog 27 #[.slice A n c, .int .i64 38, .int .i64 y] w (PutQ n 38 f y w0 w) :=
  (hd_put A n c f 38 38 y w h rfl hy hp hn).mono fun _ _ ⟨A', c', h1, h2, h3, h4⟩ => ⟨A', c', h1, h2, h3.low hS0.below.size, hS0.trans h4, h4⟩
theorem rf_lay38 (A : Option Addr) (n c : Nat) (f : Nat → Int) (y : Int) (w w0 : World) (hS0 : Since w0 w) (hy : In64 y) (h : Rd w w.heap.size A n (U8 f)) (hp : 38 + 2 ≤ n) (hn : n ≤ 140737488355328) : Calls Tryd.prog 29 #[.slice A n c, .int .i64 38, .int .i64 y] w (PutQ n 38 f y w0 w) :=
  (rf_lay A n c f 38 38 y w h rfl hy hp hn).mono fun _ _ ⟨A', c', h1, h2, h3, h4⟩ => ⟨A', c', h1, h2, h3.low hS0.below.size, hS0.trans h4, h4⟩

theorem hd_put40 (A : Option Addr) (n c : Nat) (f : Nat → Int) (y : Int) (w w0 : World) (hS0 : Since w0 w) (hy : In64 y) (h : Rd w w.heap.size A n (U8 f)) (hp : 40 + 2 ≤ n) (hn : n ≤ 140737488355328) : Calls Tryd.prog 27 #[.slice A n c, .int .i64 40, .int .i64 y] w (PutQ n 40 f y w0 w) :=
  (hd_put A n c f 40 40 y w h rfl hy hp hn).mono fun _ _ ⟨A', c', h1, h2, h3, h4⟩ => ⟨A', c', h1, h2, h3.low hS0.below.size, hS0.trans h4, h4⟩
theorem rf_lay40 (A : Option Addr) (n c : Nat) (f : Nat → Int) (y : Int) (w w0 : World) (hS0 : Since w0 w) (hy : In64 y) (h : Rd w w.heap.size A n (U8 f)) (hp : 40 + 2 ≤ n) (hn : n ≤ 140737488355328) : Calls Tryd.prog 29 #[.slice A n c, .int .i64 40, .int .i64 y] w (PutQ n 40 f y w0 w) :=
  (rf_lay A n c f 40 40 y w h rfl hy hp hn).mono fun _ _ ⟨A', c', h1, h2, h3, h4⟩ => ⟨A', c', h1, h2, h3.low hS0.below.size, hS0.trans h4, h4⟩

theorem hd_put42 (A : Option Addr) (n c : Nat) (f : Nat → Int) (y : Int) (w w0 : World) (hS0 : Since w0 w) (hy : In64 y) (h : Rd w w.heap.size A n (U8 f)) (hp : 42 + 2 ≤ n) (hn : n ≤ 140737488355328) : Calls Tryd.prog 27 #[.slice A n c, .int .i64 42, .int .i64 y] w (PutQ n 42 f y w0 w) :=
  (hd_put A n c f 42 42 y w h rfl hy hp hn).mono fun _ _ ⟨A', c', h1, h2, h3, h4⟩ => ⟨A', c', h1, h2, h3.low hS0.below.size, hS0.trans h4, h4⟩
theorem rf_lay42 (A : Option Addr) (n c : Nat) (f : Nat → Int) (y : Int) (w w0 : World) (hS0 : Since w0 w) (hy : In64 y) (h : Rd w w.heap.size A n (U8 f)) (hp : 42 + 2 ≤ n) (hn : n ≤ 140737488355328) : Calls Tryd.prog 29 #[.slice A n c, .int .i64 42, .int .i64 y] w (PutQ n 42 f y w0 w) :=
  (rf_lay A n c f 42 42 y w h rfl hy hp hn).mono fun _ _ ⟨A', c', h1, h2, h3, h4⟩ => ⟨A', c', h1, h2, h3.low hS0.below.size, hS0.trans h4, h4⟩

theorem hd_put50 (A : Option Addr) (n c : Nat) (f : Nat → Int) (y : Int) (w w0 : World) (hS0 : Since w0 w) (hy : In64 y) (h : Rd w w.heap.size A n (U8 f)) (hp : 50 + 2 ≤ n) (hn : n ≤ 140737488355328) : Calls Tryd.prog 27 #[.slice A n c, .int .i64 50, .int .i64 y] w (PutQ n 50 f y w0 w) :=
  (hd_put A n c f 50 50 y w h rfl hy hp hn).mono fun _ _ ⟨A', c', h1, h2, h3, h4⟩ => ⟨A', c', h1, h2, h3.low hS0.below.size, hS0.trans h4, h4⟩
theorem rf_lay50 (A : Option Addr) (n c : Nat) (f : Nat → Int) (y : Int) (w w0 : World) (hS0 : Since w0 w) (hy : In64 y) (h : Rd w w.heap.size A n (U8 f)) (hp : 50 + 2 ≤ n) (hn : n ≤ 140737488355328) : Calls Tryd.prog 29 #[.slice A n c, .int .i64 50, .int .i64 y] w (PutQ n 50 f y w0 w) :=
  (rf_lay A n c f 50 50 y w h rfl hy hp hn).mono fun _ _ ⟨A', c', h1, h2, h3, h4⟩ => ⟨A', c', h1, h2, h3.low hS0.below.size, hS0.trans h4, h4⟩

theorem hd_put4 (A : Option Addr) (n c : Nat) (f : Nat → Int) (y : Int) (w w0 : World) (hS0 : Since w0 w) (hy : In64 y) (h : Rd w w.heap.size A n (U8 f)) (hp : 4 + 2 ≤ n) (hn : n ≤ 140737488355328) : Calls Tryd.prog 27 #[.slice A n c, .int .i64 4, .int .i64 y] w (PutQ n 4 f y w0 w) :=
  (hd_put A n c f 4 4 y w h rfl hy hp hn).mono fun _ _ ⟨A', c', h1, h2, h3, h4⟩ => ⟨A', c', h1, h2, h3.low hS0.below.size, hS0.trans h4, h4⟩
theorem rf_lay4 (A : Option Addr) (n c : Nat) (f : Nat → Int) (y : Int) (w w0 : World) (hS0 : Since w0 w) (hy : In64 y) (h : Rd w w.heap.size A n (U8 f)) (hp : 4 + 2 ≤ n) (hn : n ≤ 140737488355328) : Calls Tryd.prog 29 #[.slice A n c, .int .i64 4, .int .i64 y] w (PutQ n 4 f y w0 w) :=
  (rf_lay A n c f 4 4 y w h rfl hy hp hn).mono fun _ _ ⟨A', c', h1, h2, h3, h4⟩ => ⟨A', c', h1, h2, h3.low hS0.below.size, hS0.trans h4, h4⟩

theorem hd_put6 (A : Option Addr) (n c : Nat) (f : Nat → Int) (y : Int) (w w0 : World) (hS0 : Since w0 w) (hy : In64 y) (h : Rd w w.heap.size A n (U8 f)) (hp : 6 + 2 ≤ n) (hn : n ≤ 140737488355328) : Calls Tryd.prog 27 #[.slice A n c, .int .i64 6, .int .i64 y] w (PutQ n 6 f y w0 w) :=
  (hd_put A n c f 6 6 y w h rfl hy hp hn).mono fun _ _ ⟨A', c', h1, h2, h3, h4⟩ => ⟨A', c', h1, h2, h3.low hS0.below.size, hS0.trans h4, h4⟩
theorem rf_lay6 (A : Option Addr) (n c : Nat) (f : Nat → Int) (y : Int) (w w0 : World) (hS0 : Since w0 w) (hy : In64 y) (h : Rd w w.heap.size A n (U8 f)) (hp : 6 + 2 ≤ n) (hn : n ≤ 140737488355328) : Calls Tryd.prog 29 #[.slice A n c, .int .i64 6, .int .i64 y] w (PutQ n 6 f y w0 w) :=
  (rf_lay A n c f 6 6 y w h rfl hy hp hn).mono fun _ _ ⟨A', c', h1, h2, h3, h4⟩ => ⟨A', c', h1, h2, h3.low hS0.below.size, hS0.trans h4, h4⟩

theorem hd_put8 (A : Option Addr) (n c : Nat) (f : Nat → Int) (y : Int) (w w0 : World) (hS0 : Since w0 w) (hy : In64 y) (h : Rd w w.heap.size A n (U8 f)) (hp : 8 + 2 ≤ n) (hn : n ≤ 140737488355328) : Calls Tryd.prog 27 #[.slice A n c, .int .i64 8, .int .i64 y] w (PutQ n 8 f y w0 w) :=
  (hd_put A n c f 8 8 y w h rfl hy hp hn).mono fun _ _ ⟨A', c', h1, h2, h3, h4⟩ => ⟨A', c', h1, h2, h3.low hS0.below.size, hS0.trans h4, h4⟩
theorem rf_lay8 (A : Option Addr) (n c : Nat) (f : Nat → Int) (y : Int) (w w0 : World) (hS0 : Since w0 w) (hy : In64 y) (h : Rd w w.heap.size A n (U8 f)) (hp : 8 + 2 ≤ n) (hn : n ≤ 140737488355328) : Calls Tryd.prog 29 #[.slice A n c, .int .i64 8, .int .i64 y] w (PutQ n 8 f y w0 w) :=
  (rf_lay A n c f 8 8 y w h rfl hy hp hn).mono fun _ _ ⟨A', c', h1, h2, h3, h4⟩ => ⟨A', c', h1, h2, h3.low hS0.below.size, hS0.trans h4, h4⟩

theorem hd_put10 (A : Option Addr) (n c : Nat) (f : Nat → Int) (y : Int) (w w0 : World) (hS0 : Since w0 w) (hy : In64 y) (h : Rd w w.heap.size A n (U8 f)) (hp : 10 + 2 ≤ n) (hn : n ≤ 140737488355328) : Calls Tryd.prog 27 #[.slice A n c, .int .i64 10, .int .i64 y] w (PutQ n 10 f y w0 w) :=
  (hd_put A n c f 10 10 y w h rfl hy hp hn).mono fun _ _ ⟨A', c', h1, h2, h3, h4⟩ => ⟨A', c', h1, h2, h3.low hS0.below.size, hS0.trans h4, h4⟩
theorem rf_lay10 (A : Option Addr) (n c : Nat) (f : Nat → Int) (y : Int) (w w0 : World) (hS0 : Since w0 w) (hy : In64 y) (h : Rd w w.heap.size A n (U8 f)) (hp : 10 + 2 ≤ n) (hn : n ≤ 140737488355328) : Calls Tryd.prog 29 #[.slice A n c, .int .i64 10, .int .i64 y] w (PutQ n 10 f y w0 w) :=
  (rf_lay A n c f 10 10 y w h rfl hy hp hn).mono fun _ _ ⟨A', c', h1, h2, h3, h4⟩ => ⟨A', c', h1, h2, h3.low hS0.below.size, hS0.trans h4, h4⟩

theorem hd_put12 (A : Option Addr) (n c : Nat) (f : Nat → Int) (y : Int) (w w0 : World) (hS0 : Since w0 w) (hy : In64 y) (h : Rd w w.heap.size A n (U8 f)) (hp : 12 + 2 ≤ n) (hn : n ≤ 140737488355328) : Calls Tryd.prog 27 #[.slice A n c, .int .i64 12, .int .i64 y] w (PutQ n 12 f y w0 w) :=
  (hd_put A n c f 12 12 y w h rfl hy hp hn).mono fun _ _ ⟨A', c', h1, h2, h3, h4⟩ => ⟨A', c', h1, h2, h3.low hS0.below.size, hS0.trans h4, h4⟩
theorem rf_lay12 (A : Option Addr) (n c : Nat) (f : Nat → Int) (y : Int) (w w0 : World) (hS0 : Since w0 w) (hy : In64 y) (h : Rd w w.heap.size A n (U8 f)) (hp : 12 + 2 ≤ n) (hn : n ≤ 140737488355328) : Calls Tryd.prog 29 #[.slice A n c, .int .i64 12, .int .i64 y] w (PutQ n 12 f y w0 w) :=
  (rf_lay A n c f 12 12 y w h rfl hy hp hn).mono fun _ _ ⟨A', c', h1, h2, h3, h4⟩ => ⟨A', c', h1, h2, h3.low hS0.below.size, hS0.trans h4, h4⟩

theorem hd_put28 (A : Option Addr) (n c : Nat) (f : Nat → Int) (y : Int) (w w0 : World) (hS0 : Since w0 w) (hy : In64 y) (h : Rd w w.heap.size A n (U8 f)) (hp : 28 + 2 ≤ n) (hn : n ≤ 140737488355328) : Calls Tryd.prog 27 #[.slice A n c, .int .i64 28, .int .i64 y] w (PutQ n 28 f y w0 w) :=
  (hd_put A n c f 28 28 y w h rfl hy hp hn).mono fun _ _ ⟨A', c', h1, h2, h3, h4⟩ => ⟨A', c', h1, h2, h3.low hS0.below.size, hS0.trans h4, h4⟩
theorem rf_lay28 (A : Option Addr) (n c : Nat) (f : Nat → Int) (y : Int) (w w0 : World) (hS0 : Since w0 w) (hy : In64 y) (h : Rd w w.heap.size A n (U8 f)) (hp : 28 + 2 ≤ n) (hn : n ≤ 140737488355328) : Calls Tryd.prog 29 #[.slice A n c, .int .i64 28, .int .i64 y] w (PutQ n 28 f y w0 w) :=
  (rf_lay A n c f 28 28 y w h rfl hy hp hn).mono fun _ _ ⟨A', c', h1, h2, h3, h4⟩ => ⟨A', c', h1, h2, h3.low hS0.below.size, hS0.trans h4, h4⟩

theorem hd_put30 (A : Option Addr) (n c : Nat) (f : Nat → Int) (y : Int) (w w0 : World) (hS0 : Since w0 w) (hy : In64 y) (h : Rd w w.heap.size A n (U8 f)) (hp : 30 + 2 ≤ n) (hn : n ≤ 140737488355328) : Calls Tryd.prog 27 #[.slice A n c, .int .i64 30, .int .i64 y] w (PutQ n 30 f y w0 w) :=
  (hd_put A n c f 30 30 y w h rfl hy hp hn).mono fun _ _ ⟨A', c', h1, h2, h3, h4⟩ => ⟨A', c', h1, h2, h3.low hS0.below.size, hS0.trans h4, h4⟩
theorem rf_lay30 (A : Option Addr) (n c : Nat) (f : Nat → Int) (y : Int) (w w0 : World) (hS0 : Since w0 w) (hy : In64 y) (h : Rd w w.heap.size A n (U8 f)) (hp : 30 + 2 ≤ n) (hn : n ≤ 140737488355328) : Calls Tryd.prog 29 #[.slice A n c, .int .i64 30, .int .i64 y] w (PutQ n 30 f y w0 w) :=
  (rf_lay A n c f 30 30 y w h rfl hy hp hn).mono fun _ _ ⟨A', c', h1, h2, h3, h4⟩ => ⟨A', c', h1, h2, h3.low hS0.below.size, hS0.trans h4, h4⟩

theorem hd_put34 (A : Option Addr) (n c : Nat) (f : Nat → Int) (y : Int) (w w0 : World) (hS0 : Since w0 w) (hy : In64 y) (h : Rd w w.heap.size A n (U8 f)) (hp : 34 + 2 ≤ n) (hn : n ≤ 140737488355328) : Calls Tryd.prog 27 #[.slice A n c, .int .i64 34, .int .i64 y] w (PutQ n 34 f y w0 w) :=
  (hd_put A n c f 34 34 y w h rfl hy hp hn).mono fun _ _ ⟨A', c', h1, h2, h3, h4⟩ => ⟨A', c', h1, h2, h3.low hS0.below.size, hS0.trans h4, h4⟩
theorem rf_lay34 (A : Option Addr) (n c : Nat) (f : Nat → Int) (y : Int) (w w0 : World) (hS0 : Since w0 w) (hy : In64 y) (h : Rd w w.heap.size A n (U8 f)) (hp : 34 + 2 ≤ n) (hn : n ≤ 140737488355328) : Calls Tryd.prog 29 #[.slice A n c, .int .i64 34, .int .i64 y] w (PutQ n 34 f y w0 w) :=
  (rf_lay A n c f 34 34 y w h rfl hy hp hn).mono fun _ _ ⟨A', c', h1, h2, h3, h4⟩ => ⟨A', c', h1, h2, h3.low hS0.below.size, hS0.trans h4, h4⟩

def phOk (em a b c d : Int) : Bool := (decide (16 ≤ em) && decide (em ≤ 16384)) && (shortB a && shortB b && shortB c && shortB d)
def phE (n : Nat) (em a b c d : Int) : Int := if n < 54 then 3 else if phOk em a b c d then 0 else 6
def phN (n : Nat) (em a b c d : Int) : Nat := if phE n em a b c d = 0 then n else 0
def oneIf (l : Bool) : Int := if l then 1 else 0
def phF (f : Nat → Int) (em a b c d : Int) (l : Bool) : Nat → Int := lay2 (lay2 (lay2 (lay2 (lay2 (lay2 f 18 em) 36 a) 38 b) 40 c) 42 d) 50 (oneIf l)
def PhPost (f : Nat → Int) (n : Nat) (em a b c d : Int) (l : Bool) (w : World) (e : Ending) (w' : World) : Prop := ∃ A' c', e = .returned (.tuple #[.slice A' (phN n em a b c d) c', .int .i64 (phE n em a b c d)]) ∧ phN n em a b c d ≤ c' ∧ Nw w' w.heap.size A' (phN n em a b c d) (U8 (phF f em a b c d l)) ∧ Since w w'
theorem ph_bad {f : Nat → Int} {n : Nat} {em a b c d E : Int} {l : Bool} {w w' : World} (hE : phE n em a b c d = E) (h0 : E ≠ 0) (hS : Since w w') : PhPost f n em a b c d l w (.returned (.tuple #[.slice none 0 0, .int .i64 E])) w' := by
  subst hE
  have e : phN n em a b c d = 0 := by unfold phN; rw [if_neg h0]
  unfold PhPost
  rw [e]
  exact ⟨none, 0, rfl, Nat.le_refl _, Nw.zero, hS⟩
theorem ph_good {f g : Nat → Int} {n c' B : Nat} {em a b c d : Int} {l : Bool} {A' : Option Addr} {w w' : World} (hE : phE n em a b c d = 0) (hc : n ≤ c') (hN : Nw w' B A' n (U8 g)) (hg : g = phF f em a b c d l) (hB : w.heap.size ≤ B) (hS : Since w w') : PhPost f n em a b c d l w (.returned (.tuple #[.slice A' n c', .int .i64 0])) w' := by
  subst hg
  have e : phN n em a b c d = n := by unfold phN; rw [if_pos hE]
  unfold PhPost
  rw [e, hE]
  exact ⟨A', c', rfl, hc, hN.low hB, hS⟩
theorem box_at (w : World) (a b c d : Value) (t : TypeId) (j : Nat) (v : Value) (h : #[a, b, c, d][j]? = some v) : (w.alloc (.cells #[a, b, c, d] t)).cell? ⟨w.heap.size, j, none⟩ = some v := by rw [World.cell?_alloc_new]; exact h
theorem hbox_at (w : World) (a b c d e f : Value) (t : TypeId) (j : Nat) (v : Value) (h : #[a, b, c, d, e, f][j]? = some v) : (w.alloc (.cells #[a, b, c, d, e, f] t)).cell? ⟨w.heap.size, j, none⟩ = some v := by rw [World.cell?_alloc_new]; exact h
theorem ph_prog (f : Nat → Int) (em a b c d : Int) (l : Bool) : lay2 (lay2 (lay2 (lay2 (lay2 (lay2 f 18 em) 50 (oneIf l)) 36 a) 38 b) 40 c) 42 d = phF f em a b c d l := by
  unfold phF
  rw [lay2_comm (lay2 f 18 em) 50 36 _ _ (by omega), lay2_comm _ 50 38 _ _ (by omega), lay2_comm _ 50 40 _ _ (by omega), lay2_comm _ 50 42 _ _ (by omega)]
theorem short_no {x : Int} (h : x < -32768 ∨ 32767 < x) : shortB x = false := by
  unfold shortB
  rcases h with h | h
  · rw [decide_eq_false (by omega), Bool.false_and]
  · rw [decide_eq_false (p := x ≤ 32767) (by omega), Bool.and_false]
theorem short_yes {x : Int} (h : -32768 ≤ x ∧ x ≤ 32767) : shortB x = true := by
  unfold shortB
  rw [decide_eq_true h.1, decide_eq_true h.2]; rfl
theorem oneIf_in (l : Bool) : In64 (oneIf l) := by cases l <;> (unfold oneIf In64; simp)


end Go.Proofs.YtefalfdillnkfaaDoor
