/-
  Layer 10: what GaussMoves leans on: small, More, a block of three points.
-/
import Derived.Test.YtbbbojhncfdbdaaGaK
import Derived.Deep.DeepCutAuto
namespace Go.Proofs.Ytbbbojhncfdbdaa
open Go.RowKit
set_option linter.unusedVariables false

def In32 (x : Int) : Prop := -2147483648 ≤ x ∧ x ≤ 2147483647
theorem in32_wf {a : Int} (h : (Lit.int .i32 a).wf = true) : In32 a := by
  have h : -2147483648 ≤ a ∧ a ≤ 2147483647 := by simpa [Lit.wf, IntKind.min, IntKind.max, IntKind.signed, IntKind.bits] using h
  exact h
def sm (x : Int) : Int := x / 2048
theorem sm_range {x : Int} (h : In32 x) : -1048576 ≤ sm x ∧ sm x ≤ 1048576 := by unfold In32 at h; unfold sm; omega
theorem law_small (x y : Int) (h1 : In32 x) (h2 : In32 y) (w : World) :
    Calls Try.prog 31 #[.int .i32 x, .int .i32 y] w fun e w' => e = .returned (Pt (sm x) (sm y)) ∧ Since w w' := by
  unfold In32 at *
  have wx : IntKind.i64.wrap x = x := IntWalk.i64_in _ (by omega)
  have wy : IntKind.i64.wrap y = y := IntWalk.i64_in _ (by omega)
  have vx : IntKind.i64.wrap (x / 2048) = x / 2048 := IntWalk.i64_in _ (by omega)
  have vy : IntKind.i64.wrap (y / 2048) = y / 2048 := IntWalk.i64_in _ (by omega)
  unfold Pt sm
  go_enter Try.func31, Try.ntmps31
  go_wp2
  refine bodyPost_ret (by simp only [results, Try.results31]; go_simp) rfl ⟨rfl, ?_⟩
  (repeat (first | with_reducible (exact Since.refl _) | with_reducible assumption | with_reducible (refine Since.drew ?_) | with_reducible (refine Since.drewN ?_ _) | with_reducible (refine Since.alloc ?_ _) | (with_reducible (refine Since.setCell ?_ ?_ _); rotate_left; focus (first | (simp; done) | (simp; omega) | omega)) | (with_reducible (refine Since.trans ?_ (by with_reducible assumption)))))
theorem rf_more (x y u v : Int) (h1 : Near x) (h2 : Near y) (h3 : Near u) (h4 : Near v) (w : World) :
    Calls Try.prog 32 #[Pt x y, Pt u v] w fun e w' => e = .returned (Pt (x + u) (y + v)) ∧ Since w w' := by
  unfold Near at *
  unfold Pt
  go_enter Try.func32, Try.ntmps32
  go_wp2
  refine bodyPost_ret (by simp only [results, Try.results32]; go_simp) rfl ⟨rfl, ?_⟩
  (repeat (first | with_reducible (exact Since.refl _) | with_reducible assumption | with_reducible (refine Since.drew ?_) | with_reducible (refine Since.drewN ?_ _) | with_reducible (refine Since.alloc ?_ _) | (with_reducible (refine Since.setCell ?_ ?_ _); rotate_left; focus (first | (simp; done) | (simp; omega) | omega)) | (with_reducible (refine Since.trans ?_ (by with_reducible assumption)))))

/-- A block holds three points, and may be written. -/
def SixF (w : World) (b : Nat) (x y u v p q : Int) : Prop := SixAt w b x y u v p q ∧ ∀ j, w.frozen? ⟨b, j, none⟩ = false
section
variable {w w' : World} {b b' : Nat} {x y u v p q : Int}
theorem six_newF (w : World) (b : Nat) (hb : b = w.heap.size) (x y u v p q : Int) (t : TypeId) : SixF (w.alloc (.cells #[.int .i64 x, .int .i64 y, .int .i64 u, .int .i64 v, .int .i64 p, .int .i64 q] t)) b x y u v p q := by
  subst hb
  refine ⟨six_new w x y u v p q t, fun j => ?_⟩
  rw [frozen?_alloc_cells]
  simp [World.frozen?]
theorem SixF.since (h : SixF w b x y u v p q) (k : Since w w') : SixF w' b x y u v p q := ⟨h.1.since k, fun j => (k.2.1 _ _ h.1.2.2.2.2.2.2).trans (h.2 j)⟩
theorem SixF.alloc (h : SixF w b x y u v p q) (o : Obj) : SixF (w.alloc o) b x y u v p q := h.since ((Since.refl w).alloc o)
theorem SixF.far (h : SixF w b x y u v p q) (hb : b' ≠ b) (o : Nat) (z : Value) : SixF (w.setCell ⟨b', o, none⟩ z) b x y u v p q := by
  obtain ⟨⟨h1, h2, h3, h4, h5, h6, h7⟩, h8⟩ := h
  refine ⟨⟨?_, ?_, ?_, ?_, ?_, ?_, by simpa [World.setCell] using h7⟩, fun j => by rw [World.frozen?_setCell]; exact h8 j⟩ <;> (rw [cell_set, if_neg (fun e => hb e.1)]; assumption)
theorem SixF.put0 (h : SixF w b x y u v p q) (r s : Int) : SixF ((w.setCell ⟨b, 0, none⟩ (.int .i64 r)).setCell ⟨b, 1, none⟩ (.int .i64 s)) b r s u v p q := by
  obtain ⟨⟨h1, h2, h3, h4, h5, h6, h7⟩, h8⟩ := h
  refine ⟨⟨?_, ?_, ?_, ?_, ?_, ?_, by simpa [World.setCell] using h7⟩, fun j => by rw [World.frozen?_setCell, World.frozen?_setCell]; exact h8 j⟩
  · rw [cell_set, if_neg (by omega), cell_set, if_pos ⟨rfl, rfl⟩, h1]; rfl
  · rw [cell_set, if_pos ⟨rfl, rfl⟩, cell_set, if_neg (by omega), h2]; rfl
  all_goals (rw [cell_set, if_neg (by omega), cell_set, if_neg (by omega)]; assumption)
theorem SixF.put1 (h : SixF w b x y u v p q) (r s : Int) : SixF ((w.setCell ⟨b, 2, none⟩ (.int .i64 r)).setCell ⟨b, 3, none⟩ (.int .i64 s)) b x y r s p q := by
  obtain ⟨⟨h1, h2, h3, h4, h5, h6, h7⟩, h8⟩ := h
  refine ⟨⟨?_, ?_, ?_, ?_, ?_, ?_, by simpa [World.setCell] using h7⟩, fun j => by rw [World.frozen?_setCell, World.frozen?_setCell]; exact h8 j⟩
  rotate_left 2
  · rw [cell_set, if_neg (by omega), cell_set, if_pos ⟨rfl, rfl⟩, h3]; rfl
  · rw [cell_set, if_pos ⟨rfl, rfl⟩, cell_set, if_neg (by omega), h4]; rfl
  all_goals (rw [cell_set, if_neg (by omega), cell_set, if_neg (by omega)]; assumption)
theorem SixF.put2 (h : SixF w b x y u v p q) (r s : Int) : SixF ((w.setCell ⟨b, 4, none⟩ (.int .i64 r)).setCell ⟨b, 5, none⟩ (.int .i64 s)) b x y u v r s := by
  obtain ⟨⟨h1, h2, h3, h4, h5, h6, h7⟩, h8⟩ := h
  refine ⟨⟨?_, ?_, ?_, ?_, ?_, ?_, by simpa [World.setCell] using h7⟩, fun j => by rw [World.frozen?_setCell, World.frozen?_setCell]; exact h8 j⟩
  rotate_left 4
  · rw [cell_set, if_neg (by omega), cell_set, if_pos ⟨rfl, rfl⟩, h5]; rfl
  · rw [cell_set, if_pos ⟨rfl, rfl⟩, cell_set, if_neg (by omega), h6]; rfl
  all_goals (rw [cell_set, if_neg (by omega), cell_set, if_neg (by omega)]; assumption)
end

-- the document's laws of Turn, in numbers
theorem turn_moved (x y u v p q a b : Int) : turnI (x + a) (y + b) (u + a) (v + b) (p + a) (q + b) = turnI x y u v p q := by
  unfold turnI
  rw [show u + a - (x + a) = u - x by omega, show v + b - (y + b) = v - y by omega, show p + a - (x + a) = p - x by omega, show q + b - (y + b) = q - y by omega]
theorem cross_quarter (x y u v : Int) : crossI (-y) x (-v) u = crossI x y u v := by
  unfold crossI
  rw [Int.neg_mul, Int.mul_neg]; omega
theorem turn_quarter (x y u v p q : Int) : ∀ k, turnI (qu x y k).1 (qu x y k).2 (qu u v k).1 (qu u v k).2 (qu p q k).1 (qu p q k).2 = turnI x y u v p q
  | 0 => rfl
  | k + 1 => by
    rw [← turn_quarter x y u v p q k]
    simp only [qu]
    unfold turnI
    rw [← cross_quarter ((qu u v k).1 - (qu x y k).1)]
    congr 2 <;> omega
theorem sgn_neg (n : Int) : sgnI (-n) = -sgnI n := by
  unfold sgnI
  split <;> split <;> (try split) <;> (try split) <;> omega
theorem cross_exp (x y u v p q : Int) : crossI (u - x) (v - y) (p - x) (q - y) = u * q - u * y - x * q - v * p + v * x + y * p := by
  unfold crossI
  simp only [Int.sub_mul, Int.mul_sub]
  rw [Int.mul_comm y x]
  omega
theorem turn_swap (x y u v p q : Int) : turnI u v x y p q = -turnI x y u v p q := by
  unfold turnI
  rw [← sgn_neg, cross_exp, cross_exp, Int.mul_comm y u, Int.mul_comm v x]
  congr 1
  omega
theorem turn_cycle (x y u v p q : Int) : turnI u v p q x y = turnI x y u v p q := by
  unfold turnI
  rw [cross_exp, cross_exp]
  congr 1
  have m0 := Int.mul_comm x q; have m1 := Int.mul_comm x v; have m2 := Int.mul_comm y p; have m3 := Int.mul_comm y u; have m4 := Int.mul_comm u q; have m5 := Int.mul_comm v p
  omega
theorem sgn_range (n : Int) : -1 ≤ sgnI n ∧ sgnI n ≤ 1 := by unfold sgnI; split <;> (try split) <;> omega
end Go.Proofs.Ytbbbojhncfdbdaa
