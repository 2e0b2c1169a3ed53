/-
  Texts of this seat, put together: each with its own head.
-/
import Derived.Test.YtcfghkphkmoikaaGreatKit2
import Derived.Test.YtcfghkphkmoikaaGreatFlt
import Derived.Laws.StructEq

/-
  Layer 10: points, slices of points; 'Good', walked.
-/
namespace Go.Proofs.YtcfghkphkmoikaaGreat
set_option maxRecDepth 100000
open Go.RowKit
set_option linter.unusedVariables false

def Pt (x y : Int) : Value := .agg #[.int .i64 x, .int .i64 y]
/-- A slice's n points, in a block below B (nil and empty let in). -/
def RdP (w : World) (B : Nat) (A : Option Addr) (n : Nat) (X Y : Nat → Int) : Prop :=
  0 < n → ∃ b o, A = some ⟨b, o, none⟩ ∧ b < B ∧ ∀ j, j < n → w.cell? ⟨b, o + j * 2, none⟩ = some (.int .i64 (X j)) ∧ w.cell? ⟨b, o + j * 2 + 1, none⟩ = some (.int .i64 (Y j))
section
variable {w w' : World} {B B' n : Nat} {A : Option Addr} {X Y : Nat → Int}
theorem RdP.zero : RdP w B A 0 X Y := fun h => absurd h (by omega)
theorem RdP.keep (h : RdP w B A n X Y) (hk : ∀ b o, b < B → w'.cell? ⟨b, o, none⟩ = w.cell? ⟨b, o, none⟩) : RdP w' B A n X Y := fun hn => by
  obtain ⟨b, o, rfl, hb, hc⟩ := h hn
  exact ⟨b, o, rfl, hb, fun j hj => ⟨(hk _ _ hb).trans (hc j hj).1, (hk _ _ hb).trans (hc j hj).2⟩⟩
theorem RdP.more (h : RdP w B A n X Y) (hB : B ≤ B') : RdP w B' A n X Y := fun hn => by
  obtain ⟨b, o, rfl, hb, hc⟩ := h hn
  exact ⟨b, o, rfl, by omega, hc⟩
theorem RdP.on (h : RdP w w.heap.size A n X Y) (k : Since w w') : RdP w' w'.heap.size A n X Y := (h.keep fun b o hb => k.1 b o hb).more k.below.size
end
def goodB (x y : Int) : Bool := decide (-4194304 ≤ x ∧ x ≤ 4194304 ∧ -4194304 ≤ y ∧ y ≤ 4194304)
theorem goodB_iff {x y : Int} : goodB x y = true ↔ (-4194304 ≤ x ∧ x ≤ 4194304 ∧ -4194304 ≤ y ∧ y ≤ 4194304) := by unfold goodB; simp
def allG (X Y : Nat → Int) : Nat → Bool
  | 0 => true
  | n + 1 => allG X Y n && goodB (X n) (Y n)
theorem allG_iff {X Y : Nat → Int} {n : Nat} : allG X Y n = true ↔ ∀ j, j < n → goodB (X j) (Y j) = true := by
  induction n with
  | zero => simp [allG]
  | succ n ih =>
    simp only [allG, Bool.and_eq_true, ih]
    constructor
    · rintro ⟨h1, h2⟩ j hj
      by_cases e : j = n
      · subst e; exact h2
      · exact h1 j (by omega)
    · exact fun h => ⟨fun j hj => h j (by omega), h n (by omega)⟩
theorem allG_no {X Y : Nat → Int} {n j : Nat} (hj : j < n) (h : goodB (X j) (Y j) = false) : allG X Y n = false := by
  cases hh : allG X Y n with
  | false => rfl
  | true => rw [allG_iff.1 hh j hj] at h; cases h

set_option maxHeartbeats 4000000 in
theorem ga_good (A : Option Addr) (n c : Nat) (X Y : Nat → Int) (w : World) (h : RdP w w.heap.size A n X Y) (hX : ∀ j, j < n → In64 (X j) ∧ In64 (Y j)) (hn : n ≤ maxLen) :
    Calls Tryz.prog 61 #[.slice A n c] w fun e w' => e = .returned (.bool (allG X Y n)) ∧ Since w w' := by
  have hn' : (n : Int) ≤ 9223372036854775807 := by simp only [maxLen] at hn; omega
  go_enter Tryz.func61, Tryz.ntmps61
  go_wp2
  go_loopw [7] (fun y wr => ∃ j : Nat, j ≤ n ∧ y = .int .i64 (j : Int) ∧ Hid (allG X Y j = true) ∧ Since w wr) (fun y _ => n - (intOf y).toNat)
  case atStart => exact ⟨0, by omega, rfl, Lib.hid rfl, Since.refl _⟩
  case round =>
    obtain ⟨j, hj, rfl, HG, hSr⟩ := hrel
    by_cases hjn : j < n
    · have hjn' : (j : Int) < n := by omega
      obtain ⟨b, o, rfl, hb, hc⟩ := h (by omega)
      have c1 : wr.cell? ⟨b, o + j * 2, none⟩ = some (.int .i64 (X j)) := (hSr.1 _ _ hb).trans (hc j hjn).1
      have c2 : wr.cell? ⟨b, o + j * 2 + 1, none⟩ = some (.int .i64 (Y j)) := (hSr.1 _ _ hb).trans (hc j hjn).2
      have hx := hX j hjn
      have hblt : b < wr.heap.size := by have := hSr.below.size; omega
      clear hc h hX
      go_wp2
      all_goals first
        | (go_ret
           refine ⟨?_, by (repeat (first | with_reducible (exact Since.refl _) | with_reducible assumption | with_reducible (refine Since.drew ?_) | with_reducible (refine Since.drewN ?_ _) | with_reducible (refine Since.alloc ?_ _) | (with_reducible (refine Since.setCell ?_ ?_ _); rotate_left; focus (first | (simp; done) | (simp; omega) | omega)) | (with_reducible (refine Since.trans ?_ (by with_reducible assumption)))))⟩
           rw [allG_no (n := n) hjn (by unfold goodB; rw [decide_eq_false_iff_not]; intro hh; simp_all; try omega)]
           rfl)
        | (refine ⟨⟨j + 1, by omega, by simp, Lib.hid (by
             have hg : goodB (X j) (Y j) = true := goodB_iff.2 (by simp_all; try omega)
             simp only [allG, HG.out, hg, Bool.and_self]), by (repeat (first | with_reducible (exact Since.refl _) | with_reducible assumption | with_reducible (refine Since.drew ?_) | with_reducible (refine Since.drewN ?_ _) | with_reducible (refine Since.alloc ?_ _) | (with_reducible (refine Since.setCell ?_ ?_ _); rotate_left; focus (first | (simp; done) | (simp; omega) | omega)) | (with_reducible (refine Since.trans ?_ (by with_reducible assumption)))))⟩, by simp [intOf]; omega⟩)
        | trace_state
    · obtain rfl : j = n := by omega
      clear h hX
      go_wp2
      go_ret
      exact ⟨by rw [HG.out]; rfl, hSr⟩
end Go.Proofs.YtcfghkphkmoikaaGreat

/-
  Layer 10: points as complex numbers, their products, walked.
-/
namespace Go.Proofs.YtcfghkphkmoikaaGreat
set_option maxRecDepth 100000
open Go.RowKit
set_option linter.unusedVariables false

def fl (n : Int) : Nat := floatOfInt .f64 n
theorem fl_stands {n : Int} (h : n.natAbs ≤ 9007199254740991) : Stands (fl n) n := stands_int n (by omega)

/-- The conjugate of a + bi times c + di. -/
def inB (a b c d : Nat) : Nat × Nat := (cMulBits a (b ^^^ 9223372036854775808) c d).getD (0, 0)
def muB (a b c d : Nat) : Nat × Nat := (cMulBits a b c d).getD (0, 0)
/-- No farther from 0 than products of differences need. -/
def Near (n : Int) : Prop := -16777216 ≤ n ∧ n ≤ 16777216
theorem near_mul {p q : Int} (hp : Near p) (hq : Near q) : -281474976710656 ≤ p * q ∧ p * q ≤ 281474976710656 := by
  have h : (p * q).natAbs ≤ 281474976710656 := by
    rw [Int.natAbs_mul]
    unfold Near at hp hq
    exact Nat.le_trans (Nat.mul_le_mul (show p.natAbs ≤ 16777216 by omega) (show q.natAbs ≤ 16777216 by omega)) (by decide)
  omega
theorem mul_stands {a b c d : Nat} {p q r s : Int} (ha : Stands a p) (hb : Stands b q) (hc : Stands c r) (hd : Stands d s) (h1 : Near p) (h2 : Near q) (h3 : Near r) (h4 : Near s) :
    ∃ re im, cMulBits a b c d = some (re, im) ∧ Stands re (p * r - q * s) ∧ Stands im (p * s + q * r) := by
  have b1 := near_mul h1 h3; have b2 := near_mul h2 h4; have b3 := near_mul h1 h4; have b4 := near_mul h2 h3
  obtain ⟨x1, e1, s1⟩ := stands_mul ha hc (by omega)
  obtain ⟨x2, e2, s2⟩ := stands_mul hb hd (by omega)
  obtain ⟨x3, e3, s3⟩ := stands_sub s1 s2 (by omega)
  obtain ⟨x4, e4, s4⟩ := stands_mul ha hd (by omega)
  obtain ⟨x5, e5, s5⟩ := stands_mul hb hc (by omega)
  obtain ⟨x6, e6, s6⟩ := stands_add s4 s5 (by omega)
  exact ⟨x3, x6, by unfold cMulBits; simp only [e1, e2, e3, e4, e5, e6, Option.bind_some], s3, s6⟩
theorem muB_stands {a b c d : Nat} {p q r s : Int} (ha : Stands a p) (hb : Stands b q) (hc : Stands c r) (hd : Stands d s) (h1 : Near p) (h2 : Near q) (h3 : Near r) (h4 : Near s) :
    cMulBits a b c d = some ((muB a b c d).1, (muB a b c d).2) ∧ Stands (muB a b c d).1 (p * r - q * s) ∧ Stands (muB a b c d).2 (p * s + q * r) := by
  obtain ⟨re, im, e, s1, s2⟩ := mul_stands ha hb hc hd h1 h2 h3 h4
  unfold muB
  rw [e]
  exact ⟨rfl, s1, s2⟩
theorem inB_stands {a b c d : Nat} {p q r s : Int} (ha : Stands a p) (hb : Stands b q) (hc : Stands c r) (hd : Stands d s) (h1 : Near p) (h2 : Near q) (h3 : Near r) (h4 : Near s) :
    cMulBits a (b ^^^ 9223372036854775808) c d = some ((inB a b c d).1, (inB a b c d).2) ∧ Stands (inB a b c d).1 (p * r + q * s) ∧ Stands (inB a b c d).2 (p * s - q * r) := by
  obtain ⟨re, im, e, s1, s2⟩ := mul_stands ha (stands_neg hb) hc hd h1 (show Near (-q) by unfold Near at *; omega) h3 h4
  unfold inB
  rw [e]
  have e1 : p * r - -q * s = p * r + q * s := by rw [Int.neg_mul, Int.sub_neg]
  have e2 : p * s + -q * r = p * s - q * r := by rw [Int.neg_mul, Int.sub_eq_add_neg]
  rw [e1] at s1
  rw [e2] at s2
  exact ⟨rfl, s1, s2⟩
theorem neg_run (b : Nat) (w : World) : (Op.unary .neg (.float .f64 b)).run Tryz.prog w = .ok (.float .f64 (b ^^^ 9223372036854775808)) w := by
  simp [Op.unary, Op.negFloat, FloatKind.format, Ieee.double]
theorem toInt_run {a : Nat} {x : Int} (h : Stands a x) (hx : x.natAbs < 2 ^ 53) (w : World) : (convert 230 3 (.float .f64 a)).run Tryz.prog w = .ok (.int .i64 x) w :=
  run_convert_float_int w 230 3 .f64 .i64 a x (by rw [Tryz.underlying230]; rfl) Tryz.underlying3 (stands_toInt h hx)

set_option maxHeartbeats 4000000 in
theorem ga_number (x y : Int) (w : World) :
    Calls Tryz.prog 168 #[Pt x y] w fun e w' => e = .returned (.complex .f64 (fl x) (fl y)) ∧ Since w w' := by
  unfold Pt fl
  go_enter Tryz.func168, Tryz.ntmps168
  go_wp2
  go_ret
  exact ⟨rfl, by (repeat (first | with_reducible (exact Since.refl _) | with_reducible assumption | with_reducible (refine Since.drew ?_) | with_reducible (refine Since.drewN ?_ _) | with_reducible (refine Since.alloc ?_ _) | (with_reducible (refine Since.setCell ?_ ?_ _); rotate_left; focus (first | (simp; done) | (simp; omega) | omega)) | (with_reducible (refine Since.trans ?_ (by with_reducible assumption)))))⟩
set_option maxHeartbeats 4000000 in
theorem ga_inner (a b c d : Nat) {p q r s : Int} (ha : Stands a p) (hb : Stands b q) (hc : Stands c r) (hd : Stands d s) (h1 : Near p) (h2 : Near q) (h3 : Near r) (h4 : Near s) (w : World) :
    Calls Tryz.prog 167 #[.complex .f64 a b, .complex .f64 c d] w fun e w' => e = .returned (.complex .f64 (inB a b c d).1 (inB a b c d).2) ∧ Since w w' := by
  have hneg := neg_run b
  have hmul := fun t w => run_complex_mul (P := Tryz.prog) w t a (b ^^^ 9223372036854775808) c d _ _ (inB_stands ha hb hc hd h1 h2 h3 h4).1
  generalize (inB a b c d).1 = x1 at *
  generalize (inB a b c d).2 = x2 at *
  generalize b ^^^ 9223372036854775808 = b' at *
  clear ha hb hc hd h1 h2 h3 h4
  go_enter Tryz.func167, Tryz.ntmps167
  go_wp2
  go_ret
  exact ⟨rfl, by (repeat (first | with_reducible (exact Since.refl _) | with_reducible assumption | with_reducible (refine Since.drew ?_) | with_reducible (refine Since.drewN ?_ _) | with_reducible (refine Since.alloc ?_ _) | (with_reducible (refine Since.setCell ?_ ?_ _); rotate_left; focus (first | (simp; done) | (simp; omega) | omega)) | (with_reducible (refine Since.trans ?_ (by with_reducible assumption)))))⟩
end Go.Proofs.YtcfghkphkmoikaaGreat

/-
  Layer 10: 'Cross', 'Dot', 'Times', walked.
-/
namespace Go.Proofs.YtcfghkphkmoikaaGreat
set_option maxRecDepth 100000
open Go.RowKit
set_option linter.unusedVariables false

def two (a b : Int) (j : Nat) : Int := if j = 0 then a else b
def three (a b c : Int) (j : Nat) : Int := if j = 0 then a else if j = 1 then b else c
theorem rdp_one (w : World) (b : Nat) (hb : b = w.heap.size) (x y : Int) (t : TypeId) : RdP (w.alloc (.cells #[.int .i64 x, .int .i64 y] t)) (w.alloc (.cells #[.int .i64 x, .int .i64 y] t)).heap.size (some ⟨b, 0, none⟩) 1 (fun _ => x) (fun _ => y) := fun _ => by
  subst hb
  refine ⟨w.heap.size, 0, rfl, by simp, fun j hj => ?_⟩
  obtain rfl : j = 0 := by omega
  exact ⟨by rw [World.cell?_alloc_new]; rfl, by rw [World.cell?_alloc_new]; rfl⟩
theorem rdp_two (w : World) (b : Nat) (hb : b = w.heap.size) (x y u v : Int) (t : TypeId) : RdP (w.alloc (.cells #[.int .i64 x, .int .i64 y, .int .i64 u, .int .i64 v] t)) (w.alloc (.cells #[.int .i64 x, .int .i64 y, .int .i64 u, .int .i64 v] t)).heap.size (some ⟨b, 0, none⟩) 2 (two x u) (two y v) := fun _ => by
  subst hb
  refine ⟨w.heap.size, 0, rfl, by simp, fun j hj => ?_⟩
  have h : j = 0 ∨ j = 1 := by omega
  rcases h with rfl | rfl <;> exact ⟨by rw [World.cell?_alloc_new]; rfl, by rw [World.cell?_alloc_new]; rfl⟩
theorem rdp_three (w : World) (b : Nat) (hb : b = w.heap.size) (x y u v p q : Int) (t : TypeId) : RdP (w.alloc (.cells #[.int .i64 x, .int .i64 y, .int .i64 u, .int .i64 v, .int .i64 p, .int .i64 q] t)) (w.alloc (.cells #[.int .i64 x, .int .i64 y, .int .i64 u, .int .i64 v, .int .i64 p, .int .i64 q] t)).heap.size (some ⟨b, 0, none⟩) 3 (three x u p) (three y v q) := fun _ => by
  subst hb
  refine ⟨w.heap.size, 0, rfl, by simp, fun j hj => ?_⟩
  have h : j = 0 ∨ j = 1 ∨ j = 2 := by omega
  rcases h with rfl | rfl | rfl <;> exact ⟨by rw [World.cell?_alloc_new]; rfl, by rw [World.cell?_alloc_new]; rfl⟩
theorem good1 (w : World) (b : Nat) (hb : b = w.heap.size) (x y : Int) (t : TypeId) (h : InP x y) : Calls Tryz.prog 61 #[.slice (some ⟨b, 0, none⟩) 1 1] (w.alloc (.cells #[.int .i64 x, .int .i64 y] t)) fun e w' => e = .returned (.bool (goodB x y)) ∧ Since (w.alloc (.cells #[.int .i64 x, .int .i64 y] t)) w' := by
  have h := ga_good _ 1 1 _ _ _ (rdp_one w b hb x y t) (fun j hj => h) (by decide)
  simpa [allG] using h
theorem good2 (w : World) (b : Nat) (hb : b = w.heap.size) (x y u v : Int) (t : TypeId) (h : InP x y) (h' : InP u v) : Calls Tryz.prog 61 #[.slice (some ⟨b, 0, none⟩) 2 2] (w.alloc (.cells #[.int .i64 x, .int .i64 y, .int .i64 u, .int .i64 v] t)) fun e w' => e = .returned (.bool (goodB x y && goodB u v)) ∧ Since (w.alloc (.cells #[.int .i64 x, .int .i64 y, .int .i64 u, .int .i64 v] t)) w' := by
  have h := ga_good _ 2 2 _ _ _ (rdp_two w b hb x y u v t) (fun j hj => by unfold two; split; exact h; exact h') (by decide)
  simpa [allG, two] using h
theorem good3 (w : World) (b : Nat) (hb : b = w.heap.size) (x y u v p q : Int) (t : TypeId) (h : InP x y) (h' : InP u v) (h'' : InP p q) : Calls Tryz.prog 61 #[.slice (some ⟨b, 0, none⟩) 3 3] (w.alloc (.cells #[.int .i64 x, .int .i64 y, .int .i64 u, .int .i64 v, .int .i64 p, .int .i64 q] t)) fun e w' => e = .returned (.bool (goodB x y && goodB u v && goodB p q)) ∧ Since (w.alloc (.cells #[.int .i64 x, .int .i64 y, .int .i64 u, .int .i64 v, .int .i64 p, .int .i64 q] t)) w' := by
  have h := ga_good _ 3 3 _ _ _ (rdp_three w b hb x y u v p q t) (fun j hj => by unfold three; split; exact h; split; exact h'; exact h'') (by decide)
  simpa [allG, three] using h
theorem good_near {x y : Int} (h : goodB x y = true) : Near x ∧ Near y ∧ x.natAbs ≤ 9007199254740991 ∧ y.natAbs ≤ 9007199254740991 := by
  have := goodB_iff.1 h
  unfold Near
  omega

/-- A block holds a point. -/
def PtAt (w : World) (b : Nat) (x y : Int) : Prop := w.cell? ⟨b, 0, none⟩ = some (.int .i64 x) ∧ w.cell? ⟨b, 1, none⟩ = some (.int .i64 y) ∧ b < w.heap.size
theorem PtAt.since {w w' : World} {b : Nat} {x y : Int} (h : PtAt w b x y) (k : Since w w') : PtAt w' b x y := ⟨(k.1 _ _ h.2.2).trans h.1, (k.1 _ _ h.2.2).trans h.2.1, k.2.2.1 _ h.2.2⟩
theorem PtAt.alloc {w : World} {b : Nat} {x y : Int} (h : PtAt w b x y) (o : Obj) : PtAt (w.alloc o) b x y := h.since ((Since.refl w).alloc o)
theorem pt_new (w : World) (b : Nat) (hb : b = w.heap.size) (x y : Int) (t : TypeId) : PtAt (w.alloc (.cells #[.int .i64 x, .int .i64 y] t)) b x y := by
  subst hb
  exact ⟨by rw [World.cell?_alloc_new]; rfl, by rw [World.cell?_alloc_new]; rfl, by simp⟩
/-- A block holds nought, and may be written. -/
def Zero2 (w : World) (b : Nat) : Prop := PtAt w b 0 0 ∧ ∀ j, w.frozen? ⟨b, j, none⟩ = false
theorem zero2_new (w : World) (b : Nat) (hb : b = w.heap.size) (t : TypeId) : Zero2 (w.alloc (.cells #[.int .i64 0, .int .i64 0] t)) b := by
  refine ⟨pt_new w b hb 0 0 t, fun j => ?_⟩
  subst hb
  rw [frozen?_alloc_cells]
  simp [World.frozen?]
theorem Zero2.since {w w' : World} {b : Nat} (h : Zero2 w b) (k : Since w w') : Zero2 w' b := ⟨h.1.since k, fun j => (k.2.1 _ _ h.1.2.2).trans (h.2 j)⟩
theorem Zero2.alloc {w : World} {b : Nat} (h : Zero2 w b) (o : Obj) : Zero2 (w.alloc o) b := h.since ((Since.refl w).alloc o)
def crossI (x y u v : Int) : Int := x * v - y * u
def dotI (x y u v : Int) : Int := x * u + y * v
def okE (b : Bool) : Int := if b then 0 else 6
def timesX (x y u v : Int) : Int := x * u - y * v
def timesY (x y u v : Int) : Int := x * v + y * u
end Go.Proofs.YtcfghkphkmoikaaGreat

/-
  Layer 10: 'Turn', 'Quarter', walked.
-/
namespace Go.Proofs.YtcfghkphkmoikaaGreat
set_option maxRecDepth 100000
open Go.RowKit
set_option linter.unusedVariables false

theorem stands_zero : Stands 0 0 := ⟨false, 0, -1074, by decide, is_zero false _⟩
theorem stands_one : Stands 4607182418800017408 1 := by
  have h := stands_int 1 (by decide)
  rw [show floatOfInt .f64 1 = 4607182418800017408 by decide +kernel] at h
  exact h
theorem order_self {b : Nat} {n : Int} (h : Stands b n) : FloatKind.f64.format.order b b = some .eq := by
  have := stands_order h h
  rw [show compare n n = .eq by simp [compare, compareOfLessAndEq]] at this
  exact this
def sgnI (n : Int) : Int := if n < 0 then -1 else if n = 0 then 0 else 1

set_option maxRecDepth 100000 in
set_option maxHeartbeats 4000000 in
theorem cmp_nan (b : Nat) {n : Int} (h : Stands b n) (w : World) :
    Calls Tryz.prog 173 #[.float .f64 b] w fun e w' => e = .returned (.bool false) ∧ w' = w := by
  have h1 := order_self h
  clear h
  go_enter Tryz.func173, Tryz.ntmps173
  go_wp2
  go_ret
  exact ⟨rfl, rfl⟩
set_option maxRecDepth 100000 in
set_option maxHeartbeats 4000000 in
theorem cmp_zero (b : Nat) {n : Int} (h : Stands b n) (w : World) :
    Calls Tryz.prog 169 #[.float .f64 b, .float .f64 0] w fun e w' => e = .returned (.int .i64 (sgnI n)) ∧ w' = w := by
  have ho : FloatKind.f64.format.order b 0 = some (compare n 0) := stands_order h stands_zero
  have c1 := fun w => cmp_nan b h w
  have c2 := fun w => cmp_nan 0 stands_zero w
  have C1 := Lib.hid c1; have C2 := Lib.hid c2
  clear h c1 c2
  have hl : compare n 0 = if n < 0 then .lt else if n = 0 then .eq else .gt := by simp only [compare, compareOfLessAndEq]
  rw [hl] at ho
  unfold sgnI
  rcases Int.lt_trichotomy n 0 with g | g | g
  · rw [if_pos g] at ho ⊢
    clear hl g
    go_enter Tryz.func169, Tryz.ntmps169
    go_wp2_with (first | (go_at_call 173; refine (C1.out _).mono ?_; rintro e w ⟨rfl, rfl⟩) | (go_at_call 173; refine (C2.out _).mono ?_; rintro e w ⟨rfl, rfl⟩))
    go_ret
    exact ⟨rfl, rfl⟩
  · subst g
    rw [if_neg (by decide), if_pos rfl] at ho ⊢
    clear hl
    go_enter Tryz.func169, Tryz.ntmps169
    go_wp2_with (first | (go_at_call 173; refine (C1.out _).mono ?_; rintro e w ⟨rfl, rfl⟩) | (go_at_call 173; refine (C2.out _).mono ?_; rintro e w ⟨rfl, rfl⟩))
    go_ret
    exact ⟨rfl, rfl⟩
  · rw [if_neg (by omega), if_neg (by omega)] at ho ⊢
    clear hl g
    go_enter Tryz.func169, Tryz.ntmps169
    go_wp2_with (first | (go_at_call 173; refine (C1.out _).mono ?_; rintro e w ⟨rfl, rfl⟩) | (go_at_call 173; refine (C2.out _).mono ?_; rintro e w ⟨rfl, rfl⟩))
    go_ret
    exact ⟨rfl, rfl⟩

/-- The difference of two points as complex numbers. -/
def suB (a b c d : Nat) : Nat × Nat := (cSumBits .sub .f64 a b c d).getD (0, 0)
theorem suB_stands {a b c d : Nat} {p q r s : Int} (ha : Stands a p) (hb : Stands b q) (hc : Stands c r) (hd : Stands d s) (h1 : (p - r).natAbs < 2 ^ 53) (h2 : (q - s).natAbs < 2 ^ 53) :
    cSumBits .sub .f64 a b c d = some ((suB a b c d).1, (suB a b c d).2) ∧ Stands (suB a b c d).1 (p - r) ∧ Stands (suB a b c d).2 (q - s) := by
  obtain ⟨x1, e1, s1⟩ := stands_sub ha hc h1
  obtain ⟨x2, e2, s2⟩ := stands_sub hb hd h2
  have e : cSumBits .sub .f64 a b c d = some (x1, x2) := by unfold cSumBits; simp only [e1, e2, Option.bind_some]
  unfold suB
  rw [e]
  exact ⟨rfl, s1, s2⟩
def turnI (x y u v p q : Int) : Int := sgnI (crossI (u - x) (v - y) (p - x) (q - y))

set_option maxRecDepth 100000 in
set_option maxHeartbeats 8000000 in
theorem ga_turn (x y u v p q : Int) (h : InP x y) (h' : InP u v) (h'' : InP p q) (w : World) :
    Calls Tryz.prog 156 #[Pt x y, Pt u v, Pt p q] w fun e w' => e = .returned (.tuple #[.int .i64 (if goodB x y && goodB u v && goodB p q then turnI x y u v p q else 0), .int .i64 (okE (goodB x y && goodB u v && goodB p q))]) ∧ Since w w' := by
  have hg := fun w b hb t => good3 w b hb x y u v p q t h h' h''
  by_cases hgg : (goodB x y && goodB u v && goodB p q) = true
  · obtain ⟨g12, g3⟩ := Bool.and_eq_true_iff.1 hgg
    obtain ⟨g1, g2⟩ := Bool.and_eq_true_iff.1 g12
    have k1 := goodB_iff.1 g1; have k2 := goodB_iff.1 g2; have k3 := goodB_iff.1 g3
    obtain ⟨_, _, m1, m2⟩ := good_near g1
    obtain ⟨_, _, m3, m4⟩ := good_near g2
    obtain ⟨_, _, m5, m6⟩ := good_near g3
    have hB := suB_stands (fl_stands m3) (fl_stands m4) (fl_stands m1) (fl_stands m2) (by omega) (by omega)
    have hC := suB_stands (fl_stands m5) (fl_stands m6) (fl_stands m1) (fl_stands m2) (by omega) (by omega)
    have s1 := fun t w => run_complex_sum (P := Tryz.prog) w .sub (.inr rfl) t .f64 (fl u) (fl v) (fl x) (fl y) _ _ hB.1
    have s2 := fun t w => run_complex_sum (P := Tryz.prog) w .sub (.inr rfl) t .f64 (fl p) (fl q) (fl x) (fl y) _ _ hC.1
    have n1 : Near (u - x) := by unfold Near; omega
    have n2 : Near (v - y) := by unfold Near; omega
    have n3 : Near (p - x) := by unfold Near; omega
    have n4 : Near (q - y) := by unfold Near; omega
    have hI := inB_stands hB.2.1 hB.2.2 hC.2.1 hC.2.2 n1 n2 n3 n4
    have hin := fun w => ga_inner _ _ _ _ hB.2.1 hB.2.2 hC.2.1 hC.2.2 n1 n2 n3 n4 w
    have hcmp := fun w => cmp_zero _ hI.2.2 w
    rw [hgg] at hg ⊢
    simp only [if_true, okE]
    unfold turnI crossI
    generalize (inB (suB (fl u) (fl v) (fl x) (fl y)).1 (suB (fl u) (fl v) (fl x) (fl y)).2 (suB (fl p) (fl q) (fl x) (fl y)).1 (suB (fl p) (fl q) (fl x) (fl y)).2).1 = z1 at *
    generalize (inB (suB (fl u) (fl v) (fl x) (fl y)).1 (suB (fl u) (fl v) (fl x) (fl y)).2 (suB (fl p) (fl q) (fl x) (fl y)).1 (suB (fl p) (fl q) (fl x) (fl y)).2).2 = z2 at *
    generalize (suB (fl u) (fl v) (fl x) (fl y)).1 = d1 at *
    generalize (suB (fl u) (fl v) (fl x) (fl y)).2 = d2 at *
    generalize (suB (fl p) (fl q) (fl x) (fl y)).1 = d3 at *
    generalize (suB (fl p) (fl q) (fl x) (fl y)).2 = d4 at *
    generalize sgnI ((u - x) * (q - y) - (v - y) * (p - x)) = N at *
    clear hI hB hC hgg g1 g2 g3 g12 n1 n2 n3 n4 m1 m2 m3 m4 m5 m6 k1 k2 k3 h h' h''
    have hnum := fun x y w => ga_number x y w
    unfold Pt at *
    have HG := Lib.hid hg; have HI := Lib.hid hin; have HN := Lib.hid hnum; have HC := Lib.hid hcmp
    clear hg hin hnum hcmp
    go_enter Tryz.func156, Tryz.ntmps156
    go_wp2_with (go_at_call 61; (with_reducible refine (HG.out _ _ (by simp) _).mono ?_); rintro e w1 ⟨rfl, hS1⟩; have hP1 := ((((pt_new w _ rfl x y _).alloc _).alloc _).alloc _).since hS1; have hP2 := (((pt_new _ (w.heap.size + 1) (by simp) u v _).alloc _).alloc _).since hS1; have hP3 := ((pt_new _ (w.heap.size + 1 + 1) (by simp) p q _).alloc _).since hS1; have hS : Since w w1 := by (repeat (first | with_reducible (exact Since.refl _) | with_reducible assumption | with_reducible (refine Since.drew ?_) | with_reducible (refine Since.drewN ?_ _) | with_reducible (refine Since.alloc ?_ _) | (with_reducible (refine Since.setCell ?_ ?_ _); rotate_left; focus (first | (simp; done) | (simp; omega) | omega)) | (with_reducible (refine Since.trans ?_ (by with_reducible assumption))))))
    obtain ⟨p1, p2, p3⟩ := hP1
    obtain ⟨p4, p5, p6⟩ := hP2
    obtain ⟨p7, p8, p9⟩ := hP3
    clear hS1
    (refine wp_named fun wr1 hwr1 => ?_; go_region_held3 (fun w' => (∀ b o, b < wr1.heap.size → w'.cell? ⟨b, o, none⟩ = wr1.cell? ⟨b, o, none⟩) ∧ (∀ b o, b < wr1.heap.size → w'.frozen? ⟨b, o, none⟩ = wr1.frozen? ⟨b, o, none⟩) ∧ (∀ k, k < wr1.heap.size → k < w'.heap.size) ∧ Below wr1.heap.size wr1 w') ((subst hwr1; (repeat (with_reducible (refine since_put ?_ ?_ _); rotate_left; focus (first | (simp; done) | (simp; omega) | omega))); first | assumption | (refine since_step (by assumption) ?_; first | assumption | ((repeat (first | with_reducible (exact Since.refl _) | with_reducible assumption | with_reducible (refine Since.drew ?_) | with_reducible (refine Since.drewN ?_ _) | with_reducible (refine Since.alloc ?_ _) | (with_reducible (refine Since.setCell ?_ ?_ _); rotate_left; focus (first | (simp; done) | (simp; omega) | omega)))); done)) | (refine since_step (Since.refl _) ?_; first | assumption | ((repeat (first | with_reducible (exact Since.refl _) | with_reducible assumption | with_reducible (refine Since.drew ?_) | with_reducible (refine Since.drewN ?_ _) | with_reducible (refine Since.alloc ?_ _) | (with_reducible (refine Since.setCell ?_ ?_ _); rotate_left; focus (first | (simp; done) | (simp; omega) | omega)) | (with_reducible (refine Since.trans ?_ (by with_reducible assumption))))); done)))) (first | (go_at_call 168; refine (HN.out _ _ _).mono ?_; rintro e w1 ⟨rfl, hS⟩; have hZ := hS.below.size; (try simp at hZ)) | (go_at_call 167; refine (HI.out _).mono ?_; rintro e w1 ⟨rfl, hS⟩; have hZ := hS.below.size; (try simp at hZ))); all_goals (rename_i hHeld; have hR1 : Since wr1 _ := hHeld; obtain ⟨hcR1, hfR1, hzR1, hbR1⟩ := hHeld; subst hwr1))
    go_wp2_with (go_at_call 169; refine (HC.out _).mono ?_; rintro e w2 ⟨rfl, rfl⟩)
    go_ret2
    exact ⟨rfl, by (repeat (first | with_reducible (exact Since.refl _) | with_reducible assumption | with_reducible (refine Since.drew ?_) | with_reducible (refine Since.drewN ?_ _) | with_reducible (refine Since.alloc ?_ _) | (with_reducible (refine Since.setCell ?_ ?_ _); rotate_left; focus (first | (simp; done) | (simp; omega) | omega)) | (with_reducible (refine Since.trans ?_ (by with_reducible assumption)))))⟩
  · have hgf : (goodB x y && goodB u v && goodB p q) = false := by simpa using hgg
    rw [hgf] at hg ⊢
    have HG := Lib.hid hg
    clear hg hgg hgf
    simp only [okE]
    unfold Pt
    go_enter Tryz.func156, Tryz.ntmps156
    go_wp2_with (go_at_call 61; (with_reducible refine (HG.out _ _ (by simp) _).mono ?_); rintro e w1 ⟨rfl, hS1⟩)
    go_ret2
    exact ⟨rfl, by (repeat (first | with_reducible (exact Since.refl _) | with_reducible assumption | with_reducible (refine Since.drew ?_) | with_reducible (refine Since.drewN ?_ _) | with_reducible (refine Since.alloc ?_ _) | (with_reducible (refine Since.setCell ?_ ?_ _); rotate_left; focus (first | (simp; done) | (simp; omega) | omega)) | (with_reducible (refine Since.trans ?_ (by with_reducible assumption)))))⟩
end Go.Proofs.YtcfghkphkmoikaaGreat

/-
  Layer 10: 'Quarter', walked; the reference's small functions, walked.
-/
namespace Go.Proofs.YtcfghkphkmoikaaGreat
set_option maxRecDepth 100000
open Go.RowKit
set_option linter.unusedVariables false

/-- A point turned by quarters. -/
def qu (x y : Int) : Nat → Int × Int
  | 0 => (x, y)
  | k + 1 => (-(qu x y k).2, (qu x y k).1)
theorem qu_near {x y : Int} {B : Int} (hx : -B ≤ x ∧ x ≤ B) (hy : -B ≤ y ∧ y ≤ B) : ∀ k, (-B ≤ (qu x y k).1 ∧ (qu x y k).1 ≤ B) ∧ (-B ≤ (qu x y k).2 ∧ (qu x y k).2 ≤ B)
  | 0 => ⟨hx, hy⟩
  | k + 1 => by
    have h := qu_near hx hy k
    simp only [qu]
    omega
theorem and_three (n : Int) : bits .and .i64 n 3 = ((n % 4).toNat : Int) := by
  show IntKind.i64.wrap ((BitVec.ofInt 64 n &&& BitVec.ofInt 64 3).toNat : Int) = _
  rw [BitVec.toNat_and, show (BitVec.ofInt 64 3).toNat = 2 ^ 2 - 1 from rfl, Nat.and_two_pow_sub_one_eq_mod, BitVec.toNat_ofInt, IntKind.wrap_i64]
  omega
def resQ (x y : Int) (n : Int) : Int × Int := qu x y (n % 4).toNat

end Go.Proofs.YtcfghkphkmoikaaGreat

/-
  Layer 10: the reference's functions, walked.
-/
namespace Go.Proofs.YtcfghkphkmoikaaGreat
set_option maxRecDepth 100000
open Go.RowKit
set_option linter.unusedVariables false

theorem eq_pt (w : World) (x y u v : Int) : (Op.equalIn 10000 23 (.agg #[.int .i64 x, .int .i64 y]) (.agg #[.int .i64 u, .int .i64 v])).run Tryz.prog w = .ok (x == u && y == v) w := by
  rw [run_equalIn_struct w 9999 23 _ _ (by kernel_rfl) (by kernel_rfl)]
  have heq : ∀ (d : Nat) (a b : Int) (w : World), (Op.equalIn (d + 1) 3 (.int .i64 a) (.int .i64 b)).run Tryz.prog w = .ok (a == b) w := fun d a b w => run_equalIn_int w d _ _ _ a b Tryz.underlying3
  have hc : Tryz.prog.cellsOf 3 = 1 := by kernel_rfl
  simp only [Program.fieldsOf, Tryz.underlying23]
  by_cases h0 : x = u
  · by_cases h1 : y = v
    · simp [go_sem, h0, h1]
    · simp [go_sem, h0, h1]
  · simp [go_sem, h0]
attribute [go_sem] eq_pt

set_option maxHeartbeats 4000000 in
theorem rf_good (x y : Int) (w : World) :
    Calls Tryz.prog 42 #[Pt x y] w fun e w' => e = .returned (.bool (goodB x y)) ∧ Since w w' := by
  unfold Pt
  by_cases hy : y ≤ 4194304
  all_goals
    go_enter Tryz.func42, Tryz.ntmps42
    go_wp2
    all_goals
      go_ret
      refine ⟨?_, by (repeat (first | with_reducible (exact Since.refl _) | with_reducible assumption | with_reducible (refine Since.drew ?_) | with_reducible (refine Since.drewN ?_ _) | with_reducible (refine Since.alloc ?_ _) | (with_reducible (refine Since.setCell ?_ ?_ _); rotate_left; focus (first | (simp; done) | (simp; omega) | omega)) | (with_reducible (refine Since.trans ?_ (by with_reducible assumption)))))⟩
      first
        | (rw [show goodB x y = true from goodB_iff.2 (by simp_all)]; simp_all; done)
        | (rw [show goodB x y = false by (unfold goodB; rw [decide_eq_false_iff_not]; simp_all; try omega)]; simp_all; done)
        | trace_state
theorem rf_cross (x y u v : Int) (h1 : Near x) (h2 : Near y) (h3 : Near u) (h4 : Near v) (w : World) :
    Calls Tryz.prog 47 #[Pt x y, Pt u v] w fun e w' => e = .returned (.int .i64 (crossI x y u v)) ∧ Since w w' := by
  obtain ⟨b1, b2⟩ := near_mul h1 h4
  obtain ⟨b3, b4⟩ := near_mul h2 h3
  unfold Pt crossI
  generalize hp : x * v = m at *
  generalize hq : y * u = n at *
  go_enter Tryz.func47, Tryz.ntmps47
  go_wp2
  go_ret
  exact ⟨rfl, by (repeat (first | with_reducible (exact Since.refl _) | with_reducible assumption | with_reducible (refine Since.drew ?_) | with_reducible (refine Since.drewN ?_ _) | with_reducible (refine Since.alloc ?_ _) | (with_reducible (refine Since.setCell ?_ ?_ _); rotate_left; focus (first | (simp; done) | (simp; omega) | omega)) | (with_reducible (refine Since.trans ?_ (by with_reducible assumption)))))⟩
theorem rf_less (x y u v : Int) (h1 : Near x) (h2 : Near y) (h3 : Near u) (h4 : Near v) (w : World) :
    Calls Tryz.prog 46 #[Pt x y, Pt u v] w fun e w' => e = .returned (Pt (x - u) (y - v)) ∧ Since w w' := by
  unfold Near at *
  unfold Pt
  go_enter Tryz.func46, Tryz.ntmps46
  go_wp2
  refine bodyPost_ret (by simp only [results, Tryz.results46]; go_simp) rfl ⟨rfl, ?_⟩
  (repeat (first | with_reducible (exact Since.refl _) | with_reducible assumption | with_reducible (refine Since.drew ?_) | with_reducible (refine Since.drewN ?_ _) | with_reducible (refine Since.alloc ?_ _) | (with_reducible (refine Since.setCell ?_ ?_ _); rotate_left; focus (first | (simp; done) | (simp; omega) | omega)) | (with_reducible (refine Since.trans ?_ (by with_reducible assumption)))))
theorem rf_sign (n : Int) (h : In64 n) (w : World) :
    Calls Tryz.prog 80 #[.int .i64 n] w fun e w' => e = .returned (.int .i64 (sgnI n)) ∧ Since w w' := by
  unfold sgnI
  rcases Int.lt_trichotomy n 0 with g | g | g
  · rw [if_pos g]
    go_enter Tryz.func80, Tryz.ntmps80
    go_wp2
    go_ret
    exact ⟨rfl, by (repeat (first | with_reducible (exact Since.refl _) | with_reducible assumption | with_reducible (refine Since.drew ?_) | with_reducible (refine Since.drewN ?_ _) | with_reducible (refine Since.alloc ?_ _) | (with_reducible (refine Since.setCell ?_ ?_ _); rotate_left; focus (first | (simp; done) | (simp; omega) | omega)) | (with_reducible (refine Since.trans ?_ (by with_reducible assumption)))))⟩
  · subst g
    go_enter Tryz.func80, Tryz.ntmps80
    go_wp2
    go_ret
    exact ⟨rfl, by (repeat (first | with_reducible (exact Since.refl _) | with_reducible assumption | with_reducible (refine Since.drew ?_) | with_reducible (refine Since.drewN ?_ _) | with_reducible (refine Since.alloc ?_ _) | (with_reducible (refine Since.setCell ?_ ?_ _); rotate_left; focus (first | (simp; done) | (simp; omega) | omega)) | (with_reducible (refine Since.trans ?_ (by with_reducible assumption)))))⟩
  · rw [if_neg (by omega), if_neg (by omega)]
    by_cases e : n = 1
    · subst e
      go_enter Tryz.func80, Tryz.ntmps80
      go_wp2
      go_ret
      exact ⟨rfl, by (repeat (first | with_reducible (exact Since.refl _) | with_reducible assumption | with_reducible (refine Since.drew ?_) | with_reducible (refine Since.drewN ?_ _) | with_reducible (refine Since.alloc ?_ _) | (with_reducible (refine Since.setCell ?_ ?_ _); rotate_left; focus (first | (simp; done) | (simp; omega) | omega)) | (with_reducible (refine Since.trans ?_ (by with_reducible assumption)))))⟩
    · have g1 : (1 : Int) < n := by omega
      go_enter Tryz.func80, Tryz.ntmps80
      go_wp2
      go_ret
      exact ⟨rfl, by (repeat (first | with_reducible (exact Since.refl _) | with_reducible assumption | with_reducible (refine Since.drew ?_) | with_reducible (refine Since.drewN ?_ _) | with_reducible (refine Since.alloc ?_ _) | (with_reducible (refine Since.setCell ?_ ?_ _); rotate_left; focus (first | (simp; done) | (simp; omega) | omega)) | (with_reducible (refine Since.trans ?_ (by with_reducible assumption)))))⟩
end Go.Proofs.YtcfghkphkmoikaaGreat
