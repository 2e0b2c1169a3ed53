/-
  Texts of this seat, put together: each with its own head.
-/
import Derived.Test.YtckochcocflleaaGreatKit
import Derived.Lib.Strings
import Derived.Lib.Slices
import Derived.Lib.Small
import Derived.Lib.Walk
import Derived.Lib.BitFns
import Derived.Lib.ItoaNum
import Derived.Test.YtckochcocflleaaGreatMgW
import Derived.Deep.QuietTactic
import Derived.BigQuiet

/-
  math/bits.Len64 and LeadingZeros64 over this translation: how often a word that is not 0 can be doubled.
-/
namespace Go.Proofs.YtckochcocflleaaGreat
open Go.RowKit
set_option linter.unusedVariables false

set_option maxHeartbeats 4000000 in
set_option maxRecDepth 100000 in
theorem len64 (x : Int) (w : World) (h0 : 0 ≤ x) (h1 : x ≤ 18446744073709551615) :
    Calls Tryz.prog 71 #[.int .u64 x] w fun e w' => e = .returned (.int .i64 (Lib.bitLen x.toNat)) ∧ w = w' := by
  have z0 : 0 ≤ x / 4294967296 / 65536 / 256 := by omega
  have c0 : x / 4294967296 / 65536 / 256 < 256 → x / 4294967296 / 65536 / 256 ≤ 255 := by omega
  have z1 : 0 ≤ x / 4294967296 / 65536 := by omega
  have c1 : x / 4294967296 / 65536 < 256 → x / 4294967296 / 65536 ≤ 255 := by omega
  have z2 : 0 ≤ x / 4294967296 / 256 := by omega
  have c2 : x / 4294967296 / 256 < 256 → x / 4294967296 / 256 ≤ 255 := by omega
  have z3 : 0 ≤ x / 4294967296 := by omega
  have c3 : x / 4294967296 < 256 → x / 4294967296 ≤ 255 := by omega
  have z4 : 0 ≤ x / 65536 / 256 := by omega
  have c4 : x / 65536 / 256 < 256 → x / 65536 / 256 ≤ 255 := by omega
  have z5 : 0 ≤ x / 65536 := by omega
  have c5 : x / 65536 < 256 → x / 65536 ≤ 255 := by omega
  have z6 : 0 ≤ x / 256 := by omega
  have c6 : x / 256 < 256 → x / 256 ≤ 255 := by omega
  have c7 : x < 256 → x ≤ 255 := by omega
  have u0 : x / 4294967296 / 65536 / 256 ≤ 255 := by omega
  have u1 : x / 4294967296 < 65536 → x / 4294967296 / 256 ≤ 255 := by omega
  have u2 : x < 4294967296 → x / 65536 / 256 ≤ 255 := by omega
  have u3 : x < 65536 → x / 256 ≤ 255 := by omega
  go_enter Tryz.func71, Tryz.ntmps71
  go_wp2
  all_goals (go_ret; refine ⟨congrArg Ending.returned (congrArg (Value.int IntKind.i64) ?_), rfl⟩)
  all_goals clear c0 c1 c2 c3 c4 c5 c6 c7 u0 u1 u2 u3 z0 z1 z2 z3 z4 z5 z6
  all_goals first
    | (rw [Lib.len8_of (x / 4294967296 / 65536 / 256) (by omega) (by omega)]
       have e : (x / 4294967296 / 65536 / 256).toNat = x.toNat / 72057594037927936 := by omega
       have l := Lib.bitLen_le8' (x / 4294967296 / 65536 / 256) (by omega) (by omega)
       have s := Lib.bitLen_shift56 x.toNat (by omega) (by omega)
       rw [e] at l ⊢
       unfold wrap64; omega)
    | (rw [Lib.len8_of (x / 4294967296 / 65536) (by omega) (by omega)]
       have e : (x / 4294967296 / 65536).toNat = x.toNat / 281474976710656 := by omega
       have l := Lib.bitLen_le8' (x / 4294967296 / 65536) (by omega) (by omega)
       have s := Lib.bitLen_shift48 x.toNat (by omega) (by omega)
       rw [e] at l ⊢
       unfold wrap64; omega)
    | (rw [Lib.len8_of (x / 4294967296 / 256) (by omega) (by omega)]
       have e : (x / 4294967296 / 256).toNat = x.toNat / 1099511627776 := by omega
       have l := Lib.bitLen_le8' (x / 4294967296 / 256) (by omega) (by omega)
       have s := Lib.bitLen_shift40 x.toNat (by omega) (by omega)
       rw [e] at l ⊢
       unfold wrap64; omega)
    | (rw [Lib.len8_of (x / 4294967296) (by omega) (by omega)]
       have e : (x / 4294967296).toNat = x.toNat / 4294967296 := by omega
       have l := Lib.bitLen_le8' (x / 4294967296) (by omega) (by omega)
       have s := Lib.bitLen_shift32 x.toNat (by omega) (by omega)
       rw [e] at l ⊢
       unfold wrap64; omega)
    | (rw [Lib.len8_of (x / 65536 / 256) (by omega) (by omega)]
       have e : (x / 65536 / 256).toNat = x.toNat / 16777216 := by omega
       have l := Lib.bitLen_le8' (x / 65536 / 256) (by omega) (by omega)
       have s := Lib.bitLen_shift24 x.toNat (by omega) (by omega)
       rw [e] at l ⊢
       unfold wrap64; omega)
    | (rw [Lib.len8_of (x / 65536) (by omega) (by omega)]
       have e : (x / 65536).toNat = x.toNat / 65536 := by omega
       have l := Lib.bitLen_le8' (x / 65536) (by omega) (by omega)
       have s := Lib.bitLen_shift16 x.toNat (by omega) (by omega)
       rw [e] at l ⊢
       unfold wrap64; omega)
    | (rw [Lib.len8_of (x / 256) (by omega) (by omega)]
       have e : (x / 256).toNat = x.toNat / 256 := by omega
       have l := Lib.bitLen_le8' (x / 256) (by omega) (by omega)
       have s := Lib.bitLen_shift8 x.toNat (by omega) (by omega)
       rw [e] at l ⊢
       unfold wrap64; omega)
    | (rw [Lib.len8_of x (by omega) (by omega)]
       have l := Lib.bitLen_le8' x (by omega) (by omega)
       unfold wrap64; omega)

/-- How often the word y, which is not 0, is doubled till its highest bit is set. -/
def lz (y : Int) : Nat := 64 - Lib.bitLen y.toNat
theorem lz_facts {y : Int} (h0 : 0 < y) (h1 : y < 18446744073709551616) : lz y ≤ 63 ∧ 9223372036854775808 ≤ y * 2 ^ lz y ∧ y * 2 ^ lz y < 18446744073709551616 := by
  obtain ⟨n, rfl⟩ := Int.eq_ofNat_of_zero_le (Int.le_of_lt h0)
  obtain ⟨b1, b2, b3⟩ := Lib.bitLenAux_bounds 64 n (by omega) (by omega)
  have b4 := Lib.bitLen_le n 64 (by omega) (by omega)
  have hb : Lib.bitLen n = Lib.bitLenAux 64 n := rfl
  rw [← hb] at b1 b2 b3
  unfold lz
  rw [Int.toNat_natCast]
  generalize Lib.bitLen n = k at *
  have p1 : 2 ^ (k - 1) * 2 ^ (64 - k) = 9223372036854775808 := by rw [← Nat.pow_add, show k - 1 + (64 - k) = 63 by omega]
  have p2 : 2 ^ k * 2 ^ (64 - k) = 18446744073709551616 := by rw [← Nat.pow_add, show k + (64 - k) = 64 by omega]
  have q1 : 2 ^ (k - 1) * 2 ^ (64 - k) ≤ n * 2 ^ (64 - k) := Nat.mul_le_mul_right _ b2
  have q2 : n * 2 ^ (64 - k) < 2 ^ k * 2 ^ (64 - k) := Nat.mul_lt_mul_of_pos_right b3 (Nat.two_pow_pos _)
  have e : ((n : Int) * 2 ^ (64 - k)) = ((n * 2 ^ (64 - k) : Nat) : Int) := by push_cast; rfl
  rw [e]
  omega

theorem leading64 (x : Int) (w : World) (h0 : 0 < x) (h1 : x < 18446744073709551616) :
    Calls Tryz.prog 112 #[.int .u64 x] w fun e w' => e = .returned (.int .i64 (lz x)) ∧ w = w' := by
  have b4 := Lib.bitLen_le x.toNat 64 (by omega) (by omega)
  have E : ((lz x : Nat) : Int) = 64 - (Lib.bitLen x.toNat : Int) := by unfold lz; omega
  rw [E]; clear E
  go_enter Tryz.func112, Tryz.ntmps112
  go_wp2_with (go_at_call 71; refine (len64 _ _ (by omega) (by omega)).mono ?_; rintro e w' ⟨rfl, rfl⟩)
  go_ret
  exact ⟨rfl, rfl⟩
end Go.Proofs.YtckochcocflleaaGreat

/-
  The arithmetic of a division of two words by one, half a word at a time: no Go in sight.
-/
namespace Go.Proofs.YtckochcocflleaaGreat
namespace Half
/-- The digit that is sought. -/
def digit (u d y1 y0 : Int) : Int := (u * 4294967296 + d) / (y1 * 4294967296 + y0)
def rest (u d y1 y0 : Int) : Int := (u * 4294967296 + d) % (y1 * 4294967296 + y0)

/-- What is known all along: the divisor's halves, and what is left. -/
structure Fit (u d y1 y0 : Int) : Prop where
  d0 : 0 ≤ d
  d1 : d < 4294967296
  a0 : 2147483648 ≤ y1
  a1 : y1 < 4294967296
  b0 : 0 ≤ y0
  b1 : y0 < 4294967296
  u0 : 0 ≤ u
  u1 : u < y1 * 4294967296 + y0

section
variable {u d y1 y0 Q R : Int}
theorem mulY (Q y1 y0 : Int) : Q * (y1 * 4294967296 + y0) = Q * y1 * 4294967296 + Q * y0 := by rw [Int.mul_add, Int.mul_assoc]

theorem digit_nonneg (h : Fit u d y1 y0) : 0 ≤ digit u d y1 y0 := by
  obtain ⟨d0, d1, a0, a1, b0, b1, u0, u1⟩ := h
  exact Int.ediv_nonneg (by omega) (by omega)
theorem digit_lt (h : Fit u d y1 y0) : digit u d y1 y0 < 4294967296 := by
  obtain ⟨d0, d1, a0, a1, b0, b1, u0, u1⟩ := h
  unfold digit
  exact Int.ediv_lt_of_lt_mul (by omega) (by omega)
/-- A guess whose product fits is no greater than the digit. -/
theorem guess_le (h : Fit u d y1 y0) (hQ : Q * y1 + R = u) (ht : Q * y0 ≤ 4294967296 * R + d) : Q ≤ digit u d y1 y0 := by
  obtain ⟨d0, d1, a0, a1, b0, b1, u0, u1⟩ := h
  unfold digit
  refine Int.le_ediv_of_mul_le (by omega) ?_
  rw [mulY]
  omega
theorem le_guess (h : Fit u d y1 y0) (hQ : Q * y1 + R = u) (hx : 4294967296 ≤ Q ∨ 4294967296 * R + d < Q * y0) : digit u d y1 y0 ≠ Q := by
  intro e
  have hl := digit_lt h
  obtain ⟨d0, d1, a0, a1, b0, b1, u0, u1⟩ := h
  rcases hx with hx | hx
  · omega
  · have : digit u d y1 y0 * (y1 * 4294967296 + y0) ≤ u * 4294967296 + d := Int.ediv_mul_le _ (by omega)
    rw [e, mulY] at this
    omega
/-- The first guess. -/
theorem first (h : Fit u d y1 y0) : digit u d y1 y0 ≤ u / y1 := by
  obtain ⟨d0, d1, a0, a1, b0, b1, u0, u1⟩ := h
  refine Int.le_ediv_of_mul_le (by omega) ?_
  have h1 : digit u d y1 y0 * (y1 * 4294967296 + y0) ≤ u * 4294967296 + d := Int.ediv_mul_le _ (by omega)
  have h0 : 0 ≤ digit u d y1 y0 := Int.ediv_nonneg (by omega) (by omega)
  have h2 : 0 ≤ digit u d y1 y0 * y0 := Int.mul_nonneg h0 b0
  rw [mulY] at h1
  omega
theorem guess_bd (h : Fit u d y1 y0) (hQ : Q * y1 + R = u) (hR : 0 ≤ R) : Q ≤ 4294967297 := by
  obtain ⟨d0, d1, a0, a1, b0, b1, u0, u1⟩ := h
  have : Q * y1 < 4294967298 * y1 := by omega
  have := Int.lt_of_mul_lt_mul_right this (by omega)
  omega
theorem broken (h : Fit u d y1 y0) (hQ : Q * y1 + R = u) (hQ0 : 0 ≤ Q) (hd : digit u d y1 y0 ≤ Q) (hR : 4294967296 ≤ R) : Q = digit u d y1 y0 := by
  refine Int.le_antisymm (guess_le h hQ ?_) hd
  obtain ⟨d0, d1, a0, a1, b0, b1, u0, u1⟩ := h
  have h1 : Q * y1 < 4294967296 * y1 := by omega
  have h2 := Int.lt_of_mul_lt_mul_right h1 (by omega)
  have h3 : Q * y0 ≤ 4294967295 * 4294967295 := Int.mul_le_mul (by omega) (by omega) b0 (by omega)
  omega
theorem rest_eq (u d y1 y0 : Int) : u * 4294967296 + d - digit u d y1 y0 * (y1 * 4294967296 + y0) = rest u d y1 y0 := by
  unfold digit rest
  have := Int.mul_ediv_add_emod (u * 4294967296 + d) (y1 * 4294967296 + y0)
  rw [Int.mul_comm] at this
  omega
theorem rest_bd (h : Fit u d y1 y0) : 0 ≤ rest u d y1 y0 ∧ rest u d y1 y0 < y1 * 4294967296 + y0 := by
  obtain ⟨d0, d1, a0, a1, b0, b1, u0, u1⟩ := h
  exact ⟨Int.emod_nonneg _ (by omega), Int.emod_lt_of_pos _ (by omega)⟩
/-- The loop's relation. -/
def Rel (u d y1 y0 Q R : Int) : Prop := Q * y1 + R = u ∧ 0 ≤ Q ∧ digit u d y1 y0 ≤ Q ∧ 0 ≤ R ∧ R < 4294967296
theorem Rel.start (h : Fit u d y1 y0) : Rel u d y1 y0 (u / y1) (u - u / y1 * y1) := by
  have hf := first h
  have hn := digit_nonneg h
  obtain ⟨d0, d1, a0, a1, b0, b1, u0, u1⟩ := h
  have e := Int.mul_ediv_add_emod u y1
  have b := Int.emod_lt_of_pos u (show 0 < y1 by omega)
  have c := Int.emod_nonneg u (show y1 ≠ 0 by omega)
  rw [Int.mul_comm] at e
  exact ⟨by omega, by omega, hf, by omega, by omega⟩
theorem Rel.again (h : Fit u d y1 y0) (r : Rel u d y1 y0 Q R) (hx : 4294967296 ≤ Q ∨ 4294967296 * R + d < Q * y0) : (Q - 1) * y1 + (R + y1) = u ∧ 0 ≤ Q - 1 ∧ digit u d y1 y0 ≤ Q - 1 := by
  obtain ⟨r1, r2, r3, r4, r5⟩ := r
  have := le_guess h r1 hx
  have := digit_nonneg h
  refine ⟨?_, by omega, by omega⟩
  rw [Int.sub_mul]; omega
theorem Rel.done (h : Fit u d y1 y0) (r : Rel u d y1 y0 Q R) (hx : Q * y0 ≤ 4294967296 * R + d) : Q = digit u d y1 y0 :=
  Int.le_antisymm (guess_le h r.1 hx) r.2.2.1
theorem Rel.bounds (h : Fit u d y1 y0) (r : Rel u d y1 y0 Q R) : Q ≤ 4294967297 ∧ 0 ≤ Q * y0 ∧ Q * y0 < 18446744073709551616 := by
  have hb := guess_bd h r.1 r.2.2.2.1
  obtain ⟨d0, d1, a0, a1, b0, b1, u0, u1⟩ := h
  have h3 : Q * y0 ≤ 4294967297 * 4294967295 := Int.mul_le_mul (by omega) (by omega) b0 (by omega)
  exact ⟨hb, Int.mul_nonneg r.2.1 b0, by omega⟩
end

/-- Two halves of a quotient, and what is left, are those of the whole. -/
theorem whole {u d1 d0 y1 y0 : Int} (h1 : Fit u d1 y1 y0) (h2 : Fit (rest u d1 y1 y0) d0 y1 y0) :
    digit u d1 y1 y0 * 4294967296 + digit (rest u d1 y1 y0) d0 y1 y0 = (u * 18446744073709551616 + d1 * 4294967296 + d0) / (y1 * 4294967296 + y0) ∧
    rest (rest u d1 y1 y0) d0 y1 y0 = (u * 18446744073709551616 + d1 * 4294967296 + d0) % (y1 * 4294967296 + y0) := by
  have e1 := rest_eq u d1 y1 y0
  have e2 := rest_eq (rest u d1 y1 y0) d0 y1 y0
  have b2 := rest_bd h2
  have a0 := h1.a0; have b0 := h1.b0
  generalize rest (rest u d1 y1 y0) d0 y1 y0 = r at *
  generalize rest u d1 y1 y0 = v at *
  generalize digit u d1 y1 y0 = p at *
  generalize digit v d0 y1 y0 = q at *
  have hy : 0 < y1 * 4294967296 + y0 := by omega
  generalize y1 * 4294967296 + y0 = y at *
  have key : u * 18446744073709551616 + d1 * 4294967296 + d0 = r + (p * 4294967296 + q) * y := by
    rw [Int.add_mul, Int.mul_right_comm]
    omega
  rw [key]
  constructor
  · rw [Int.add_mul_ediv_right _ _ (by omega), Int.ediv_eq_zero_of_lt b2.1 b2.2]; omega
  · rw [Int.add_mul_emod_self_right, Int.emod_eq_of_lt b2.1 b2.2]
end Half
end Go.Proofs.YtckochcocflleaaGreat

/-
  math/bits.Div64 over this translation: two words by one.
-/
namespace Go.Proofs.YtckochcocflleaaGreat
open Go.RowKit
set_option linter.unusedVariables false

theorem div64_low (lo y : Int) (l0 : 0 ≤ lo) (l1 : lo < 18446744073709551616) (y0 : 0 < y) (y1 : y < 18446744073709551616) (w : World) :
    Calls Tryz.prog 108 #[.int .u64 0, .int .u64 lo, .int .u64 y] w fun e w' => e = .returned (.tuple #[.int .u64 (lo / y), .int .u64 (lo % y)]) ∧ Since w w' := by
  have h1 : (y == 0) = false := by simp; omega
  have h2 : decide (y ≤ 0) = false := by simp; omega
  go_enter Tryz.func108, Tryz.ntmps108
  go_wp2
  go_quiet (fail)
  go_wp2
  go_ret2
  exact ⟨rfl, by (repeat (first | with_reducible (exact Since.refl _) | with_reducible assumption | with_reducible (refine Since.drew ?_) | with_reducible (refine Since.drewN ?_ _) | with_reducible (refine Since.alloc ?_ _) | (with_reducible (refine Since.setCell ?_ ?_ _); rotate_left; focus (first | (simp; done) | (simp; omega) | omega)) | (with_reducible (refine Since.trans ?_ (by with_reducible assumption)))))⟩


set_option maxHeartbeats 2000000 in
theorem div64_walk (hi lo y yy y1 y0 u d1 d0 q1 v q0 r : Int) (a0 : 0 < hi) (a1 : hi < y) (l0 : 0 ≤ lo) (l1 : lo < 18446744073709551616) (yb : y < 18446744073709551616)
    (hYY : y * 2 ^ lz y = yy) (hY1 : yy / 4294967296 = y1) (hY0 : bits .and .u64 yy 4294967295 = y0)
    (hU : bits .or .u64 (IntKind.u64.wrap (hi * 2 ^ lz y)) (lo / 2 ^ (64 - lz y)) = u) (hL1 : IntKind.u64.wrap (lo * 2 ^ lz y) / 4294967296 = d1) (hL0 : bits .and .u64 (IntKind.u64.wrap (lo * 2 ^ lz y)) 4294967295 = d0)
    (hyy : y1 * 4294967296 + y0 = yy) (F1 : Half.Fit u d1 y1 y0) (F2 : Half.Fit v d0 y1 y0)
    (e1 : Half.digit u d1 y1 y0 = q1) (e2 : Half.rest u d1 y1 y0 = v) (e3 : Half.digit v d0 y1 y0 = q0) (e4 : Half.rest v d0 y1 y0 = r) (w : World) :
    Calls Tryz.prog 108 #[.int .u64 hi, .int .u64 lo, .int .u64 y] w fun e w' => e = .returned (.tuple #[.int .u64 (q1 * 4294967296 + q0), .int .u64 (r / 2 ^ lz y)]) ∧ Since w w' := by
  have h1 : (y == 0) = false := by simp; omega
  have h2 : decide (y ≤ hi) = false := by simp; omega
  have h3 : (hi == 0) = false := by simp; omega
  obtain ⟨s0, s1, s2⟩ := lz_facts (y := y) (by omega) yb
  rw [hYY] at s1 s2
  obtain ⟨g1, g2, g3, g4, g5, g6, g7, g8⟩ := id F1
  obtain ⟨c1, c2, _, _, _, _, c7, c8⟩ := id F2
  have st := Half.Rel.start F1
  have st2 := Half.Rel.start F2
  have hdiv : ∀ x : Int, 0 ≤ x → 0 ≤ x / y1 * y1 ∧ x / y1 * y1 ≤ x := fun x hx => ⟨Int.mul_nonneg (Int.ediv_nonneg (by omega) (by omega)) (by omega), Int.ediv_mul_le x (b := y1) (by omega)⟩
  obtain ⟨v1, v2⟩ := hdiv u (by omega)
  obtain ⟨v3, v4⟩ := hdiv v (by omega)
  clear hdiv
  have E1 : IntKind.u64.wrap (IntKind.u64.wrap (IntKind.u64.wrap (u * 4294967296) + d1) - IntKind.u64.wrap (q1 * yy)) = v := by
    have := Half.rest_eq u d1 y1 y0
    rw [e1, e2, hyy] at this
    simp only [IntKind.wrap_u64]
    generalize q1 * yy = p at *
    omega
  have hr := Half.rest_bd F2
  rw [e4, hyy] at hr
  obtain ⟨hr0, hr1⟩ := hr
  have E2 : IntKind.u64.wrap (IntKind.u64.wrap (IntKind.u64.wrap (v * 4294967296) + d0) - IntKind.u64.wrap (q0 * yy)) = r := by
    have := Half.rest_eq v d0 y1 y0
    rw [e3, e4, hyy] at this
    simp only [IntKind.wrap_u64]
    generalize q0 * yy = p at *
    omega
  have B1 := Half.digit_lt F1; have B2 := Half.digit_nonneg F1
  have B3 := Half.digit_lt F2; have B4 := Half.digit_nonneg F2
  rw [e1] at B1 B2; rw [e3] at B3 B4
  have hq1 := Lib.hid e1; have hq0 := Lib.hid e3
  clear e1 e2 e3 e4 hyy
  go_enter Tryz.func108, Tryz.ntmps108
  go_wp2_with (go_at_call 112; refine (leading64 y _ (by omega) yb).mono ?_; rintro e w' ⟨rfl, rfl⟩)
  clear hYY hY1 hY0 hU hL1 hL0
  go_loop [15, 16] (fun q r => ∃ Q R : Int, Half.Rel u d1 y1 y0 Q R ∧ q = .int .u64 Q ∧ r = .int .u64 R) (fun q _ => (intOf q).toNat)
  case atStart => exact ⟨_, _, st, rfl, rfl⟩
  case round =>
    clear st v1 v2
    obtain ⟨Q, R, hR, rfl, rfl⟩ := hrel
    obtain ⟨b1, b2, b3⟩ := hR.bounds F1
    obtain ⟨r1, r2, r3, r4, r5⟩ := id hR
    have hr1' := Lib.hid r1; clear r1
    by_cases t1 : 4294967296 ≤ Q ∨ 4294967296 * R + d1 < Q * y0
    · obtain ⟨n1, n2, n3⟩ := hR.again F1 t1
      by_cases t3 : 4294967296 ≤ R + y1
      · have hq := Half.broken F1 n1 n2 n3 t3
        rw [hq1.out] at hq
        obtain ⟨Q', rfl⟩ : ∃ Q', Q = Q' + 1 := ⟨Q - 1, by omega⟩
        have hq' : Q' = q1 := by omega
        subst hq'
        have t3' : decide (4294967296 ≤ R + y1) = true := by simpa using t3
        clear n1 n3 hq hR r3
        by_cases t4 : 4294967296 ≤ Q' + 1
        · have t1' : decide (4294967296 ≤ Q' + 1) = true := by simpa using t4
          go_wp2
          go_loop [18, 16] (fun q r => ∃ Q R : Int, Half.Rel v d0 y1 y0 Q R ∧ q = .int .u64 Q ∧ r = .int .u64 R) (fun q _ => (intOf q).toNat)
          case atStart => exact ⟨_, _, st2, rfl, rfl⟩
          case round =>
            clear st2 v3 v4
            obtain ⟨Q, R, hR, rfl, rfl⟩ := hrel
            obtain ⟨b1, b2, b3⟩ := hR.bounds F2
            obtain ⟨r1, r2, r3, r4, r5⟩ := id hR
            have hr1 := Lib.hid r1; clear r1
            by_cases t1 : 4294967296 ≤ Q ∨ 4294967296 * R + d0 < Q * y0
            · obtain ⟨n1, n2, n3⟩ := hR.again F2 t1
              by_cases t3 : 4294967296 ≤ R + y1
              · have hq := Half.broken F2 n1 n2 n3 t3
                rw [hq0.out] at hq
                obtain ⟨Q', rfl⟩ : ∃ Q', Q = Q' + 1 := ⟨Q - 1, by omega⟩
                have hq' : Q' = q0 := by omega
                subst hq'
                have t3' : decide (4294967296 ≤ R + y1) = true := by simpa using t3
                clear n1 n3 hq hR r3
                by_cases t4 : 4294967296 ≤ Q' + 1
                · have t1' : decide (4294967296 ≤ Q' + 1) = true := by simpa using t4
                  go_wp2
                  go_ret2
                  exact ⟨rfl, by (repeat (first | with_reducible (exact Since.refl _) | with_reducible assumption | with_reducible (refine Since.drew ?_) | with_reducible (refine Since.drewN ?_ _) | with_reducible (refine Since.alloc ?_ _) | (with_reducible (refine Since.setCell ?_ ?_ _); rotate_left; focus (first | (simp; done) | (simp; omega) | omega)) | (with_reducible (refine Since.trans ?_ (by with_reducible assumption)))))⟩
                · have t1' : decide (4294967296 ≤ Q' + 1) = false := by simpa using t4
                  have t2' : decide (4294967296 * R + d0 < (Q' + 1) * y0) = true := by simp; omega
                  go_wp2
                  go_ret2
                  exact ⟨rfl, by (repeat (first | with_reducible (exact Since.refl _) | with_reducible assumption | with_reducible (refine Since.drew ?_) | with_reducible (refine Since.drewN ?_ _) | with_reducible (refine Since.alloc ?_ _) | (with_reducible (refine Since.setCell ?_ ?_ _); rotate_left; focus (first | (simp; done) | (simp; omega) | omega)) | (with_reducible (refine Since.trans ?_ (by with_reducible assumption)))))⟩
              · have t3' : decide (4294967296 ≤ R + y1) = false := by simpa using t3
                have hnew : Half.Rel v d0 y1 y0 (Q - 1) (R + y1) := ⟨n1, n2, n3, by omega, by omega⟩
                clear n1 n3 hR r3
                by_cases t4 : 4294967296 ≤ Q
                · have t1' : decide (4294967296 ≤ Q) = true := by simpa using t4
                  go_wp2
                  go_round
                  case rel => exact ⟨_, _, hnew, rfl, rfl⟩
                  case measure => simp [intOf]; omega
                · have t1' : decide (4294967296 ≤ Q) = false := by simpa using t4
                  have t2' : decide (4294967296 * R + d0 < Q * y0) = true := by simp; omega
                  go_wp2
                  go_round
                  case rel => exact ⟨_, _, hnew, rfl, rfl⟩
                  case measure => simp [intOf]; omega
            · have hq := hR.done F2 (by omega)
              rw [hq0.out] at hq
              subst hq
              have t1' : decide (4294967296 ≤ Q) = false := by simp; omega
              have t2' : decide (4294967296 * R + d0 < Q * y0) = false := by simp; omega
              clear hR r3
              go_wp2
              go_ret2
              exact ⟨rfl, by (repeat (first | with_reducible (exact Since.refl _) | with_reducible assumption | with_reducible (refine Since.drew ?_) | with_reducible (refine Since.drewN ?_ _) | with_reducible (refine Since.alloc ?_ _) | (with_reducible (refine Since.setCell ?_ ?_ _); rotate_left; focus (first | (simp; done) | (simp; omega) | omega)) | (with_reducible (refine Since.trans ?_ (by with_reducible assumption)))))⟩
        · have t1' : decide (4294967296 ≤ Q' + 1) = false := by simpa using t4
          have t2' : decide (4294967296 * R + d1 < (Q' + 1) * y0) = true := by simp; omega
          go_wp2
          go_loop [18, 16] (fun q r => ∃ Q R : Int, Half.Rel v d0 y1 y0 Q R ∧ q = .int .u64 Q ∧ r = .int .u64 R) (fun q _ => (intOf q).toNat)
          case atStart => exact ⟨_, _, st2, rfl, rfl⟩
          case round =>
            clear st2 v3 v4
            obtain ⟨Q, R, hR, rfl, rfl⟩ := hrel
            obtain ⟨b1, b2, b3⟩ := hR.bounds F2
            obtain ⟨r1, r2, r3, r4, r5⟩ := id hR
            have hr1 := Lib.hid r1; clear r1
            by_cases t1 : 4294967296 ≤ Q ∨ 4294967296 * R + d0 < Q * y0
            · obtain ⟨n1, n2, n3⟩ := hR.again F2 t1
              by_cases t3 : 4294967296 ≤ R + y1
              · have hq := Half.broken F2 n1 n2 n3 t3
                rw [hq0.out] at hq
                obtain ⟨Q', rfl⟩ : ∃ Q', Q = Q' + 1 := ⟨Q - 1, by omega⟩
                have hq' : Q' = q0 := by omega
                subst hq'
                have t3' : decide (4294967296 ≤ R + y1) = true := by simpa using t3
                clear n1 n3 hq hR r3
                by_cases t4 : 4294967296 ≤ Q' + 1
                · have t1' : decide (4294967296 ≤ Q' + 1) = true := by simpa using t4
                  go_wp2
                  go_ret2
                  exact ⟨rfl, by (repeat (first | with_reducible (exact Since.refl _) | with_reducible assumption | with_reducible (refine Since.drew ?_) | with_reducible (refine Since.drewN ?_ _) | with_reducible (refine Since.alloc ?_ _) | (with_reducible (refine Since.setCell ?_ ?_ _); rotate_left; focus (first | (simp; done) | (simp; omega) | omega)) | (with_reducible (refine Since.trans ?_ (by with_reducible assumption)))))⟩
                · have t1' : decide (4294967296 ≤ Q' + 1) = false := by simpa using t4
                  have t2' : decide (4294967296 * R + d0 < (Q' + 1) * y0) = true := by simp; omega
                  go_wp2
                  go_ret2
                  exact ⟨rfl, by (repeat (first | with_reducible (exact Since.refl _) | with_reducible assumption | with_reducible (refine Since.drew ?_) | with_reducible (refine Since.drewN ?_ _) | with_reducible (refine Since.alloc ?_ _) | (with_reducible (refine Since.setCell ?_ ?_ _); rotate_left; focus (first | (simp; done) | (simp; omega) | omega)) | (with_reducible (refine Since.trans ?_ (by with_reducible assumption)))))⟩
              · have t3' : decide (4294967296 ≤ R + y1) = false := by simpa using t3
                have hnew : Half.Rel v d0 y1 y0 (Q - 1) (R + y1) := ⟨n1, n2, n3, by omega, by omega⟩
                clear n1 n3 hR r3
                by_cases t4 : 4294967296 ≤ Q
                · have t1' : decide (4294967296 ≤ Q) = true := by simpa using t4
                  go_wp2
                  go_round
                  case rel => exact ⟨_, _, hnew, rfl, rfl⟩
                  case measure => simp [intOf]; omega
                · have t1' : decide (4294967296 ≤ Q) = false := by simpa using t4
                  have t2' : decide (4294967296 * R + d0 < Q * y0) = true := by simp; omega
                  go_wp2
                  go_round
                  case rel => exact ⟨_, _, hnew, rfl, rfl⟩
                  case measure => simp [intOf]; omega
            · have hq := hR.done F2 (by omega)
              rw [hq0.out] at hq
              subst hq
              have t1' : decide (4294967296 ≤ Q) = false := by simp; omega
              have t2' : decide (4294967296 * R + d0 < Q * y0) = false := by simp; omega
              clear hR r3
              go_wp2
              go_ret2
              exact ⟨rfl, by (repeat (first | with_reducible (exact Since.refl _) | with_reducible assumption | with_reducible (refine Since.drew ?_) | with_reducible (refine Since.drewN ?_ _) | with_reducible (refine Since.alloc ?_ _) | (with_reducible (refine Since.setCell ?_ ?_ _); rotate_left; focus (first | (simp; done) | (simp; omega) | omega)) | (with_reducible (refine Since.trans ?_ (by with_reducible assumption)))))⟩
      · have t3' : decide (4294967296 ≤ R + y1) = false := by simpa using t3
        have hnew : Half.Rel u d1 y1 y0 (Q - 1) (R + y1) := ⟨n1, n2, n3, by omega, by omega⟩
        clear n1 n3 hR r3 st2 v3 v4
        by_cases t4 : 4294967296 ≤ Q
        · have t1' : decide (4294967296 ≤ Q) = true := by simpa using t4
          go_wp2
          go_round
          case rel => exact ⟨_, _, hnew, rfl, rfl⟩
          case measure => simp [intOf]; omega
        · have t1' : decide (4294967296 ≤ Q) = false := by simpa using t4
          have t2' : decide (4294967296 * R + d1 < Q * y0) = true := by simp; omega
          go_wp2
          go_round
          case rel => exact ⟨_, _, hnew, rfl, rfl⟩
          case measure => simp [intOf]; omega
    · have hq := hR.done F1 (by omega)
      rw [hq1.out] at hq
      subst hq
      have t1' : decide (4294967296 ≤ Q) = false := by simp; omega
      have t2' : decide (4294967296 * R + d1 < Q * y0) = false := by simp; omega
      clear hR r3
      go_wp2
      go_loop [18, 16] (fun q r => ∃ Q R : Int, Half.Rel v d0 y1 y0 Q R ∧ q = .int .u64 Q ∧ r = .int .u64 R) (fun q _ => (intOf q).toNat)
      case atStart => exact ⟨_, _, st2, rfl, rfl⟩
      case round =>
        clear st2 v3 v4
        obtain ⟨Q, R, hR, rfl, rfl⟩ := hrel
        obtain ⟨b1, b2, b3⟩ := hR.bounds F2
        obtain ⟨r1, r2, r3, r4, r5⟩ := id hR
        have hr1 := Lib.hid r1; clear r1
        by_cases t1 : 4294967296 ≤ Q ∨ 4294967296 * R + d0 < Q * y0
        · obtain ⟨n1, n2, n3⟩ := hR.again F2 t1
          by_cases t3 : 4294967296 ≤ R + y1
          · have hq := Half.broken F2 n1 n2 n3 t3
            rw [hq0.out] at hq
            obtain ⟨Q', rfl⟩ : ∃ Q', Q = Q' + 1 := ⟨Q - 1, by omega⟩
            have hq' : Q' = q0 := by omega
            subst hq'
            have t3' : decide (4294967296 ≤ R + y1) = true := by simpa using t3
            clear n1 n3 hq hR r3
            by_cases t4 : 4294967296 ≤ Q' + 1
            · have t1' : decide (4294967296 ≤ Q' + 1) = true := by simpa using t4
              go_wp2
              go_ret2
              exact ⟨rfl, by (repeat (first | with_reducible (exact Since.refl _) | with_reducible assumption | with_reducible (refine Since.drew ?_) | with_reducible (refine Since.drewN ?_ _) | with_reducible (refine Since.alloc ?_ _) | (with_reducible (refine Since.setCell ?_ ?_ _); rotate_left; focus (first | (simp; done) | (simp; omega) | omega)) | (with_reducible (refine Since.trans ?_ (by with_reducible assumption)))))⟩
            · have t1' : decide (4294967296 ≤ Q' + 1) = false := by simpa using t4
              have t2' : decide (4294967296 * R + d0 < (Q' + 1) * y0) = true := by simp; omega
              go_wp2
              go_ret2
              exact ⟨rfl, by (repeat (first | with_reducible (exact Since.refl _) | with_reducible assumption | with_reducible (refine Since.drew ?_) | with_reducible (refine Since.drewN ?_ _) | with_reducible (refine Since.alloc ?_ _) | (with_reducible (refine Since.setCell ?_ ?_ _); rotate_left; focus (first | (simp; done) | (simp; omega) | omega)) | (with_reducible (refine Since.trans ?_ (by with_reducible assumption)))))⟩
          · have t3' : decide (4294967296 ≤ R + y1) = false := by simpa using t3
            have hnew : Half.Rel v d0 y1 y0 (Q - 1) (R + y1) := ⟨n1, n2, n3, by omega, by omega⟩
            clear n1 n3 hR r3
            by_cases t4 : 4294967296 ≤ Q
            · have t1' : decide (4294967296 ≤ Q) = true := by simpa using t4
              go_wp2
              go_round
              case rel => exact ⟨_, _, hnew, rfl, rfl⟩
              case measure => simp [intOf]; omega
            · have t1' : decide (4294967296 ≤ Q) = false := by simpa using t4
              have t2' : decide (4294967296 * R + d0 < Q * y0) = true := by simp; omega
              go_wp2
              go_round
              case rel => exact ⟨_, _, hnew, rfl, rfl⟩
              case measure => simp [intOf]; omega
        · have hq := hR.done F2 (by omega)
          rw [hq0.out] at hq
          subst hq
          have t1' : decide (4294967296 ≤ Q) = false := by simp; omega
          have t2' : decide (4294967296 * R + d0 < Q * y0) = false := by simp; omega
          clear hR r3
          go_wp2
          go_ret2
          exact ⟨rfl, by (repeat (first | with_reducible (exact Since.refl _) | with_reducible assumption | with_reducible (refine Since.drew ?_) | with_reducible (refine Since.drewN ?_ _) | with_reducible (refine Since.alloc ?_ _) | (with_reducible (refine Since.setCell ?_ ?_ _); rotate_left; focus (first | (simp; done) | (simp; omega) | omega)) | (with_reducible (refine Since.trans ?_ (by with_reducible assumption)))))⟩
end Go.Proofs.YtckochcocflleaaGreat
