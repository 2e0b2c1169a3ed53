/-
  Texts of this seat, put together: each with its own head.
-/
import Derived.Test.YtcfghkphkmoikaaGreatKit
import Derived.Lib.Strings
import Derived.Lib.Slices
import Derived.Lib.Small
import Derived.Lib.Walk
import Derived.Lib.BitFns
import Derived.Lib.ItoaNum
import Derived.Test.YtcfghkphkmoikaaGreatMqW
import Derived.Deep.QuietTactic
import Derived.BigQuiet

/-
  math/bits.Len64 and LeadingZeros64 over this translation: how often a word that is not 0 can be doubled.
-/
namespace Go.Proofs.YtcfghkphkmoikaaGreat
set_option maxRecDepth 100000
open Go.RowKit
set_option linter.unusedVariables false

set_option maxHeartbeats 4000000 in
set_option maxRecDepth 100000 in
theorem len64 (x : Int) (w : World) (h0 : 0 ≤ x) (h1 : x ≤ 18446744073709551615) :
    Calls Tryz.prog 123 #[.int .u64 x] w fun e w' => e = .returned (.int .i64 (Lib.bitLen x.toNat)) ∧ w = w' := by
  have z0 : 0 ≤ x / 4294967296 / 65536 / 256 := by omega
  have c0 : x / 4294967296 / 65536 / 256 < 256 → x / 4294967296 / 65536 / 256 ≤ 255 := by omega
  have z1 : 0 ≤ x / 4294967296 / 65536 := by omega
  have c1 : x / 4294967296 / 65536 < 256 → x / 4294967296 / 65536 ≤ 255 := by omega
  have z2 : 0 ≤ x / 4294967296 / 256 := by omega
  have c2 : x / 4294967296 / 256 < 256 → x / 4294967296 / 256 ≤ 255 := by omega
  have z3 : 0 ≤ x / 4294967296 := by omega
  have c3 : x / 4294967296 < 256 → x / 4294967296 ≤ 255 := by omega
  have z4 : 0 ≤ x / 65536 / 256 := by omega
  have c4 : x / 65536 / 256 < 256 → x / 65536 / 256 ≤ 255 := by omega
  have z5 : 0 ≤ x / 65536 := by omega
  have c5 : x / 65536 < 256 → x / 65536 ≤ 255 := by omega
  have z6 : 0 ≤ x / 256 := by omega
  have c6 : x / 256 < 256 → x / 256 ≤ 255 := by omega
  have c7 : x < 256 → x ≤ 255 := by omega
  have u0 : x / 4294967296 / 65536 / 256 ≤ 255 := by omega
  have u1 : x / 4294967296 < 65536 → x / 4294967296 / 256 ≤ 255 := by omega
  have u2 : x < 4294967296 → x / 65536 / 256 ≤ 255 := by omega
  have u3 : x < 65536 → x / 256 ≤ 255 := by omega
  go_enter Tryz.func123, Tryz.ntmps123
  go_wp2
  all_goals (go_ret; refine ⟨congrArg Ending.returned (congrArg (Value.int IntKind.i64) ?_), rfl⟩)
  all_goals clear c0 c1 c2 c3 c4 c5 c6 c7 u0 u1 u2 u3 z0 z1 z2 z3 z4 z5 z6
  all_goals first
    | (rw [Lib.len8_of (x / 4294967296 / 65536 / 256) (by omega) (by omega)]
       have e : (x / 4294967296 / 65536 / 256).toNat = x.toNat / 72057594037927936 := by omega
       have l := Lib.bitLen_le8' (x / 4294967296 / 65536 / 256) (by omega) (by omega)
       have s := Lib.bitLen_shift56 x.toNat (by omega) (by omega)
       rw [e] at l ⊢
       unfold wrap64; omega)
    | (rw [Lib.len8_of (x / 4294967296 / 65536) (by omega) (by omega)]
       have e : (x / 4294967296 / 65536).toNat = x.toNat / 281474976710656 := by omega
       have l := Lib.bitLen_le8' (x / 4294967296 / 65536) (by omega) (by omega)
       have s := Lib.bitLen_shift48 x.toNat (by omega) (by omega)
       rw [e] at l ⊢
       unfold wrap64; omega)
    | (rw [Lib.len8_of (x / 4294967296 / 256) (by omega) (by omega)]
       have e : (x / 4294967296 / 256).toNat = x.toNat / 1099511627776 := by omega
       have l := Lib.bitLen_le8' (x / 4294967296 / 256) (by omega) (by omega)
       have s := Lib.bitLen_shift40 x.toNat (by omega) (by omega)
       rw [e] at l ⊢
       unfold wrap64; omega)
    | (rw [Lib.len8_of (x / 4294967296) (by omega) (by omega)]
       have e : (x / 4294967296).toNat = x.toNat / 4294967296 := by omega
       have l := Lib.bitLen_le8' (x / 4294967296) (by omega) (by omega)
       have s := Lib.bitLen_shift32 x.toNat (by omega) (by omega)
       rw [e] at l ⊢
       unfold wrap64; omega)
    | (rw [Lib.len8_of (x / 65536 / 256) (by omega) (by omega)]
       have e : (x / 65536 / 256).toNat = x.toNat / 16777216 := by omega
       have l := Lib.bitLen_le8' (x / 65536 / 256) (by omega) (by omega)
       have s := Lib.bitLen_shift24 x.toNat (by omega) (by omega)
       rw [e] at l ⊢
       unfold wrap64; omega)
    | (rw [Lib.len8_of (x / 65536) (by omega) (by omega)]
       have e : (x / 65536).toNat = x.toNat / 65536 := by omega
       have l := Lib.bitLen_le8' (x / 65536) (by omega) (by omega)
       have s := Lib.bitLen_shift16 x.toNat (by omega) (by omega)
       rw [e] at l ⊢
       unfold wrap64; omega)
    | (rw [Lib.len8_of (x / 256) (by omega) (by omega)]
       have e : (x / 256).toNat = x.toNat / 256 := by omega
       have l := Lib.bitLen_le8' (x / 256) (by omega) (by omega)
       have s := Lib.bitLen_shift8 x.toNat (by omega) (by omega)
       rw [e] at l ⊢
       unfold wrap64; omega)
    | (rw [Lib.len8_of x (by omega) (by omega)]
       have l := Lib.bitLen_le8' x (by omega) (by omega)
       unfold wrap64; omega)

/-- How often the word y, which is not 0, is doubled till its highest bit is set. -/
def lz (y : Int) : Nat := 64 - Lib.bitLen y.toNat
theorem lz_facts {y : Int} (h0 : 0 < y) (h1 : y < 18446744073709551616) : lz y ≤ 63 ∧ 9223372036854775808 ≤ y * 2 ^ lz y ∧ y * 2 ^ lz y < 18446744073709551616 := by
  obtain ⟨n, rfl⟩ := Int.eq_ofNat_of_zero_le (Int.le_of_lt h0)
  obtain ⟨b1, b2, b3⟩ := Lib.bitLenAux_bounds 64 n (by omega) (by omega)
  have b4 := Lib.bitLen_le n 64 (by omega) (by omega)
  have hb : Lib.bitLen n = Lib.bitLenAux 64 n := rfl
  rw [← hb] at b1 b2 b3
  unfold lz
  rw [Int.toNat_natCast]
  generalize Lib.bitLen n = k at *
  have p1 : 2 ^ (k - 1) * 2 ^ (64 - k) = 9223372036854775808 := by rw [← Nat.pow_add, show k - 1 + (64 - k) = 63 by omega]
  have p2 : 2 ^ k * 2 ^ (64 - k) = 18446744073709551616 := by rw [← Nat.pow_add, show k + (64 - k) = 64 by omega]
  have q1 : 2 ^ (k - 1) * 2 ^ (64 - k) ≤ n * 2 ^ (64 - k) := Nat.mul_le_mul_right _ b2
  have q2 : n * 2 ^ (64 - k) < 2 ^ k * 2 ^ (64 - k) := Nat.mul_lt_mul_of_pos_right b3 (Nat.two_pow_pos _)
  have e : ((n : Int) * 2 ^ (64 - k)) = ((n * 2 ^ (64 - k) : Nat) : Int) := by push_cast; rfl
  rw [e]
  omega

theorem leading64 (x : Int) (w : World) (h0 : 0 < x) (h1 : x < 18446744073709551616) :
    Calls Tryz.prog 174 #[.int .u64 x] w fun e w' => e = .returned (.int .i64 (lz x)) ∧ w = w' := by
  have b4 := Lib.bitLen_le x.toNat 64 (by omega) (by omega)
  have E : ((lz x : Nat) : Int) = 64 - (Lib.bitLen x.toNat : Int) := by unfold lz; omega
  rw [E]; clear E
  go_enter Tryz.func174, Tryz.ntmps174
  go_wp2_with (go_at_call 123; refine (len64 _ _ (by omega) (by omega)).mono ?_; rintro e w' ⟨rfl, rfl⟩)
  go_ret
  exact ⟨rfl, rfl⟩
end Go.Proofs.YtcfghkphkmoikaaGreat

/-
  The arithmetic of a division of two words by one, half a word at a time: no Go in sight.
-/
namespace Go.Proofs.YtcfghkphkmoikaaGreat
set_option maxRecDepth 100000
namespace Half
/-- The digit that is sought. -/
def digit (u d y1 y0 : Int) : Int := (u * 4294967296 + d) / (y1 * 4294967296 + y0)
def rest (u d y1 y0 : Int) : Int := (u * 4294967296 + d) % (y1 * 4294967296 + y0)

/-- What is known all along: the divisor's halves, and what is left. -/
structure Fit (u d y1 y0 : Int) : Prop where
  d0 : 0 ≤ d
  d1 : d < 4294967296
  a0 : 2147483648 ≤ y1
  a1 : y1 < 4294967296
  b0 : 0 ≤ y0
  b1 : y0 < 4294967296
  u0 : 0 ≤ u
  u1 : u < y1 * 4294967296 + y0

section
variable {u d y1 y0 Q R : Int}
theorem mulY (Q y1 y0 : Int) : Q * (y1 * 4294967296 + y0) = Q * y1 * 4294967296 + Q * y0 := by rw [Int.mul_add, Int.mul_assoc]

theorem digit_nonneg (h : Fit u d y1 y0) : 0 ≤ digit u d y1 y0 := by
  obtain ⟨d0, d1, a0, a1, b0, b1, u0, u1⟩ := h
  exact Int.ediv_nonneg (by omega) (by omega)
theorem digit_lt (h : Fit u d y1 y0) : digit u d y1 y0 < 4294967296 := by
  obtain ⟨d0, d1, a0, a1, b0, b1, u0, u1⟩ := h
  unfold digit
  exact Int.ediv_lt_of_lt_mul (by omega) (by omega)
/-- A guess whose product fits is no greater than the digit. -/
theorem guess_le (h : Fit u d y1 y0) (hQ : Q * y1 + R = u) (ht : Q * y0 ≤ 4294967296 * R + d) : Q ≤ digit u d y1 y0 := by
  obtain ⟨d0, d1, a0, a1, b0, b1, u0, u1⟩ := h
  unfold digit
  refine Int.le_ediv_of_mul_le (by omega) ?_
  rw [mulY]
  omega
theorem le_guess (h : Fit u d y1 y0) (hQ : Q * y1 + R = u) (hx : 4294967296 ≤ Q ∨ 4294967296 * R + d < Q * y0) : digit u d y1 y0 ≠ Q := by
  intro e
  have hl := digit_lt h
  obtain ⟨d0, d1, a0, a1, b0, b1, u0, u1⟩ := h
  rcases hx with hx | hx
  · omega
  · have : digit u d y1 y0 * (y1 * 4294967296 + y0) ≤ u * 4294967296 + d := Int.ediv_mul_le _ (by omega)
    rw [e, mulY] at this
    omega
/-- The first guess. -/
theorem first (h : Fit u d y1 y0) : digit u d y1 y0 ≤ u / y1 := by
  obtain ⟨d0, d1, a0, a1, b0, b1, u0, u1⟩ := h
  refine Int.le_ediv_of_mul_le (by omega) ?_
  have h1 : digit u d y1 y0 * (y1 * 4294967296 + y0) ≤ u * 4294967296 + d := Int.ediv_mul_le _ (by omega)
  have h0 : 0 ≤ digit u d y1 y0 := Int.ediv_nonneg (by omega) (by omega)
  have h2 : 0 ≤ digit u d y1 y0 * y0 := Int.mul_nonneg h0 b0
  rw [mulY] at h1
  omega
theorem guess_bd (h : Fit u d y1 y0) (hQ : Q * y1 + R = u) (hR : 0 ≤ R) : Q ≤ 4294967297 := by
  obtain ⟨d0, d1, a0, a1, b0, b1, u0, u1⟩ := h
  have : Q * y1 < 4294967298 * y1 := by omega
  have := Int.lt_of_mul_lt_mul_right this (by omega)
  omega
theorem broken (h : Fit u d y1 y0) (hQ : Q * y1 + R = u) (hQ0 : 0 ≤ Q) (hd : digit u d y1 y0 ≤ Q) (hR : 4294967296 ≤ R) : Q = digit u d y1 y0 := by
  refine Int.le_antisymm (guess_le h hQ ?_) hd
  obtain ⟨d0, d1, a0, a1, b0, b1, u0, u1⟩ := h
  have h1 : Q * y1 < 4294967296 * y1 := by omega
  have h2 := Int.lt_of_mul_lt_mul_right h1 (by omega)
  have h3 : Q * y0 ≤ 4294967295 * 4294967295 := Int.mul_le_mul (by omega) (by omega) b0 (by omega)
  omega
theorem rest_eq (u d y1 y0 : Int) : u * 4294967296 + d - digit u d y1 y0 * (y1 * 4294967296 + y0) = rest u d y1 y0 := by
  unfold digit rest
  have := Int.mul_ediv_add_emod (u * 4294967296 + d) (y1 * 4294967296 + y0)
  rw [Int.mul_comm] at this
  omega
theorem rest_bd (h : Fit u d y1 y0) : 0 ≤ rest u d y1 y0 ∧ rest u d y1 y0 < y1 * 4294967296 + y0 := by
  obtain ⟨d0, d1, a0, a1, b0, b1, u0, u1⟩ := h
  exact ⟨Int.emod_nonneg _ (by omega), Int.emod_lt_of_pos _ (by omega)⟩
/-- The loop's relation. -/
def Rel (u d y1 y0 Q R : Int) : Prop := Q * y1 + R = u ∧ 0 ≤ Q ∧ digit u d y1 y0 ≤ Q ∧ 0 ≤ R ∧ R < 4294967296
theorem Rel.start (h : Fit u d y1 y0) : Rel u d y1 y0 (u / y1) (u - u / y1 * y1) := by
  have hf := first h
  have hn := digit_nonneg h
  obtain ⟨d0, d1, a0, a1, b0, b1, u0, u1⟩ := h
  have e := Int.mul_ediv_add_emod u y1
  have b := Int.emod_lt_of_pos u (show 0 < y1 by omega)
  have c := Int.emod_nonneg u (show y1 ≠ 0 by omega)
  rw [Int.mul_comm] at e
  exact ⟨by omega, by omega, hf, by omega, by omega⟩
theorem Rel.again (h : Fit u d y1 y0) (r : Rel u d y1 y0 Q R) (hx : 4294967296 ≤ Q ∨ 4294967296 * R + d < Q * y0) : (Q - 1) * y1 + (R + y1) = u ∧ 0 ≤ Q - 1 ∧ digit u d y1 y0 ≤ Q - 1 := by
  obtain ⟨r1, r2, r3, r4, r5⟩ := r
  have := le_guess h r1 hx
  have := digit_nonneg h
  refine ⟨?_, by omega, by omega⟩
  rw [Int.sub_mul]; omega
theorem Rel.done (h : Fit u d y1 y0) (r : Rel u d y1 y0 Q R) (hx : Q * y0 ≤ 4294967296 * R + d) : Q = digit u d y1 y0 :=
  Int.le_antisymm (guess_le h r.1 hx) r.2.2.1
theorem Rel.bounds (h : Fit u d y1 y0) (r : Rel u d y1 y0 Q R) : Q ≤ 4294967297 ∧ 0 ≤ Q * y0 ∧ Q * y0 < 18446744073709551616 := by
  have hb := guess_bd h r.1 r.2.2.2.1
  obtain ⟨d0, d1, a0, a1, b0, b1, u0, u1⟩ := h
  have h3 : Q * y0 ≤ 4294967297 * 4294967295 := Int.mul_le_mul (by omega) (by omega) b0 (by omega)
  exact ⟨hb, Int.mul_nonneg r.2.1 b0, by omega⟩
end

/-- Two halves of a quotient, and what is left, are those of the whole. -/
theorem whole {u d1 d0 y1 y0 : Int} (h1 : Fit u d1 y1 y0) (h2 : Fit (rest u d1 y1 y0) d0 y1 y0) :
    digit u d1 y1 y0 * 4294967296 + digit (rest u d1 y1 y0) d0 y1 y0 = (u * 18446744073709551616 + d1 * 4294967296 + d0) / (y1 * 4294967296 + y0) ∧
    rest (rest u d1 y1 y0) d0 y1 y0 = (u * 18446744073709551616 + d1 * 4294967296 + d0) % (y1 * 4294967296 + y0) := by
  have e1 := rest_eq u d1 y1 y0
  have e2 := rest_eq (rest u d1 y1 y0) d0 y1 y0
  have b2 := rest_bd h2
  have a0 := h1.a0; have b0 := h1.b0
  generalize rest (rest u d1 y1 y0) d0 y1 y0 = r at *
  generalize rest u d1 y1 y0 = v at *
  generalize digit u d1 y1 y0 = p at *
  generalize digit v d0 y1 y0 = q at *
  have hy : 0 < y1 * 4294967296 + y0 := by omega
  generalize y1 * 4294967296 + y0 = y at *
  have key : u * 18446744073709551616 + d1 * 4294967296 + d0 = r + (p * 4294967296 + q) * y := by
    rw [Int.add_mul, Int.mul_right_comm]
    omega
  rw [key]
  constructor
  · rw [Int.add_mul_ediv_right _ _ (by omega), Int.ediv_eq_zero_of_lt b2.1 b2.2]; omega
  · rw [Int.add_mul_emod_self_right, Int.emod_eq_of_lt b2.1 b2.2]
end Half
end Go.Proofs.YtcfghkphkmoikaaGreat

/-
  math/bits.Div64 over this translation: two words by one.
-/
namespace Go.Proofs.YtcfghkphkmoikaaGreat
set_option maxRecDepth 100000
open Go.RowKit
set_option linter.unusedVariables false

theorem div64_low (lo y : Int) (l0 : 0 ≤ lo) (l1 : lo < 18446744073709551616) (y0 : 0 < y) (y1 : y < 18446744073709551616) (w : World) :
    Calls Tryz.prog 170 #[.int .u64 0, .int .u64 lo, .int .u64 y] w fun e w' => e = .returned (.tuple #[.int .u64 (lo / y), .int .u64 (lo % y)]) ∧ Since w w' := by
  have h1 : (y == 0) = false := by simp; omega
  have h2 : decide (y ≤ 0) = false := by simp; omega
  go_enter Tryz.func170, Tryz.ntmps170
  go_wp2
  go_quiet (fail)
  go_wp2
  go_ret2
  exact ⟨rfl, by (repeat (first | with_reducible (exact Since.refl _) | with_reducible assumption | with_reducible (refine Since.drew ?_) | with_reducible (refine Since.drewN ?_ _) | with_reducible (refine Since.alloc ?_ _) | (with_reducible (refine Since.setCell ?_ ?_ _); rotate_left; focus (first | (simp; done) | (simp; omega) | omega)) | (with_reducible (refine Since.trans ?_ (by with_reducible assumption)))))⟩


set_option maxHeartbeats 2000000 in
theorem div64_walk (hi lo y yy y1 y0 u d1 d0 q1 v q0 r : Int) (a0 : 0 < hi) (a1 : hi < y) (l0 : 0 ≤ lo) (l1 : lo < 18446744073709551616) (yb : y < 18446744073709551616)
    (hYY : y * 2 ^ lz y = yy) (hY1 : yy / 4294967296 = y1) (hY0 : bits .and .u64 yy 4294967295 = y0)
    (hU : bits .or .u64 (IntKind.u64.wrap (hi * 2 ^ lz y)) (lo / 2 ^ (64 - lz y)) = u) (hL1 : IntKind.u64.wrap (lo * 2 ^ lz y) / 4294967296 = d1) (hL0 : bits .and .u64 (IntKind.u64.wrap (lo * 2 ^ lz y)) 4294967295 = d0)
    (hyy : y1 * 4294967296 + y0 = yy) (F1 : Half.Fit u d1 y1 y0) (F2 : Half.Fit v d0 y1 y0)
    (e1 : Half.digit u d1 y1 y0 = q1) (e2 : Half.rest u d1 y1 y0 = v) (e3 : Half.digit v d0 y1 y0 = q0) (e4 : Half.rest v d0 y1 y0 = r) (w : World) :
    Calls Tryz.prog 170 #[.int .u64 hi, .int .u64 lo, .int .u64 y] w fun e w' => e = .returned (.tuple #[.int .u64 (q1 * 4294967296 + q0), .int .u64 (r / 2 ^ lz y)]) ∧ Since w w' := by
  have h1 : (y == 0) = false := by simp; omega
  have h2 : decide (y ≤ hi) = false := by simp; omega
  have h3 : (hi == 0) = false := by simp; omega
  obtain ⟨s0, s1, s2⟩ := lz_facts (y := y) (by omega) yb
  rw [hYY] at s1 s2
  obtain ⟨g1, g2, g3, g4, g5, g6, g7, g8⟩ := id F1
  obtain ⟨c1, c2, _, _, _, _, c7, c8⟩ := id F2
  have st := Half.Rel.start F1
  have st2 := Half.Rel.start F2
  have hdiv : ∀ x : Int, 0 ≤ x → 0 ≤ x / y1 * y1 ∧ x / y1 * y1 ≤ x := fun x hx => ⟨Int.mul_nonneg (Int.ediv_nonneg (by omega) (by omega)) (by omega), Int.ediv_mul_le x (b := y1) (by omega)⟩
  obtain ⟨v1, v2⟩ := hdiv u (by omega)
  obtain ⟨v3, v4⟩ := hdiv v (by omega)
  clear hdiv
  have E1 : IntKind.u64.wrap (IntKind.u64.wrap (IntKind.u64.wrap (u * 4294967296) + d1) - IntKind.u64.wrap (q1 * yy)) = v := by
    have := Half.rest_eq u d1 y1 y0
    rw [e1, e2, hyy] at this
    simp only [IntKind.wrap_u64]
    generalize q1 * yy = p at *
    omega
  have hr := Half.rest_bd F2
  rw [e4, hyy] at hr
  obtain ⟨hr0, hr1⟩ := hr
  have E2 : IntKind.u64.wrap (IntKind.u64.wrap (IntKind.u64.wrap (v * 4294967296) + d0) - IntKind.u64.wrap (q0 * yy)) = r := by
    have := Half.rest_eq v d0 y1 y0
    rw [e3, e4, hyy] at this
    simp only [IntKind.wrap_u64]
    generalize q0 * yy = p at *
    omega
  have B1 := Half.digit_lt F1; have B2 := Half.digit_nonneg F1
  have B3 := Half.digit_lt F2; have B4 := Half.digit_nonneg F2
  rw [e1] at B1 B2; rw [e3] at B3 B4
  have hq1 := Lib.hid e1; have hq0 := Lib.hid e3
  clear e1 e2 e3 e4 hyy
  go_enter Tryz.func170, Tryz.ntmps170
  go_wp2_with (go_at_call 174; refine (leading64 y _ (by omega) yb).mono ?_; rintro e w' ⟨rfl, rfl⟩)
  clear hYY hY1 hY0 hU hL1 hL0
  go_loop [15, 16] (fun q r => ∃ Q R : Int, Half.Rel u d1 y1 y0 Q R ∧ q = .int .u64 Q ∧ r = .int .u64 R) (fun q _ => (intOf q).toNat)
  case atStart => exact ⟨_, _, st, rfl, rfl⟩
  case round =>
    clear st v1 v2
    obtain ⟨Q, R, hR, rfl, rfl⟩ := hrel
    obtain ⟨b1, b2, b3⟩ := hR.bounds F1
    obtain ⟨r1, r2, r3, r4, r5⟩ := id hR
    have hr1' := Lib.hid r1; clear r1
    by_cases t1 : 4294967296 ≤ Q ∨ 4294967296 * R + d1 < Q * y0
    · obtain ⟨n1, n2, n3⟩ := hR.again F1 t1
      by_cases t3 : 4294967296 ≤ R + y1
      · have hq := Half.broken F1 n1 n2 n3 t3
        rw [hq1.out] at hq
        obtain ⟨Q', rfl⟩ : ∃ Q', Q = Q' + 1 := ⟨Q - 1, by omega⟩
        have hq' : Q' = q1 := by omega
        subst hq'
        have t3' : decide (4294967296 ≤ R + y1) = true := by simpa using t3
        clear n1 n3 hq hR r3
        by_cases t4 : 4294967296 ≤ Q' + 1
        · have t1' : decide (4294967296 ≤ Q' + 1) = true := by simpa using t4
          go_wp2
          go_loop [18, 16] (fun q r => ∃ Q R : Int, Half.Rel v d0 y1 y0 Q R ∧ q = .int .u64 Q ∧ r = .int .u64 R) (fun q _ => (intOf q).toNat)
          case atStart => exact ⟨_, _, st2, rfl, rfl⟩
          case round =>
            clear st2 v3 v4
            obtain ⟨Q, R, hR, rfl, rfl⟩ := hrel
            obtain ⟨b1, b2, b3⟩ := hR.bounds F2
            obtain ⟨r1, r2, r3, r4, r5⟩ := id hR
            have hr1 := Lib.hid r1; clear r1
            by_cases t1 : 4294967296 ≤ Q ∨ 4294967296 * R + d0 < Q * y0
            · obtain ⟨n1, n2, n3⟩ := hR.again F2 t1
              by_cases t3 : 4294967296 ≤ R + y1
              · have hq := Half.broken F2 n1 n2 n3 t3
                rw [hq0.out] at hq
                obtain ⟨Q', rfl⟩ : ∃ Q', Q = Q' + 1 := ⟨Q - 1, by omega⟩
                have hq' : Q' = q0 := by omega
                subst hq'
                have t3' : decide (4294967296 ≤ R + y1) = true := by simpa using t3
                clear n1 n3 hq hR r3
                by_cases t4 : 4294967296 ≤ Q' + 1
                · have t1' : decide (4294967296 ≤ Q' + 1) = true := by simpa using t4
                  go_wp2
                  go_ret2
                  exact ⟨rfl, by (repeat (first | with_reducible (exact Since.refl _) | with_reducible assumption | with_reducible (refine Since.drew ?_) | with_reducible (refine Since.drewN ?_ _) | with_reducible (refine Since.alloc ?_ _) | (with_reducible (refine Since.setCell ?_ ?_ _); rotate_left; focus (first | (simp; done) | (simp; omega) | omega)) | (with_reducible (refine Since.trans ?_ (by with_reducible assumption)))))⟩
                · have t1' : decide (4294967296 ≤ Q' + 1) = false := by simpa using t4
                  have t2' : decide (4294967296 * R + d0 < (Q' + 1) * y0) = true := by simp; omega
                  go_wp2
                  go_ret2
                  exact ⟨rfl, by (repeat (first | with_reducible (exact Since.refl _) | with_reducible assumption | with_reducible (refine Since.drew ?_) | with_reducible (refine Since.drewN ?_ _) | with_reducible (refine Since.alloc ?_ _) | (with_reducible (refine Since.setCell ?_ ?_ _); rotate_left; focus (first | (simp; done) | (simp; omega) | omega)) | (with_reducible (refine Since.trans ?_ (by with_reducible assumption)))))⟩
              · have t3' : decide (4294967296 ≤ R + y1) = false := by simpa using t3
                have hnew : Half.Rel v d0 y1 y0 (Q - 1) (R + y1) := ⟨n1, n2, n3, by omega, by omega⟩
                clear n1 n3 hR r3
                by_cases t4 : 4294967296 ≤ Q
                · have t1' : decide (4294967296 ≤ Q) = true := by simpa using t4
                  go_wp2
                  go_round
                  case rel => exact ⟨_, _, hnew, rfl, rfl⟩
                  case measure => simp [intOf]; omega
                · have t1' : decide (4294967296 ≤ Q) = false := by simpa using t4
                  have t2' : decide (4294967296 * R + d0 < Q * y0) = true := by simp; omega
                  go_wp2
                  go_round
                  case rel => exact ⟨_, _, hnew, rfl, rfl⟩
                  case measure => simp [intOf]; omega
            · have hq := hR.done F2 (by omega)
              rw [hq0.out] at hq
              subst hq
              have t1' : decide (4294967296 ≤ Q) = false := by simp; omega
              have t2' : decide (4294967296 * R + d0 < Q * y0) = false := by simp; omega
              clear hR r3
              go_wp2
              go_ret2
              exact ⟨rfl, by (repeat (first | with_reducible (exact Since.refl _) | with_reducible assumption | with_reducible (refine Since.drew ?_) | with_reducible (refine Since.drewN ?_ _) | with_reducible (refine Since.alloc ?_ _) | (with_reducible (refine Since.setCell ?_ ?_ _); rotate_left; focus (first | (simp; done) | (simp; omega) | omega)) | (with_reducible (refine Since.trans ?_ (by with_reducible assumption)))))⟩
        · have t1' : decide (4294967296 ≤ Q' + 1) = false := by simpa using t4
          have t2' : decide (4294967296 * R + d1 < (Q' + 1) * y0) = true := by simp; omega
          go_wp2
          go_loop [18, 16] (fun q r => ∃ Q R : Int, Half.Rel v d0 y1 y0 Q R ∧ q = .int .u64 Q ∧ r = .int .u64 R) (fun q _ => (intOf q).toNat)
          case atStart => exact ⟨_, _, st2, rfl, rfl⟩
          case round =>
            clear st2 v3 v4
            obtain ⟨Q, R, hR, rfl, rfl⟩ := hrel
            obtain ⟨b1, b2, b3⟩ := hR.bounds F2
            obtain ⟨r1, r2, r3, r4, r5⟩ := id hR
            have hr1 := Lib.hid r1; clear r1
            by_cases t1 : 4294967296 ≤ Q ∨ 4294967296 * R + d0 < Q * y0
            · obtain ⟨n1, n2, n3⟩ := hR.again F2 t1
              by_cases t3 : 4294967296 ≤ R + y1
              · have hq := Half.broken F2 n1 n2 n3 t3
                rw [hq0.out] at hq
                obtain ⟨Q', rfl⟩ : ∃ Q', Q = Q' + 1 := ⟨Q - 1, by omega⟩
                have hq' : Q' = q0 := by omega
                subst hq'
                have t3' : decide (4294967296 ≤ R + y1) = true := by simpa using t3
                clear n1 n3 hq hR r3
                by_cases t4 : 4294967296 ≤ Q' + 1
                · have t1' : decide (4294967296 ≤ Q' + 1) = true := by simpa using t4
                  go_wp2
                  go_ret2
                  exact ⟨rfl, by (repeat (first | with_reducible (exact Since.refl _) | with_reducible assumption | with_reducible (refine Since.drew ?_) | with_reducible (refine Since.drewN ?_ _) | with_reducible (refine Since.alloc ?_ _) | (with_reducible (refine Since.setCell ?_ ?_ _); rotate_left; focus (first | (simp; done) | (simp; omega) | omega)) | (with_reducible (refine Since.trans ?_ (by with_reducible assumption)))))⟩
                · have t1' : decide (4294967296 ≤ Q' + 1) = false := by simpa using t4
                  have t2' : decide (4294967296 * R + d0 < (Q' + 1) * y0) = true := by simp; omega
                  go_wp2
                  go_ret2
                  exact ⟨rfl, by (repeat (first | with_reducible (exact Since.refl _) | with_reducible assumption | with_reducible (refine Since.drew ?_) | with_reducible (refine Since.drewN ?_ _) | with_reducible (refine Since.alloc ?_ _) | (with_reducible (refine Since.setCell ?_ ?_ _); rotate_left; focus (first | (simp; done) | (simp; omega) | omega)) | (with_reducible (refine Since.trans ?_ (by with_reducible assumption)))))⟩
              · have t3' : decide (4294967296 ≤ R + y1) = false := by simpa using t3
                have hnew : Half.Rel v d0 y1 y0 (Q - 1) (R + y1) := ⟨n1, n2, n3, by omega, by omega⟩
                clear n1 n3 hR r3
                by_cases t4 : 4294967296 ≤ Q
                · have t1' : decide (4294967296 ≤ Q) = true := by simpa using t4
                  go_wp2
                  go_round
                  case rel => exact ⟨_, _, hnew, rfl, rfl⟩
                  case measure => simp [intOf]; omega
                · have t1' : decide (4294967296 ≤ Q) = false := by simpa using t4
                  have t2' : decide (4294967296 * R + d0 < Q * y0) = true := by simp; omega
                  go_wp2
                  go_round
                  case rel => exact ⟨_, _, hnew, rfl, rfl⟩
                  case measure => simp [intOf]; omega
            · have hq := hR.done F2 (by omega)
              rw [hq0.out] at hq
              subst hq
              have t1' : decide (4294967296 ≤ Q) = false := by simp; omega
              have t2' : decide (4294967296 * R + d0 < Q * y0) = false := by simp; omega
              clear hR r3
              go_wp2
              go_ret2
              exact ⟨rfl, by (repeat (first | with_reducible (exact Since.refl _) | with_reducible assumption | with_reducible (refine Since.drew ?_) | with_reducible (refine Since.drewN ?_ _) | with_reducible (refine Since.alloc ?_ _) | (with_reducible (refine Since.setCell ?_ ?_ _); rotate_left; focus (first | (simp; done) | (simp; omega) | omega)) | (with_reducible (refine Since.trans ?_ (by with_reducible assumption)))))⟩
      · have t3' : decide (4294967296 ≤ R + y1) = false := by simpa using t3
        have hnew : Half.Rel u d1 y1 y0 (Q - 1) (R + y1) := ⟨n1, n2, n3, by omega, by omega⟩
        clear n1 n3 hR r3 st2 v3 v4
        by_cases t4 : 4294967296 ≤ Q
        · have t1' : decide (4294967296 ≤ Q) = true := by simpa using t4
          go_wp2
          go_round
          case rel => exact ⟨_, _, hnew, rfl, rfl⟩
          case measure => simp [intOf]; omega
        · have t1' : decide (4294967296 ≤ Q) = false := by simpa using t4
          have t2' : decide (4294967296 * R + d1 < Q * y0) = true := by simp; omega
          go_wp2
          go_round
          case rel => exact ⟨_, _, hnew, rfl, rfl⟩
          case measure => simp [intOf]; omega
    · have hq := hR.done F1 (by omega)
      rw [hq1.out] at hq
      subst hq
      have t1' : decide (4294967296 ≤ Q) = false := by simp; omega
      have t2' : decide (4294967296 * R + d1 < Q * y0) = false := by simp; omega
      clear hR r3
      go_wp2
      go_loop [18, 16] (fun q r => ∃ Q R : Int, Half.Rel v d0 y1 y0 Q R ∧ q = .int .u64 Q ∧ r = .int .u64 R) (fun q _ => (intOf q).toNat)
      case atStart => exact ⟨_, _, st2, rfl, rfl⟩
      case round =>
        clear st2 v3 v4
        obtain ⟨Q, R, hR, rfl, rfl⟩ := hrel
        obtain ⟨b1, b2, b3⟩ := hR.bounds F2
        obtain ⟨r1, r2, r3, r4, r5⟩ := id hR
        have hr1 := Lib.hid r1; clear r1
        by_cases t1 : 4294967296 ≤ Q ∨ 4294967296 * R + d0 < Q * y0
        · obtain ⟨n1, n2, n3⟩ := hR.again F2 t1
          by_cases t3 : 4294967296 ≤ R + y1
          · have hq := Half.broken F2 n1 n2 n3 t3
            rw [hq0.out] at hq
            obtain ⟨Q', rfl⟩ : ∃ Q', Q = Q' + 1 := ⟨Q - 1, by omega⟩
            have hq' : Q' = q0 := by omega
            subst hq'
            have t3' : decide (4294967296 ≤ R + y1) = true := by simpa using t3
            clear n1 n3 hq hR r3
            by_cases t4 : 4294967296 ≤ Q' + 1
            · have t1' : decide (4294967296 ≤ Q' + 1) = true := by simpa using t4
              go_wp2
              go_ret2
              exact ⟨rfl, by (repeat (first | with_reducible (exact Since.refl _) | with_reducible assumption | with_reducible (refine Since.drew ?_) | with_reducible (refine Since.drewN ?_ _) | with_reducible (refine Since.alloc ?_ _) | (with_reducible (refine Since.setCell ?_ ?_ _); rotate_left; focus (first | (simp; done) | (simp; omega) | omega)) | (with_reducible (refine Since.trans ?_ (by with_reducible assumption)))))⟩
            · have t1' : decide (4294967296 ≤ Q' + 1) = false := by simpa using t4
              have t2' : decide (4294967296 * R + d0 < (Q' + 1) * y0) = true := by simp; omega
              go_wp2
              go_ret2
              exact ⟨rfl, by (repeat (first | with_reducible (exact Since.refl _) | with_reducible assumption | with_reducible (refine Since.drew ?_) | with_reducible (refine Since.drewN ?_ _) | with_reducible (refine Since.alloc ?_ _) | (with_reducible (refine Since.setCell ?_ ?_ _); rotate_left; focus (first | (simp; done) | (simp; omega) | omega)) | (with_reducible (refine Since.trans ?_ (by with_reducible assumption)))))⟩
          · have t3' : decide (4294967296 ≤ R + y1) = false := by simpa using t3
            have hnew : Half.Rel v d0 y1 y0 (Q - 1) (R + y1) := ⟨n1, n2, n3, by omega, by omega⟩
            clear n1 n3 hR r3
            by_cases t4 : 4294967296 ≤ Q
            · have t1' : decide (4294967296 ≤ Q) = true := by simpa using t4
              go_wp2
              go_round
              case rel => exact ⟨_, _, hnew, rfl, rfl⟩
              case measure => simp [intOf]; omega
            · have t1' : decide (4294967296 ≤ Q) = false := by simpa using t4
              have t2' : decide (4294967296 * R + d0 < Q * y0) = true := by simp; omega
              go_wp2
              go_round
              case rel => exact ⟨_, _, hnew, rfl, rfl⟩
              case measure => simp [intOf]; omega
        · have hq := hR.done F2 (by omega)
          rw [hq0.out] at hq
          subst hq
          have t1' : decide (4294967296 ≤ Q) = false := by simp; omega
          have t2' : decide (4294967296 * R + d0 < Q * y0) = false := by simp; omega
          clear hR r3
          go_wp2
          go_ret2
          exact ⟨rfl, by (repeat (first | with_reducible (exact Since.refl _) | with_reducible assumption | with_reducible (refine Since.drew ?_) | with_reducible (refine Since.drewN ?_ _) | with_reducible (refine Since.alloc ?_ _) | (with_reducible (refine Since.setCell ?_ ?_ _); rotate_left; focus (first | (simp; done) | (simp; omega) | omega)) | (with_reducible (refine Since.trans ?_ (by with_reducible assumption)))))⟩
end Go.Proofs.YtcfghkphkmoikaaGreat

/-
  math/bits.Div64 and the program's division: two words by one, rounded down.
-/
namespace Go.Proofs.YtcfghkphkmoikaaGreat
set_option maxRecDepth 100000
open Go.RowKit
set_option linter.unusedVariables false

theorem mask32 (x : Int) (h0 : 0 ≤ x) (h1 : x < 18446744073709551616) : bits .and .u64 x 4294967295 = x % 4294967296 := by
  obtain ⟨n, rfl⟩ := Int.eq_ofNat_of_zero_le h0
  rw [Mul64.maskN n (by omega)]
  omega
theorem or_parts (a b : Int) (s : Nat) (a0 : 0 ≤ a) (b0 : 0 ≤ b) (h : b < 2 ^ s) (h1 : a * 2 ^ s + b < 18446744073709551616) : bits .or .u64 (a * 2 ^ s) b = a * 2 ^ s + b := by
  obtain ⟨m, rfl⟩ := Int.eq_ofNat_of_zero_le a0
  obtain ⟨n, rfl⟩ := Int.eq_ofNat_of_zero_le b0
  have hc : ((m : Int) * 2 ^ s) = ((2 ^ s * m : Nat) : Int) := by push_cast; rw [Int.mul_comm]
  have hp : ((2 : Int) ^ s) = ((2 ^ s : Nat) : Int) := by push_cast; rfl
  rw [hp] at h
  rw [hc] at h1 ⊢
  have hn : n < 2 ^ s := by omega
  have := Nat.two_pow_add_eq_or_of_lt hn m
  rw [bits_or_u64_nat _ _ (by omega) (by omega), ← this]
  omega

theorem div64 (hi lo y : Int) (a0 : 0 ≤ hi) (a1 : hi < y) (l0 : 0 ≤ lo) (l1 : lo < 18446744073709551616) (yb : y < 18446744073709551616) (w : World) :
    Calls Tryz.prog 170 #[.int .u64 hi, .int .u64 lo, .int .u64 y] w fun e w' => e = .returned (.tuple #[.int .u64 ((hi * 18446744073709551616 + lo) / y), .int .u64 ((hi * 18446744073709551616 + lo) % y)]) ∧ Since w w' := by
  rcases Int.lt_or_eq_of_le a0 with h | h
  · obtain ⟨s0, s1, s2⟩ := lz_facts (y := y) (by omega) yb
    have hpow : (2 : Int) ^ lz y * 2 ^ (64 - lz y) = 18446744073709551616 := by rw [← Int.pow_add, show lz y + (64 - lz y) = 64 by omega]; rfl
    have hs : 0 < (2 : Int) ^ lz y := Int.pow_pos (by omega)
    have ht : 0 < (2 : Int) ^ (64 - lz y) := Int.pow_pos (by omega)
    have hm : hi * 2 ^ lz y < y * 2 ^ lz y := Int.mul_lt_mul_of_pos_right a1 hs
    have hm1 : (hi + 1) * 2 ^ lz y ≤ y * 2 ^ lz y := Int.mul_le_mul_of_nonneg_right (by omega) (by omega)
    have hm0 : 0 ≤ hi * 2 ^ lz y := Int.mul_nonneg a0 (by omega)
    have hq : lo / 2 ^ (64 - lz y) < 2 ^ lz y := Int.ediv_lt_of_lt_mul ht (by rw [hpow]; omega)
    have hq0 : 0 ≤ lo / 2 ^ (64 - lz y) := Int.ediv_nonneg l0 (by omega)
    rw [Int.add_mul, Int.one_mul] at hm1
    have hw : IntKind.u64.wrap (hi * 2 ^ lz y) = hi * 2 ^ lz y := by rw [IntKind.wrap_u64]; omega
    have hor := or_parts hi (lo / 2 ^ (64 - lz y)) (lz y) a0 hq0 hq (by omega)
    -- the word below: lo doubled, without what has gone up
    have hlow : lo * 2 ^ lz y = lo / 2 ^ (64 - lz y) * 18446744073709551616 + IntKind.u64.wrap (lo * 2 ^ lz y) := by
      have e1 : lo * 2 ^ lz y = lo / 2 ^ (64 - lz y) * 18446744073709551616 + lo % 2 ^ (64 - lz y) * 2 ^ lz y := by
        have := Int.mul_ediv_add_emod lo (2 ^ (64 - lz y))
        calc lo * 2 ^ lz y = (2 ^ (64 - lz y) * (lo / 2 ^ (64 - lz y)) + lo % 2 ^ (64 - lz y)) * 2 ^ lz y := by rw [this]
          _ = _ := by rw [Int.add_mul, ← hpow, Int.mul_comm (2 ^ (64 - lz y)) (lo / _), Int.mul_assoc, Int.mul_comm (2 ^ (64 - lz y)) (2 ^ lz y)]
      have b1 : lo % 2 ^ (64 - lz y) * 2 ^ lz y < 2 ^ (64 - lz y) * 2 ^ lz y := Int.mul_lt_mul_of_pos_right (Int.emod_lt_of_pos _ ht) hs
      have b0 : 0 ≤ lo % 2 ^ (64 - lz y) * 2 ^ lz y := Int.mul_nonneg (Int.emod_nonneg _ (by omega)) (by omega)
      rw [Int.mul_comm (2 ^ (64 - lz y)), hpow] at b1
      rw [IntKind.wrap_u64]
      generalize lo % 2 ^ (64 - lz y) * 2 ^ lz y = t at *
      generalize lo * 2 ^ lz y = x at *
      omega
    obtain ⟨w0, w1⟩ := u64_bd (lo * 2 ^ lz y)
    have F1 : Half.Fit (hi * 2 ^ lz y + lo / 2 ^ (64 - lz y)) (IntKind.u64.wrap (lo * 2 ^ lz y) / 4294967296) (y * 2 ^ lz y / 4294967296) (y * 2 ^ lz y % 4294967296) :=
      ⟨by omega, by omega, by omega, by omega, by omega, by omega, by omega, by omega⟩
    have hr := Half.rest_bd F1
    have F2 : Half.Fit (Half.rest (hi * 2 ^ lz y + lo / 2 ^ (64 - lz y)) (IntKind.u64.wrap (lo * 2 ^ lz y) / 4294967296) (y * 2 ^ lz y / 4294967296) (y * 2 ^ lz y % 4294967296)) (IntKind.u64.wrap (lo * 2 ^ lz y) % 4294967296) (y * 2 ^ lz y / 4294967296) (y * 2 ^ lz y % 4294967296) :=
      ⟨by omega, by omega, F1.a0, F1.a1, F1.b0, F1.b1, hr.1, hr.2⟩
    have hwhole := Half.whole F1 F2
    have hyy : y * 2 ^ lz y / 4294967296 * 4294967296 + y * 2 ^ lz y % 4294967296 = y * 2 ^ lz y := by omega
    have hnn : (hi * 2 ^ lz y + lo / 2 ^ (64 - lz y)) * 18446744073709551616 + IntKind.u64.wrap (lo * 2 ^ lz y) / 4294967296 * 4294967296 + IntKind.u64.wrap (lo * 2 ^ lz y) % 4294967296 = 2 ^ lz y * (hi * 18446744073709551616 + lo) := by
      have e1 : 2 ^ lz y * (hi * 18446744073709551616) = hi * 2 ^ lz y * 18446744073709551616 := by rw [← Int.mul_assoc, Int.mul_comm (2 ^ lz y) hi]
      have e2 : 2 ^ lz y * lo = lo / 2 ^ (64 - lz y) * 18446744073709551616 + IntKind.u64.wrap (lo * 2 ^ lz y) := by rw [Int.mul_comm]; exact hlow
      rw [Int.mul_add, e1, e2]
      omega
    rw [hyy, hnn, Int.mul_comm y, Int.mul_ediv_mul_of_pos _ _ hs, Int.mul_emod_mul_of_pos _ _ hs] at hwhole
    refine (div64_walk hi lo y _ _ _ _ _ _ _ _ _ _ h a1 l0 l1 yb rfl rfl (mask32 _ (by omega) s2) (by rw [hw]; exact hor) rfl (mask32 _ w0 w1) hyy F1 F2 rfl rfl rfl rfl w).mono ?_
    rintro e w' ⟨rfl, hS⟩
    refine ⟨?_, hS⟩
    rw [Int.mul_comm y, hwhole.1, hwhole.2, Int.mul_ediv_cancel_left _ (by omega)]
  · subst h
    simpa using div64_low lo y l0 l1 a1 yb w

theorem u64_of {x : Int} (h0 : 0 ≤ x) (h1 : x < 18446744073709551616) : IntKind.u64.wrap x = x := by rw [IntKind.wrap_u64]; omega
theorem w64_of {x : Int} (h0 : -9223372036854775808 ≤ x) (h1 : x < 9223372036854775808) : wrap64 x = x := by unfold wrap64; omega

theorem wide_divide (a d : Int) (ha : In128 a) (ha0 : 0 ≤ a) (hd : InW d) (hd0 : 1 ≤ d) (w : World) :
    Calls Tryz.prog 158 #[W a, .int .i64 d] w fun e w' => e = .returned (.tuple #[W (a / d), .int .i64 (a % d)]) ∧ Since w w' := by
  obtain ⟨h0, h1⟩ := hi_bd ha; obtain ⟨l0, l1⟩ := lo_bd a
  have hh : 0 ≤ hiW a := by unfold hiW; omega
  unfold InW at hd
  have k1 : IntKind.u64.wrap (hiW a) = hiW a := u64_of hh (by omega)
  have k2 : IntKind.u64.wrap d = d := u64_of (by omega) (by omega)
  have r0 := Int.emod_nonneg (hiW a) (show d ≠ 0 by omega); have r1 := Int.emod_lt_of_pos (hiW a) (show 0 < d by omega)
  have q0 := Int.ediv_nonneg hh (show 0 ≤ d by omega); have q1 : hiW a / d ≤ hiW a := Int.ediv_le_self _ hh
  have key : hiW a * 18446744073709551616 + loW a = a := hi_lo a
  have e1 := Int.mul_ediv_add_emod (hiW a) d
  have e2 : a = hiW a % d * 18446744073709551616 + loW a + hiW a / d * 18446744073709551616 * d := by
    rw [Int.mul_right_comm, Int.mul_comm _ d]
    generalize d * (hiW a / d) = p at *
    omega
  have f1 : a / d = (hiW a % d * 18446744073709551616 + loW a) / d + hiW a / d * 18446744073709551616 := by
    conv => lhs; rw [e2]
    rw [Int.add_mul_ediv_right _ _ (by omega)]
  have f2 : a % d = (hiW a % d * 18446744073709551616 + loW a) % d := by
    conv => lhs; rw [e2]
    rw [Int.add_mul_emod_self_right]
  have b0 : 0 ≤ (hiW a % d * 18446744073709551616 + loW a) / d := Int.ediv_nonneg (by omega) (by omega)
  have b1 : (hiW a % d * 18446744073709551616 + loW a) / d < 18446744073709551616 := by
    have hx : (hiW a % d + 1) * 18446744073709551616 ≤ d * 18446744073709551616 := Int.mul_le_mul_of_nonneg_right (by omega) (by omega)
    refine Int.ediv_lt_of_lt_mul (by omega) ?_
    rw [Int.mul_comm]; omega
  have s0 : 0 ≤ a % d := Int.emod_nonneg _ (by omega)
  have s1 : a % d < d := Int.emod_lt_of_pos _ (by omega)
  have E : Value.agg #[.int .i64 (hiW a / d), .int .u64 ((hiW a % d * 18446744073709551616 + loW a) / d)] = W (a / d) := by
    unfold W hiW loW
    rw [f1]
    have g1 : ((hiW a % d * 18446744073709551616 + loW a) / d + hiW a / d * 18446744073709551616) / 18446744073709551616 = hiW a / d := by omega
    have g2 : ((hiW a % d * 18446744073709551616 + loW a) / d + hiW a / d * 18446744073709551616) % 18446744073709551616 = (hiW a % d * 18446744073709551616 + loW a) / d := by omega
    rw [g1, g2]; rfl
  rw [f2] at s0 s1 ⊢
  rw [← E]
  clear E f1 f2 e2 e1 key
  have c := fun W' => div64 (hiW a % d) (loW a) d r0 r1 l0 l1 (by omega) W'
  have C := Lib.hid c
  clear c
  go_enter Tryz.func158, Tryz.ntmps158
  go_wp2
  go_quiet (fail)
  go_wp2_with (go_at_call 170; refine (C.out _).mono ?_; rintro e w1 ⟨rfl, hS1⟩; have hT := hS1; obtain ⟨hc1, hf1, hz1, hb1⟩ := hT)
  refine bodyPost_ret (by simp [results, Tryz.results158, go_sem, hc1]) rfl ⟨rfl, ?_⟩
  (repeat (first | with_reducible (exact Since.refl _) | with_reducible assumption | with_reducible (refine Since.drew ?_) | with_reducible (refine Since.drewN ?_ _) | with_reducible (refine Since.alloc ?_ _) | (with_reducible (refine Since.setCell ?_ ?_ _); rotate_left; focus (first | (simp; done) | (simp; omega) | omega)) | (with_reducible (refine Since.trans ?_ (by with_reducible assumption)))))

theorem wide_div_no (a d : Int) (hd : d < 1) (w : World) :
    Calls Tryz.prog 130 #[W a, .int .i64 d] w fun e w' => e = .returned (.tuple #[W 0, .int .i64 0, .int .i64 2]) ∧ Since w w' := by
  rw [← W_zero]
  have h : decide (d < 1) = true := by simpa using hd
  go_enter Tryz.func130, Tryz.ntmps130
  go_wp2
  go_outline
  refine bodyPost_ret (by simp [results, Tryz.results130, go_sem]) rfl ⟨rfl, ?_⟩
  (repeat (first | with_reducible (exact Since.refl _) | with_reducible assumption | with_reducible (refine Since.drew ?_) | with_reducible (refine Since.drewN ?_ _) | with_reducible (refine Since.alloc ?_ _) | (with_reducible (refine Since.setCell ?_ ?_ _); rotate_left; focus (first | (simp; done) | (simp; omega) | omega)) | (with_reducible (refine Since.trans ?_ (by with_reducible assumption)))))

set_option maxHeartbeats 600000 in
theorem wide_div_neg (a d : Int) (ha : In128 a) (hd : InW d) (hd1 : 1 ≤ d) (hn : hiW a < 0) (w : World) :
    Calls Tryz.prog 130 #[W a, .int .i64 d] w fun e w' => e = .returned (.tuple #[W (a / d), .int .i64 (a % d), .int .i64 0]) ∧ Since w w' := by
  obtain ⟨h0, h1⟩ := hi_bd ha
  have h : decide (d < 1) = false := by simp; omega
  unfold InW at hd
  have m0 := Int.emod_nonneg (-1 - a) (show d ≠ 0 by omega); have m1 := Int.emod_lt_of_pos (-1 - a) (show 0 < d by omega)
  have hn' : decide (hiW a < 0) = true := by simpa using hn
  have a0 : a < 0 := by unfold hiW at hn; omega
  have hci := comp_in ha
  have e := Int.mul_ediv_add_emod (-1 - a) d
  have q0 : 0 ≤ (-1 - a) / d := Int.ediv_nonneg (by omega) (by omega)
  have q1 : (-1 - a) / d ≤ -1 - a := Int.ediv_le_self _ (by omega)
  have hq : In128 ((-1 - a) / d) := by unfold In128 at *; omega
  have key : a = (d - 1 - (-1 - a) % d) + d * (-1 - (-1 - a) / d) := by
    rw [Int.mul_sub]; generalize d * ((-1 - a) / d) = p at *; omega
  have f1 : a / d = -1 - (-1 - a) / d := by
    conv => lhs; rw [key]
    rw [Int.add_mul_ediv_left _ _ (by omega), Int.ediv_eq_zero_of_lt (by omega) (by omega)]; omega
  have f2 : a % d = d - 1 - (-1 - a) % d := by
    conv => lhs; rw [key]
    rw [Int.add_mul_emod_self_left, Int.emod_eq_of_lt (by omega) (by omega)]
  rw [f1, f2]
  clear f1 f2 key e
  go_enter Tryz.func130, Tryz.ntmps130
  go_wp2_with (first
    | (go_at_call 158; refine (wide_divide (-1 - a) d hci (by omega) hd hd1 _).mono ?_; rintro e w2 ⟨rfl, hS2⟩; have hT := hS2; obtain ⟨hc2, hf2, hz2, hb2⟩ := hT; (try (have hq2_0_0 := hz2 (w.heap.size) (by first | with_reducible assumption | (simp; done) | (simp; omega) | omega); have hp2_0_0 := Nat.ne_of_lt hq2_0_0; have hl2_0_0 := Nat.le_of_lt hq2_0_0)); (try (have hq2_0_1 := hz2 (w.heap.size + 1) (by first | with_reducible assumption | (simp; done) | (simp; omega) | omega); have hp2_0_1 := Nat.ne_of_lt hq2_0_1; have hl2_0_1 := Nat.le_of_lt hq2_0_1)); (try (have hq2_0_2 := hz2 (w.heap.size + 1 + 1) (by first | with_reducible assumption | (simp; done) | (simp; omega) | omega); have hp2_0_2 := Nat.ne_of_lt hq2_0_2; have hl2_0_2 := Nat.le_of_lt hq2_0_2)); (try (have hq2_0_3 := hz2 (w.heap.size + 1 + 1 + 1) (by first | with_reducible assumption | (simp; done) | (simp; omega) | omega); have hp2_0_3 := Nat.ne_of_lt hq2_0_3; have hl2_0_3 := Nat.le_of_lt hq2_0_3)); (try (have hq2_1_0 := hz2 (w1.heap.size) (by first | with_reducible assumption | (simp; done) | (simp; omega) | omega); have hp2_1_0 := Nat.ne_of_lt hq2_1_0; have hl2_1_0 := Nat.le_of_lt hq2_1_0)); (try (have hq2_1_1 := hz2 (w1.heap.size + 1) (by first | with_reducible assumption | (simp; done) | (simp; omega) | omega); have hp2_1_1 := Nat.ne_of_lt hq2_1_1; have hl2_1_1 := Nat.le_of_lt hq2_1_1)); (try (have hq2_2_0 := hz2 (w2.heap.size) (by first | with_reducible assumption | (simp; done) | (simp; omega) | omega); have hp2_2_0 := Nat.ne_of_lt hq2_2_0; have hl2_2_0 := Nat.le_of_lt hq2_2_0)); (try (have hq2_2_1 := hz2 (w2.heap.size + 1) (by first | with_reducible assumption | (simp; done) | (simp; omega) | omega); have hp2_2_1 := Nat.ne_of_lt hq2_2_1; have hl2_2_1 := Nat.le_of_lt hq2_2_1)); (try (have hq2_3_0 := hz2 (w3.heap.size) (by first | with_reducible assumption | (simp; done) | (simp; omega) | omega); have hp2_3_0 := Nat.ne_of_lt hq2_3_0; have hl2_3_0 := Nat.le_of_lt hq2_3_0)); (try (have hq2_3_1 := hz2 (w3.heap.size + 1) (by first | with_reducible assumption | (simp; done) | (simp; omega) | omega); have hp2_3_1 := Nat.ne_of_lt hq2_3_1; have hl2_3_1 := Nat.le_of_lt hq2_3_1)); (try (have hq2_4_0 := hz2 (w4.heap.size) (by first | with_reducible assumption | (simp; done) | (simp; omega) | omega); have hp2_4_0 := Nat.ne_of_lt hq2_4_0; have hl2_4_0 := Nat.le_of_lt hq2_4_0)); (try (have hq2_4_1 := hz2 (w4.heap.size + 1) (by first | with_reducible assumption | (simp; done) | (simp; omega) | omega); have hp2_4_1 := Nat.ne_of_lt hq2_4_1; have hl2_4_1 := Nat.le_of_lt hq2_4_1)); (try (have hq2_5_0 := hz2 (w5.heap.size) (by first | with_reducible assumption | (simp; done) | (simp; omega) | omega); have hp2_5_0 := Nat.ne_of_lt hq2_5_0; have hl2_5_0 := Nat.le_of_lt hq2_5_0)); (try (have hq2_5_1 := hz2 (w5.heap.size + 1) (by first | with_reducible assumption | (simp; done) | (simp; omega) | omega); have hp2_5_1 := Nat.ne_of_lt hq2_5_1; have hl2_5_1 := Nat.le_of_lt hq2_5_1)); (try (have hq2_6_0 := hz2 (w6.heap.size) (by first | with_reducible assumption | (simp; done) | (simp; omega) | omega); have hp2_6_0 := Nat.ne_of_lt hq2_6_0; have hl2_6_0 := Nat.le_of_lt hq2_6_0)); (try (have hq2_6_1 := hz2 (w6.heap.size + 1) (by first | with_reducible assumption | (simp; done) | (simp; omega) | omega); have hp2_6_1 := Nat.ne_of_lt hq2_6_1; have hl2_6_1 := Nat.le_of_lt hq2_6_1)); (try (have hq2_7_0 := hz2 (w7.heap.size) (by first | with_reducible assumption | (simp; done) | (simp; omega) | omega); have hp2_7_0 := Nat.ne_of_lt hq2_7_0; have hl2_7_0 := Nat.le_of_lt hq2_7_0)); (try (have hq2_7_1 := hz2 (w7.heap.size + 1) (by first | with_reducible assumption | (simp; done) | (simp; omega) | omega); have hp2_7_1 := Nat.ne_of_lt hq2_7_1; have hl2_7_1 := Nat.le_of_lt hq2_7_1)); (try (have hq2_8_0 := hz2 (w8.heap.size) (by first | with_reducible assumption | (simp; done) | (simp; omega) | omega); have hp2_8_0 := Nat.ne_of_lt hq2_8_0; have hl2_8_0 := Nat.le_of_lt hq2_8_0)); (try (have hq2_8_1 := hz2 (w8.heap.size + 1) (by first | with_reducible assumption | (simp; done) | (simp; omega) | omega); have hp2_8_1 := Nat.ne_of_lt hq2_8_1; have hl2_8_1 := Nat.le_of_lt hq2_8_1)); (try (have hq2_9_0 := hz2 (w9.heap.size) (by first | with_reducible assumption | (simp; done) | (simp; omega) | omega); have hp2_9_0 := Nat.ne_of_lt hq2_9_0; have hl2_9_0 := Nat.le_of_lt hq2_9_0)); (try (have hq2_9_1 := hz2 (w9.heap.size + 1) (by first | with_reducible assumption | (simp; done) | (simp; omega) | omega); have hp2_9_1 := Nat.ne_of_lt hq2_9_1; have hl2_9_1 := Nat.le_of_lt hq2_9_1)))
    | (go_at_call 159; refine (wide_complement _ (by first | exact ha | exact hq) _).mono ?_; rintro e w1 ⟨rfl, hS1⟩; have hT := hS1; obtain ⟨hc1, hf1, hz1, hb1⟩ := hT; (try (have hq1_0_0 := hz1 (w.heap.size) (by first | with_reducible assumption | (simp; done) | (simp; omega) | omega); have hp1_0_0 := Nat.ne_of_lt hq1_0_0; have hl1_0_0 := Nat.le_of_lt hq1_0_0)); (try (have hq1_0_1 := hz1 (w.heap.size + 1) (by first | with_reducible assumption | (simp; done) | (simp; omega) | omega); have hp1_0_1 := Nat.ne_of_lt hq1_0_1; have hl1_0_1 := Nat.le_of_lt hq1_0_1)); (try (have hq1_0_2 := hz1 (w.heap.size + 1 + 1) (by first | with_reducible assumption | (simp; done) | (simp; omega) | omega); have hp1_0_2 := Nat.ne_of_lt hq1_0_2; have hl1_0_2 := Nat.le_of_lt hq1_0_2)); (try (have hq1_0_3 := hz1 (w.heap.size + 1 + 1 + 1) (by first | with_reducible assumption | (simp; done) | (simp; omega) | omega); have hp1_0_3 := Nat.ne_of_lt hq1_0_3; have hl1_0_3 := Nat.le_of_lt hq1_0_3)); (try (have hq1_1_0 := hz1 (w1.heap.size) (by first | with_reducible assumption | (simp; done) | (simp; omega) | omega); have hp1_1_0 := Nat.ne_of_lt hq1_1_0; have hl1_1_0 := Nat.le_of_lt hq1_1_0)); (try (have hq1_1_1 := hz1 (w1.heap.size + 1) (by first | with_reducible assumption | (simp; done) | (simp; omega) | omega); have hp1_1_1 := Nat.ne_of_lt hq1_1_1; have hl1_1_1 := Nat.le_of_lt hq1_1_1)); (try (have hq1_2_0 := hz1 (w2.heap.size) (by first | with_reducible assumption | (simp; done) | (simp; omega) | omega); have hp1_2_0 := Nat.ne_of_lt hq1_2_0; have hl1_2_0 := Nat.le_of_lt hq1_2_0)); (try (have hq1_2_1 := hz1 (w2.heap.size + 1) (by first | with_reducible assumption | (simp; done) | (simp; omega) | omega); have hp1_2_1 := Nat.ne_of_lt hq1_2_1; have hl1_2_1 := Nat.le_of_lt hq1_2_1)); (try (have hq1_3_0 := hz1 (w3.heap.size) (by first | with_reducible assumption | (simp; done) | (simp; omega) | omega); have hp1_3_0 := Nat.ne_of_lt hq1_3_0; have hl1_3_0 := Nat.le_of_lt hq1_3_0)); (try (have hq1_3_1 := hz1 (w3.heap.size + 1) (by first | with_reducible assumption | (simp; done) | (simp; omega) | omega); have hp1_3_1 := Nat.ne_of_lt hq1_3_1; have hl1_3_1 := Nat.le_of_lt hq1_3_1)); (try (have hq1_4_0 := hz1 (w4.heap.size) (by first | with_reducible assumption | (simp; done) | (simp; omega) | omega); have hp1_4_0 := Nat.ne_of_lt hq1_4_0; have hl1_4_0 := Nat.le_of_lt hq1_4_0)); (try (have hq1_4_1 := hz1 (w4.heap.size + 1) (by first | with_reducible assumption | (simp; done) | (simp; omega) | omega); have hp1_4_1 := Nat.ne_of_lt hq1_4_1; have hl1_4_1 := Nat.le_of_lt hq1_4_1)); (try (have hq1_5_0 := hz1 (w5.heap.size) (by first | with_reducible assumption | (simp; done) | (simp; omega) | omega); have hp1_5_0 := Nat.ne_of_lt hq1_5_0; have hl1_5_0 := Nat.le_of_lt hq1_5_0)); (try (have hq1_5_1 := hz1 (w5.heap.size + 1) (by first | with_reducible assumption | (simp; done) | (simp; omega) | omega); have hp1_5_1 := Nat.ne_of_lt hq1_5_1; have hl1_5_1 := Nat.le_of_lt hq1_5_1)); (try (have hq1_6_0 := hz1 (w6.heap.size) (by first | with_reducible assumption | (simp; done) | (simp; omega) | omega); have hp1_6_0 := Nat.ne_of_lt hq1_6_0; have hl1_6_0 := Nat.le_of_lt hq1_6_0)); (try (have hq1_6_1 := hz1 (w6.heap.size + 1) (by first | with_reducible assumption | (simp; done) | (simp; omega) | omega); have hp1_6_1 := Nat.ne_of_lt hq1_6_1; have hl1_6_1 := Nat.le_of_lt hq1_6_1)); (try (have hq1_7_0 := hz1 (w7.heap.size) (by first | with_reducible assumption | (simp; done) | (simp; omega) | omega); have hp1_7_0 := Nat.ne_of_lt hq1_7_0; have hl1_7_0 := Nat.le_of_lt hq1_7_0)); (try (have hq1_7_1 := hz1 (w7.heap.size + 1) (by first | with_reducible assumption | (simp; done) | (simp; omega) | omega); have hp1_7_1 := Nat.ne_of_lt hq1_7_1; have hl1_7_1 := Nat.le_of_lt hq1_7_1)); (try (have hq1_8_0 := hz1 (w8.heap.size) (by first | with_reducible assumption | (simp; done) | (simp; omega) | omega); have hp1_8_0 := Nat.ne_of_lt hq1_8_0; have hl1_8_0 := Nat.le_of_lt hq1_8_0)); (try (have hq1_8_1 := hz1 (w8.heap.size + 1) (by first | with_reducible assumption | (simp; done) | (simp; omega) | omega); have hp1_8_1 := Nat.ne_of_lt hq1_8_1; have hl1_8_1 := Nat.le_of_lt hq1_8_1)); (try (have hq1_9_0 := hz1 (w9.heap.size) (by first | with_reducible assumption | (simp; done) | (simp; omega) | omega); have hp1_9_0 := Nat.ne_of_lt hq1_9_0; have hl1_9_0 := Nat.le_of_lt hq1_9_0)); (try (have hq1_9_1 := hz1 (w9.heap.size + 1) (by first | with_reducible assumption | (simp; done) | (simp; omega) | omega); have hp1_9_1 := Nat.ne_of_lt hq1_9_1; have hl1_9_1 := Nat.le_of_lt hq1_9_1))))
  refine bodyPost_ret (by simp only [results, Tryz.results130]; go_simp) rfl ⟨rfl, ?_⟩
  (repeat (first | with_reducible (exact Since.refl _) | with_reducible assumption | with_reducible (refine Since.drew ?_) | with_reducible (refine Since.drewN ?_ _) | with_reducible (refine Since.alloc ?_ _) | (with_reducible (refine Since.setCell ?_ ?_ _); rotate_left; focus (first | (simp; done) | (simp; omega) | omega)) | (with_reducible (refine Since.trans ?_ (by with_reducible assumption)))))

set_option maxHeartbeats 600000 in
theorem wide_div_pos (a d : Int) (ha : In128 a) (hd : InW d) (hd1 : 1 ≤ d) (hn : ¬ hiW a < 0) (w : World) :
    Calls Tryz.prog 130 #[W a, .int .i64 d] w fun e w' => e = .returned (.tuple #[W (a / d), .int .i64 (a % d), .int .i64 0]) ∧ Since w w' := by
  obtain ⟨h0, h1⟩ := hi_bd ha
  have h : decide (d < 1) = false := by simp; omega
  unfold InW at hd
  have m0 := Int.emod_nonneg (-1 - a) (show d ≠ 0 by omega); have m1 := Int.emod_lt_of_pos (-1 - a) (show 0 < d by omega)
  have hn' : decide (hiW a < 0) = false := by simpa using hn
  have a0 : 0 ≤ a := by unfold hiW at hn; omega
  go_enter Tryz.func130, Tryz.ntmps130
  go_wp2_with (go_at_call 158; refine (wide_divide a d ha a0 hd hd1 _).mono ?_; rintro e w2 ⟨rfl, hS2⟩; have hT := hS2; obtain ⟨hc2, hf2, hz2, hb2⟩ := hT; (try (have hq2_0_0 := hz2 (w.heap.size) (by first | with_reducible assumption | (simp; done) | (simp; omega) | omega); have hp2_0_0 := Nat.ne_of_lt hq2_0_0; have hl2_0_0 := Nat.le_of_lt hq2_0_0)); (try (have hq2_0_1 := hz2 (w.heap.size + 1) (by first | with_reducible assumption | (simp; done) | (simp; omega) | omega); have hp2_0_1 := Nat.ne_of_lt hq2_0_1; have hl2_0_1 := Nat.le_of_lt hq2_0_1)); (try (have hq2_0_2 := hz2 (w.heap.size + 1 + 1) (by first | with_reducible assumption | (simp; done) | (simp; omega) | omega); have hp2_0_2 := Nat.ne_of_lt hq2_0_2; have hl2_0_2 := Nat.le_of_lt hq2_0_2)); (try (have hq2_0_3 := hz2 (w.heap.size + 1 + 1 + 1) (by first | with_reducible assumption | (simp; done) | (simp; omega) | omega); have hp2_0_3 := Nat.ne_of_lt hq2_0_3; have hl2_0_3 := Nat.le_of_lt hq2_0_3)); (try (have hq2_1_0 := hz2 (w1.heap.size) (by first | with_reducible assumption | (simp; done) | (simp; omega) | omega); have hp2_1_0 := Nat.ne_of_lt hq2_1_0; have hl2_1_0 := Nat.le_of_lt hq2_1_0)); (try (have hq2_1_1 := hz2 (w1.heap.size + 1) (by first | with_reducible assumption | (simp; done) | (simp; omega) | omega); have hp2_1_1 := Nat.ne_of_lt hq2_1_1; have hl2_1_1 := Nat.le_of_lt hq2_1_1)); (try (have hq2_2_0 := hz2 (w2.heap.size) (by first | with_reducible assumption | (simp; done) | (simp; omega) | omega); have hp2_2_0 := Nat.ne_of_lt hq2_2_0; have hl2_2_0 := Nat.le_of_lt hq2_2_0)); (try (have hq2_2_1 := hz2 (w2.heap.size + 1) (by first | with_reducible assumption | (simp; done) | (simp; omega) | omega); have hp2_2_1 := Nat.ne_of_lt hq2_2_1; have hl2_2_1 := Nat.le_of_lt hq2_2_1)); (try (have hq2_3_0 := hz2 (w3.heap.size) (by first | with_reducible assumption | (simp; done) | (simp; omega) | omega); have hp2_3_0 := Nat.ne_of_lt hq2_3_0; have hl2_3_0 := Nat.le_of_lt hq2_3_0)); (try (have hq2_3_1 := hz2 (w3.heap.size + 1) (by first | with_reducible assumption | (simp; done) | (simp; omega) | omega); have hp2_3_1 := Nat.ne_of_lt hq2_3_1; have hl2_3_1 := Nat.le_of_lt hq2_3_1)); (try (have hq2_4_0 := hz2 (w4.heap.size) (by first | with_reducible assumption | (simp; done) | (simp; omega) | omega); have hp2_4_0 := Nat.ne_of_lt hq2_4_0; have hl2_4_0 := Nat.le_of_lt hq2_4_0)); (try (have hq2_4_1 := hz2 (w4.heap.size + 1) (by first | with_reducible assumption | (simp; done) | (simp; omega) | omega); have hp2_4_1 := Nat.ne_of_lt hq2_4_1; have hl2_4_1 := Nat.le_of_lt hq2_4_1)); (try (have hq2_5_0 := hz2 (w5.heap.size) (by first | with_reducible assumption | (simp; done) | (simp; omega) | omega); have hp2_5_0 := Nat.ne_of_lt hq2_5_0; have hl2_5_0 := Nat.le_of_lt hq2_5_0)); (try (have hq2_5_1 := hz2 (w5.heap.size + 1) (by first | with_reducible assumption | (simp; done) | (simp; omega) | omega); have hp2_5_1 := Nat.ne_of_lt hq2_5_1; have hl2_5_1 := Nat.le_of_lt hq2_5_1)); (try (have hq2_6_0 := hz2 (w6.heap.size) (by first | with_reducible assumption | (simp; done) | (simp; omega) | omega); have hp2_6_0 := Nat.ne_of_lt hq2_6_0; have hl2_6_0 := Nat.le_of_lt hq2_6_0)); (try (have hq2_6_1 := hz2 (w6.heap.size + 1) (by first | with_reducible assumption | (simp; done) | (simp; omega) | omega); have hp2_6_1 := Nat.ne_of_lt hq2_6_1; have hl2_6_1 := Nat.le_of_lt hq2_6_1)); (try (have hq2_7_0 := hz2 (w7.heap.size) (by first | with_reducible assumption | (simp; done) | (simp; omega) | omega); have hp2_7_0 := Nat.ne_of_lt hq2_7_0; have hl2_7_0 := Nat.le_of_lt hq2_7_0)); (try (have hq2_7_1 := hz2 (w7.heap.size + 1) (by first | with_reducible assumption | (simp; done) | (simp; omega) | omega); have hp2_7_1 := Nat.ne_of_lt hq2_7_1; have hl2_7_1 := Nat.le_of_lt hq2_7_1)); (try (have hq2_8_0 := hz2 (w8.heap.size) (by first | with_reducible assumption | (simp; done) | (simp; omega) | omega); have hp2_8_0 := Nat.ne_of_lt hq2_8_0; have hl2_8_0 := Nat.le_of_lt hq2_8_0)); (try (have hq2_8_1 := hz2 (w8.heap.size + 1) (by first | with_reducible assumption | (simp; done) | (simp; omega) | omega); have hp2_8_1 := Nat.ne_of_lt hq2_8_1; have hl2_8_1 := Nat.le_of_lt hq2_8_1)); (try (have hq2_9_0 := hz2 (w9.heap.size) (by first | with_reducible assumption | (simp; done) | (simp; omega) | omega); have hp2_9_0 := Nat.ne_of_lt hq2_9_0; have hl2_9_0 := Nat.le_of_lt hq2_9_0)); (try (have hq2_9_1 := hz2 (w9.heap.size + 1) (by first | with_reducible assumption | (simp; done) | (simp; omega) | omega); have hp2_9_1 := Nat.ne_of_lt hq2_9_1; have hl2_9_1 := Nat.le_of_lt hq2_9_1)))
  refine bodyPost_ret (by simp only [results, Tryz.results130]; go_simp) rfl ⟨rfl, ?_⟩
  (repeat (first | with_reducible (exact Since.refl _) | with_reducible assumption | with_reducible (refine Since.drew ?_) | with_reducible (refine Since.drewN ?_ _) | with_reducible (refine Since.alloc ?_ _) | (with_reducible (refine Since.setCell ?_ ?_ _); rotate_left; focus (first | (simp; done) | (simp; omega) | omega)) | (with_reducible (refine Since.trans ?_ (by with_reducible assumption)))))

theorem wide_div (a d : Int) (ha : In128 a) (hd : InW d) (hd1 : 1 ≤ d) (w : World) :
    Calls Tryz.prog 130 #[W a, .int .i64 d] w fun e w' => e = .returned (.tuple #[W (a / d), .int .i64 (a % d), .int .i64 0]) ∧ Since w w' := by
  by_cases hn : hiW a < 0
  · exact wide_div_neg a d ha hd hd1 hn w
  · exact wide_div_pos a d ha hd hd1 hn w
end Go.Proofs.YtcfghkphkmoikaaGreat
