/-
  math/bits.Len64 and LeadingZeros64 over this translation: how often a word that is not 0 can be doubled.
-/
import Derived.Test.YtpplnapfpoloiaaKit
import Derived.Lib.Strings
import Derived.Lib.Slices
import Derived.Lib.Small
import Derived.Lib.Walk
import Derived.Lib.BitFns
import Derived.Lib.ItoaNum
namespace Go.Proofs.Ytpplnapfpoloiaa
open Go.RowKit
set_option linter.unusedVariables false

set_option maxHeartbeats 4000000 in
set_option maxRecDepth 100000 in
theorem len64 (x : Int) (w : World) (h0 : 0 ≤ x) (h1 : x ≤ 18446744073709551615) :
    Calls Try.prog 112 #[.int .u64 x] w fun e w' => e = .returned (.int .i64 (Lib.bitLen x.toNat)) ∧ w = w' := by
  have z0 : 0 ≤ x / 4294967296 / 65536 / 256 := by omega
  have c0 : x / 4294967296 / 65536 / 256 < 256 → x / 4294967296 / 65536 / 256 ≤ 255 := by omega
  have z1 : 0 ≤ x / 4294967296 / 65536 := by omega
  have c1 : x / 4294967296 / 65536 < 256 → x / 4294967296 / 65536 ≤ 255 := by omega
  have z2 : 0 ≤ x / 4294967296 / 256 := by omega
  have c2 : x / 4294967296 / 256 < 256 → x / 4294967296 / 256 ≤ 255 := by omega
  have z3 : 0 ≤ x / 4294967296 := by omega
  have c3 : x / 4294967296 < 256 → x / 4294967296 ≤ 255 := by omega
  have z4 : 0 ≤ x / 65536 / 256 := by omega
  have c4 : x / 65536 / 256 < 256 → x / 65536 / 256 ≤ 255 := by omega
  have z5 : 0 ≤ x / 65536 := by omega
  have c5 : x / 65536 < 256 → x / 65536 ≤ 255 := by omega
  have z6 : 0 ≤ x / 256 := by omega
  have c6 : x / 256 < 256 → x / 256 ≤ 255 := by omega
  have c7 : x < 256 → x ≤ 255 := by omega
  have u0 : x / 4294967296 / 65536 / 256 ≤ 255 := by omega
  have u1 : x / 4294967296 < 65536 → x / 4294967296 / 256 ≤ 255 := by omega
  have u2 : x < 4294967296 → x / 65536 / 256 ≤ 255 := by omega
  have u3 : x < 65536 → x / 256 ≤ 255 := by omega
  go_enter Try.func112, Try.ntmps112
  go_wp2
  all_goals (go_ret; refine ⟨congrArg Ending.returned (congrArg (Value.int IntKind.i64) ?_), rfl⟩)
  all_goals clear c0 c1 c2 c3 c4 c5 c6 c7 u0 u1 u2 u3 z0 z1 z2 z3 z4 z5 z6
  all_goals first
    | (rw [Lib.len8_of (x / 4294967296 / 65536 / 256) (by omega) (by omega)]
       have e : (x / 4294967296 / 65536 / 256).toNat = x.toNat / 72057594037927936 := by omega
       have l := Lib.bitLen_le8' (x / 4294967296 / 65536 / 256) (by omega) (by omega)
       have s := Lib.bitLen_shift56 x.toNat (by omega) (by omega)
       rw [e] at l ⊢
       unfold wrap64; omega)
    | (rw [Lib.len8_of (x / 4294967296 / 65536) (by omega) (by omega)]
       have e : (x / 4294967296 / 65536).toNat = x.toNat / 281474976710656 := by omega
       have l := Lib.bitLen_le8' (x / 4294967296 / 65536) (by omega) (by omega)
       have s := Lib.bitLen_shift48 x.toNat (by omega) (by omega)
       rw [e] at l ⊢
       unfold wrap64; omega)
    | (rw [Lib.len8_of (x / 4294967296 / 256) (by omega) (by omega)]
       have e : (x / 4294967296 / 256).toNat = x.toNat / 1099511627776 := by omega
       have l := Lib.bitLen_le8' (x / 4294967296 / 256) (by omega) (by omega)
       have s := Lib.bitLen_shift40 x.toNat (by omega) (by omega)
       rw [e] at l ⊢
       unfold wrap64; omega)
    | (rw [Lib.len8_of (x / 4294967296) (by omega) (by omega)]
       have e : (x / 4294967296).toNat = x.toNat / 4294967296 := by omega
       have l := Lib.bitLen_le8' (x / 4294967296) (by omega) (by omega)
       have s := Lib.bitLen_shift32 x.toNat (by omega) (by omega)
       rw [e] at l ⊢
       unfold wrap64; omega)
    | (rw [Lib.len8_of (x / 65536 / 256) (by omega) (by omega)]
       have e : (x / 65536 / 256).toNat = x.toNat / 16777216 := by omega
       have l := Lib.bitLen_le8' (x / 65536 / 256) (by omega) (by omega)
       have s := Lib.bitLen_shift24 x.toNat (by omega) (by omega)
       rw [e] at l ⊢
       unfold wrap64; omega)
    | (rw [Lib.len8_of (x / 65536) (by omega) (by omega)]
       have e : (x / 65536).toNat = x.toNat / 65536 := by omega
       have l := Lib.bitLen_le8' (x / 65536) (by omega) (by omega)
       have s := Lib.bitLen_shift16 x.toNat (by omega) (by omega)
       rw [e] at l ⊢
       unfold wrap64; omega)
    | (rw [Lib.len8_of (x / 256) (by omega) (by omega)]
       have e : (x / 256).toNat = x.toNat / 256 := by omega
       have l := Lib.bitLen_le8' (x / 256) (by omega) (by omega)
       have s := Lib.bitLen_shift8 x.toNat (by omega) (by omega)
       rw [e] at l ⊢
       unfold wrap64; omega)
    | (rw [Lib.len8_of x (by omega) (by omega)]
       have l := Lib.bitLen_le8' x (by omega) (by omega)
       unfold wrap64; omega)

/-- How often the word y, which is not 0, is doubled till its highest bit is set. -/
def lz (y : Int) : Nat := 64 - Lib.bitLen y.toNat
theorem lz_facts {y : Int} (h0 : 0 < y) (h1 : y < 18446744073709551616) : lz y ≤ 63 ∧ 9223372036854775808 ≤ y * 2 ^ lz y ∧ y * 2 ^ lz y < 18446744073709551616 := by
  obtain ⟨n, rfl⟩ := Int.eq_ofNat_of_zero_le (Int.le_of_lt h0)
  obtain ⟨b1, b2, b3⟩ := Lib.bitLenAux_bounds 64 n (by omega) (by omega)
  have b4 := Lib.bitLen_le n 64 (by omega) (by omega)
  have hb : Lib.bitLen n = Lib.bitLenAux 64 n := rfl
  rw [← hb] at b1 b2 b3
  unfold lz
  rw [Int.toNat_natCast]
  generalize Lib.bitLen n = k at *
  have p1 : 2 ^ (k - 1) * 2 ^ (64 - k) = 9223372036854775808 := by rw [← Nat.pow_add, show k - 1 + (64 - k) = 63 by omega]
  have p2 : 2 ^ k * 2 ^ (64 - k) = 18446744073709551616 := by rw [← Nat.pow_add, show k + (64 - k) = 64 by omega]
  have q1 : 2 ^ (k - 1) * 2 ^ (64 - k) ≤ n * 2 ^ (64 - k) := Nat.mul_le_mul_right _ b2
  have q2 : n * 2 ^ (64 - k) < 2 ^ k * 2 ^ (64 - k) := Nat.mul_lt_mul_of_pos_right b3 (Nat.two_pow_pos _)
  have e : ((n : Int) * 2 ^ (64 - k)) = ((n * 2 ^ (64 - k) : Nat) : Int) := by push_cast; rfl
  rw [e]
  omega

end Go.Proofs.Ytpplnapfpoloiaa
