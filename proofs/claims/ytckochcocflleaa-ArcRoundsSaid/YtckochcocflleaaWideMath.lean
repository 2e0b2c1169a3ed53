/-
  Numbers of two words, as plain arithmetic: n is hiW n times 2^64 and loW n.
-/
import Derived.Test.YtckochcocflleaaRows
import Derived.WalkKit
namespace Go.Proofs.Ytckochcocflleaa
open Go.RowKit

def hiW (n : Int) : Int := n / 18446744073709551616
def loW (n : Int) : Int := n % 18446744073709551616
def w128 (n : Int) : Int := (n + 170141183460469231731687303715884105728) % 340282366920938463463374607431768211456 - 170141183460469231731687303715884105728
def In128 (n : Int) : Prop := -170141183460469231731687303715884105728 ≤ n ∧ n < 170141183460469231731687303715884105728
def InW (n : Int) : Prop := -9223372036854775808 ≤ n ∧ n < 9223372036854775808
/-- The number as the program has it. -/
@[reducible] def W (n : Int) : Value := .agg #[.int .i64 (hiW n), .int .u64 (loW n)]

theorem lo_bd (n : Int) : 0 ≤ loW n ∧ loW n < 18446744073709551616 := by unfold loW; omega
theorem hi_bd {n : Int} (h : In128 n) : -9223372036854775808 ≤ hiW n ∧ hiW n < 9223372036854775808 := by unfold In128 at h; unfold hiW; omega
theorem hi_lo (n : Int) : hiW n * 18446744073709551616 + loW n = n := by unfold hiW loW; omega
theorem w128_in (n : Int) : In128 (w128 n) := by unfold In128 w128; omega
theorem w128_of {n : Int} (h : In128 n) : w128 n = n := by unfold In128 at h; unfold w128; omega
theorem in64_in {n : Int} (h : InW n) : In128 n := by unfold InW at h; unfold In128; omega
theorem hi_mk (h l : Int) (l0 : 0 ≤ l) (l1 : l < 18446744073709551616) : hiW (h * 18446744073709551616 + l) = h := by unfold hiW; omega
theorem lo_mk (h l : Int) (l0 : 0 ≤ l) (l1 : l < 18446744073709551616) : loW (h * 18446744073709551616 + l) = l := by unfold loW; omega
theorem mk_in (h l : Int) (h0 : -9223372036854775808 ≤ h) (h1 : h < 9223372036854775808) (l0 : 0 ≤ l) (l1 : l < 18446744073709551616) : In128 (h * 18446744073709551616 + l) := by unfold In128; omega
theorem eq_iff (a b : Int) : a = b ↔ hiW a = hiW b ∧ loW a = loW b := by
  constructor
  · rintro rfl; exact ⟨rfl, rfl⟩
  · rintro ⟨h1, h2⟩; rw [← hi_lo a, ← hi_lo b, h1, h2]
/-- Two words that make the number up to 2^128 are the number's. -/
theorem W_mk {n h l : Int} (h0 : -9223372036854775808 ≤ h) (h1 : h < 9223372036854775808) (l0 : 0 ≤ l) (l1 : l < 18446744073709551616) (e : (h * 18446744073709551616 + l - n) % 340282366920938463463374607431768211456 = 0) : Value.agg #[.int .i64 h, .int .u64 l] = W (w128 n) := by
  have : w128 n = h * 18446744073709551616 + l := by unfold w128; omega
  rw [this]; unfold W; rw [hi_mk h l l0 l1, lo_mk h l l0 l1]
end Go.Proofs.Ytckochcocflleaa
