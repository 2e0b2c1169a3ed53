/-
  Texts of this seat, put together: each with its own head.
-/
import Derived.Test.YtcfghkphkmoikaaGreatRows
import Derived.WalkKit
import Derived.Lib.Mul64
import Derived.Laws.Bits64b
import Derived.Test.YtcfghkphkmoikaaGreatKit

/-
  What math/bits.Add64, Sub64 and Mul64 come to over this translation; no condition but that words are words.
-/
namespace Go.Proofs.YtcfghkphkmoikaaGreat
set_option maxRecDepth 100000
open Go.RowKit Go.Lib

theorem add64 (x y c : Int) (hx : 0 ≤ x) (hy : 0 ≤ y) (hc0 : 0 ≤ c) (hc : c ≤ 1) (w : World) :
    (callFunc 154 #[.int .u64 x, .int .u64 y, .int .u64 c]).run Tryz.prog w =
      .ok (.value (.tuple #[.int .u64 ((x + y + c) % 18446744073709551616), .int .u64 ((x + y + c) / 18446744073709551616)])) w := by
  rw [run_callFunc_extern Tryz.func154 (by kernel_rfl) (by kernel_rfl) (by kernel_rfl) (e := add64Entry) (by kernel_rfl), run_add64 x y c hx hy hc0 hc]
  rfl
theorem add64_0 (x y : Int) (hx : 0 ≤ x) (hy : 0 ≤ y) (w : World) :
    (callFunc 154 #[.int .u64 x, .int .u64 y, .int .u64 0]).run Tryz.prog w =
      .ok (.value (.tuple #[.int .u64 ((x + y) % 18446744073709551616), .int .u64 ((x + y) / 18446744073709551616)])) w := by
  simpa using add64 x y 0 hx hy (Int.le_refl 0) (by decide) w

def sub64Entry : Array Value → Sem Value := fun args => do
  let (x, y, b) ← Extern.MathBitsCarry.three "Sub64" args
  pure (Extern.MathBitsCarry.pair ((x + Extern.MathBitsCarry.m64 - y - b) % Extern.MathBitsCarry.m64) (if x < y + b then 1 else 0))
theorem run_sub64 {P : Program} (x y b : Nat) (hb : b ≤ 1) (w : World) :
    (sub64Entry #[.int .u64 x, .int .u64 y, .int .u64 b]).run P w =
      .ok (.tuple #[.int .u64 (((x + 18446744073709551616 - y - b) % 18446744073709551616 : Nat) : Int), .int .u64 ((if x < y + b then 1 else 0 : Nat) : Int)]) w := by
  have : b = 0 ∨ b = 1 := by omega
  rcases this with rfl | rfl <;> rfl
/-- The borrow, under a name. -/
def bor (x y : Int) : Int := if x < y then 1 else 0
theorem bor_bd (x y : Int) : 0 ≤ bor x y ∧ bor x y ≤ 1 := by unfold bor; split <;> omega
namespace Mul64
theorem maskN (a : Nat) (ha : a < 18446744073709551616) : bits .and .u64 (a : Int) 4294967295 = ((a % 4294967296 : Nat) : Int) := by
  have h := bits_and_u64_nat a 4294967295 ha (by omega)
  have e : a &&& 4294967295 = a % 4294967296 := Nat.and_two_pow_sub_one_eq_mod a 32
  rw [e] at h
  exact h
theorem divN (a : Nat) : (a : Int) / 4294967296 = ((a / 4294967296 : Nat) : Int) := by omega
theorem mulN (a b : Nat) : (a : Int) * (b : Int) = ((a * b : Nat) : Int) := (Int.natCast_mul a b).symm
theorem addN (a b : Nat) : (a : Int) + (b : Int) = ((a + b : Nat) : Int) := (Int.natCast_add a b).symm
theorem wrapN (a : Nat) (ha : a < 18446744073709551616) : IntKind.u64.wrap (a : Int) = (a : Int) := by rw [IntKind.wrap_u64]; omega
theorem wrapM (a : Nat) : IntKind.u64.wrap (a : Int) = ((a % 18446744073709551616 : Nat) : Int) := by rw [IntKind.wrap_u64]; omega
end Mul64

set_option maxHeartbeats 1000000 in
theorem mul64N (x y : Nat) (hx : x < 18446744073709551616) (hy : y < 18446744073709551616) (w : World) :
    Calls Tryz.prog 155 #[.int .u64 x, .int .u64 y] w fun e w' => e = .returned (.tuple #[.int .u64 ((x * y / 18446744073709551616 : Nat) : Int), .int .u64 ((x * y % 18446744073709551616 : Nat) : Int)]) ∧ w' = w := by
  obtain ⟨bd, bt, bw, hhi⟩ := Lib.mul64_hi x y hx hy
  have ba := Lib.half_mul_le (a := x / 4294967296) (b := y / 4294967296) (by omega) (by omega)
  have bb := Lib.half_mul_le (a := x / 4294967296) (b := y % 4294967296) (by omega) (by omega)
  have bc := Lib.half_mul_le (a := x % 4294967296) (b := y / 4294967296) (by omega) (by omega)
  have ba' : x / 4294967296 * (y / 4294967296) < 18446744073709551616 := by omega
  have bb' : x / 4294967296 * (y % 4294967296) < 18446744073709551616 := by omega
  have bc' : x % 4294967296 * (y / 4294967296) < 18446744073709551616 := by omega
  have bh1 : x / 4294967296 * (y / 4294967296) + (x / 4294967296 * (y % 4294967296) + x % 4294967296 * (y % 4294967296) / 4294967296) / 4294967296 < 18446744073709551616 := by omega
  have bh : x / 4294967296 * (y / 4294967296) + (x / 4294967296 * (y % 4294967296) + x % 4294967296 * (y % 4294967296) / 4294967296) / 4294967296 + ((x / 4294967296 * (y % 4294967296) + x % 4294967296 * (y % 4294967296) / 4294967296) % 4294967296 + x % 4294967296 * (y / 4294967296)) / 4294967296 < 18446744073709551616 := by omega
  go_enter Tryz.func155, Tryz.ntmps155
  go_wp2
  simp only [Mul64.maskN x hx, Mul64.maskN y hy, Mul64.divN, Mul64.mulN, Mul64.addN, Mul64.wrapN _ bd, Mul64.wrapN _ bb', Mul64.wrapN _ bt, Mul64.maskN _ bt, Mul64.wrapN _ bc', Mul64.wrapN _ bw, Mul64.wrapN _ ba', Mul64.wrapN _ bh1, Mul64.wrapN _ bh, Mul64.wrapM (x * y)]
  rw [hhi]
  go_ret2
  exact ⟨rfl, rfl⟩
theorem mul64 (x y : Int) (hx : 0 ≤ x) (hx' : x < 18446744073709551616) (hy : 0 ≤ y) (hy' : y < 18446744073709551616) (w : World) :
    Calls Tryz.prog 155 #[.int .u64 x, .int .u64 y] w fun e w' => e = .returned (.tuple #[.int .u64 (x * y / 18446744073709551616), .int .u64 (x * y % 18446744073709551616)]) ∧ w = w' := by
  obtain ⟨x, rfl⟩ := Int.eq_ofNat_of_zero_le hx
  obtain ⟨y, rfl⟩ := Int.eq_ofNat_of_zero_le hy
  refine (mul64N x y (by omega) (by omega) w).mono ?_
  rintro e w' ⟨rfl, rfl⟩
  exact ⟨rfl, rfl⟩
end Go.Proofs.YtcfghkphkmoikaaGreat

/-
  Numbers of two words, as plain arithmetic: n is hiW n times 2^64 and loW n.
-/
namespace Go.Proofs.YtcfghkphkmoikaaGreat
set_option maxRecDepth 100000
open Go.RowKit

def hiW (n : Int) : Int := n / 18446744073709551616
def loW (n : Int) : Int := n % 18446744073709551616
def w128 (n : Int) : Int := (n + 170141183460469231731687303715884105728) % 340282366920938463463374607431768211456 - 170141183460469231731687303715884105728
def In128 (n : Int) : Prop := -170141183460469231731687303715884105728 ≤ n ∧ n < 170141183460469231731687303715884105728
def InW (n : Int) : Prop := -9223372036854775808 ≤ n ∧ n < 9223372036854775808
/-- The number as the program has it. -/
@[reducible] def W (n : Int) : Value := .agg #[.int .i64 (hiW n), .int .u64 (loW n)]

theorem lo_bd (n : Int) : 0 ≤ loW n ∧ loW n < 18446744073709551616 := by unfold loW; omega
theorem hi_bd {n : Int} (h : In128 n) : -9223372036854775808 ≤ hiW n ∧ hiW n < 9223372036854775808 := by unfold In128 at h; unfold hiW; omega
theorem hi_lo (n : Int) : hiW n * 18446744073709551616 + loW n = n := by unfold hiW loW; omega
theorem w128_in (n : Int) : In128 (w128 n) := by unfold In128 w128; omega
theorem w128_of {n : Int} (h : In128 n) : w128 n = n := by unfold In128 at h; unfold w128; omega
theorem in64_in {n : Int} (h : InW n) : In128 n := by unfold InW at h; unfold In128; omega
theorem hi_mk (h l : Int) (l0 : 0 ≤ l) (l1 : l < 18446744073709551616) : hiW (h * 18446744073709551616 + l) = h := by unfold hiW; omega
theorem lo_mk (h l : Int) (l0 : 0 ≤ l) (l1 : l < 18446744073709551616) : loW (h * 18446744073709551616 + l) = l := by unfold loW; omega
theorem mk_in (h l : Int) (h0 : -9223372036854775808 ≤ h) (h1 : h < 9223372036854775808) (l0 : 0 ≤ l) (l1 : l < 18446744073709551616) : In128 (h * 18446744073709551616 + l) := by unfold In128; omega
theorem eq_iff (a b : Int) : a = b ↔ hiW a = hiW b ∧ loW a = loW b := by
  constructor
  · rintro rfl; exact ⟨rfl, rfl⟩
  · rintro ⟨h1, h2⟩; rw [← hi_lo a, ← hi_lo b, h1, h2]
/-- Two words that make the number up to 2^128 are the number's. -/
theorem W_mk {n h l : Int} (h0 : -9223372036854775808 ≤ h) (h1 : h < 9223372036854775808) (l0 : 0 ≤ l) (l1 : l < 18446744073709551616) (e : (h * 18446744073709551616 + l - n) % 340282366920938463463374607431768211456 = 0) : Value.agg #[.int .i64 h, .int .u64 l] = W (w128 n) := by
  have : w128 n = h * 18446744073709551616 + l := by unfold w128; omega
  rw [this]; unfold W; rw [hi_mk h l l0 l1, lo_mk h l l0 l1]
end Go.Proofs.YtcfghkphkmoikaaGreat

/-
  The walks of layer 1 (wide): sums.
-/
namespace Go.Proofs.YtcfghkphkmoikaaGreat
set_option maxRecDepth 100000
open Go.RowKit
set_option linter.unusedVariables false

theorem u64_bd (x : Int) : 0 ≤ IntKind.u64.wrap x ∧ IntKind.u64.wrap x < 18446744073709551616 := by rw [IntKind.wrap_u64]; omega
theorem w64_bd (x : Int) : -9223372036854775808 ≤ wrap64 x ∧ wrap64 x < 9223372036854775808 := by unfold wrap64; omega

theorem wide_add (a b : Int) (ha : In128 a) (hb : In128 b) (w : World) :
    Calls Tryz.prog 126 #[W a, W b] w fun e w' => e = .returned (W (w128 (a + b))) ∧ Since w w' := by
  obtain ⟨a0, a1⟩ := lo_bd a; obtain ⟨b0, b1⟩ := lo_bd b
  obtain ⟨c0, c1⟩ := u64_bd (hiW a); obtain ⟨d0, d1⟩ := u64_bd (hiW b)
  have k0 : 0 ≤ (loW a + loW b) / 18446744073709551616 := by omega
  have k1 : (loW a + loW b) / 18446744073709551616 ≤ 1 := by omega
  have E : Value.agg #[.int .i64 (wrap64 ((IntKind.u64.wrap (hiW a) + IntKind.u64.wrap (hiW b) + (loW a + loW b) / 18446744073709551616) % 18446744073709551616)), .int .u64 ((loW a + loW b) % 18446744073709551616)] = W (w128 (a + b)) := by
    refine W_mk (w64_bd _).1 (w64_bd _).2 (by omega) (by omega) ?_
    have := hi_lo a; have := hi_lo b
    rw [IntKind.wrap_u64, IntKind.wrap_u64]; unfold wrap64
    omega
  rw [← E]; clear E
  go_enter Tryz.func126, Tryz.ntmps126
  go_wp2_with (first | simp only [add64_0 (loW a) (loW b) a0 b0] | simp only [add64 (IntKind.u64.wrap (hiW a)) (IntKind.u64.wrap (hiW b)) ((loW a + loW b) / 18446744073709551616) c0 d0 k0 k1])
  refine bodyPost_ret (by simp [results, Tryz.results126, go_sem]) rfl ⟨rfl, ?_⟩
  (repeat (first | with_reducible (exact Since.refl _) | with_reducible assumption | with_reducible (refine Since.drew ?_) | with_reducible (refine Since.drewN ?_ _) | with_reducible (refine Since.alloc ?_ _) | (with_reducible (refine Since.setCell ?_ ?_ _); rotate_left; focus (first | (simp; done) | (simp; omega) | omega)) | (with_reducible (refine Since.trans ?_ (by with_reducible assumption)))))

end Go.Proofs.YtcfghkphkmoikaaGreat

/-
  The walks of layer 1 (wide): small numbers, negation, products, order.
-/
namespace Go.Proofs.YtcfghkphkmoikaaGreat
set_option maxRecDepth 100000
open Go.RowKit
set_option linter.unusedVariables false

theorem W_zero : Value.agg #[.int .i64 0, .int .u64 0] = W 0 := by unfold W hiW loW; rfl
theorem W_in64 {n : Int} (h : InW n) : W n = .agg #[.int .i64 (n / 9223372036854775808), .int .u64 (IntKind.u64.wrap n)] := by
  unfold InW at h
  have e1 : hiW n = n / 9223372036854775808 := by unfold hiW; omega
  have e2 : loW n = IntKind.u64.wrap n := by rw [IntKind.wrap_u64]; rfl
  unfold W; rw [e1, e2]

theorem wide_of (n : Int) (h : InW n) (w : World) :
    Calls Tryz.prog 129 #[.int .i64 n] w fun e w' => e = .returned (W n) ∧ Since w w' := by
  have h' := h
  unfold InW at h'
  rw [W_in64 h]
  go_enter Tryz.func129, Tryz.ntmps129
  go_wp2
  refine bodyPost_ret (by simp [results, Tryz.results129, go_sem]) rfl ⟨rfl, ?_⟩
  (repeat (first | with_reducible (exact Since.refl _) | with_reducible assumption | with_reducible (refine Since.drew ?_) | with_reducible (refine Since.drewN ?_ _) | with_reducible (refine Since.alloc ?_ _) | (with_reducible (refine Since.setCell ?_ ?_ _); rotate_left; focus (first | (simp; done) | (simp; omega) | omega)) | (with_reducible (refine Since.trans ?_ (by with_reducible assumption)))))

theorem wide_small (a : Int) (ha : In128 a) (hs : InW a) (w : World) :
    Calls Tryz.prog 131 #[W a] w fun e w' => e = .returned (.tuple #[.int .i64 a, .bool true]) ∧ Since w w' := by
  have hv : wrap64 (loW a) = a := by unfold InW at hs; unfold wrap64 loW; omega
  go_enter Tryz.func131, Tryz.ntmps131
  go_wp2_with fail
  (refine wp_named fun wr1 hwr1 => ?_; go_region_held3 (fun w' => (∀ b o, b < wr1.heap.size → w'.cell? ⟨b, o, none⟩ = wr1.cell? ⟨b, o, none⟩) ∧ (∀ b o, b < wr1.heap.size → w'.frozen? ⟨b, o, none⟩ = wr1.frozen? ⟨b, o, none⟩) ∧ (∀ k, k < wr1.heap.size → k < w'.heap.size) ∧ Below wr1.heap.size wr1 w') ((subst hwr1; (repeat (with_reducible (refine since_put ?_ ?_ _); rotate_left; focus (first | (simp; done) | (simp; omega) | omega))); first | assumption | (refine since_step (by assumption) ?_; first | assumption | ((repeat (first | with_reducible (exact Since.refl _) | with_reducible assumption | with_reducible (refine Since.drew ?_) | with_reducible (refine Since.drewN ?_ _) | with_reducible (refine Since.alloc ?_ _) | (with_reducible (refine Since.setCell ?_ ?_ _); rotate_left; focus (first | (simp; done) | (simp; omega) | omega)))); done)) | (refine since_step (Since.refl _) ?_; first | assumption | ((repeat (first | with_reducible (exact Since.refl _) | with_reducible assumption | with_reducible (refine Since.drew ?_) | with_reducible (refine Since.drewN ?_ _) | with_reducible (refine Since.alloc ?_ _) | (with_reducible (refine Since.setCell ?_ ?_ _); rotate_left; focus (first | (simp; done) | (simp; omega) | omega)) | (with_reducible (refine Since.trans ?_ (by with_reducible assumption))))); done)))) ((go_at_call 129; refine (wide_of a hs _).mono ?_; rintro e w1 ⟨rfl, hS⟩; have hZ := hS.below.size; (try simp at hZ))); all_goals (rename_i hHeld; have hR1 : Since wr1 _ := hHeld; obtain ⟨hcR1, hfR1, hzR1, hbR1⟩ := hHeld; subst hwr1))
  go_wp2
  go_ret2
  exact ⟨rfl, by (repeat (first | with_reducible (exact Since.refl _) | with_reducible assumption | with_reducible (refine Since.drew ?_) | with_reducible (refine Since.drewN ?_ _) | with_reducible (refine Since.alloc ?_ _) | (with_reducible (refine Since.setCell ?_ ?_ _); rotate_left; focus (first | (simp; done) | (simp; omega) | omega)) | (with_reducible (refine Since.trans ?_ (by with_reducible assumption)))))⟩

/-- The low word as a small number. -/
def smallOf (a : Int) : Int := wrap64 (loW a)
theorem smallOf_in (a : Int) : InW (smallOf a) := by unfold smallOf wrap64 InW; omega
theorem smallOf_ne {a : Int} (hs : ¬ InW a) : (hiW (smallOf a) == hiW a) = false ∨ (loW (smallOf a) == loW a) = false := by
  by_cases h1 : hiW (smallOf a) = hiW a
  · by_cases h2 : loW (smallOf a) = loW a
    · exact absurd ((eq_iff _ _).2 ⟨h1, h2⟩ ▸ smallOf_in a) hs
    · exact .inr (by simpa using h2)
  · exact .inl (by simpa using h1)
theorem smallOf_lo (a : Int) : loW (smallOf a) = loW a := by unfold smallOf wrap64 loW; omega
theorem smallOf_hi {a : Int} (hs : ¬ InW a) : (hiW (smallOf a) == hiW a) = false := by
  rcases smallOf_ne hs with h | h
  · exact h
  · rw [smallOf_lo] at h; simp at h

theorem wide_big (a : Int) (ha : In128 a) (hs : ¬ InW a) (w : World) :
    Calls Tryz.prog 131 #[W a] w fun e w' => e = .returned (.tuple #[.int .i64 0, .bool false]) ∧ Since w w' := by
  have hv : wrap64 (loW a) = smallOf a := rfl
  have h1 := smallOf_hi hs
  clear hs
  have h2 := smallOf_in a
  have h3 := smallOf_lo a
  go_enter Tryz.func131, Tryz.ntmps131
  go_wp2_with fail
  (refine wp_named fun wr1 hwr1 => ?_; go_region_held3 (fun w' => (∀ b o, b < wr1.heap.size → w'.cell? ⟨b, o, none⟩ = wr1.cell? ⟨b, o, none⟩) ∧ (∀ b o, b < wr1.heap.size → w'.frozen? ⟨b, o, none⟩ = wr1.frozen? ⟨b, o, none⟩) ∧ (∀ k, k < wr1.heap.size → k < w'.heap.size) ∧ Below wr1.heap.size wr1 w') ((subst hwr1; (repeat (with_reducible (refine since_put ?_ ?_ _); rotate_left; focus (first | (simp; done) | (simp; omega) | omega))); first | assumption | (refine since_step (by assumption) ?_; first | assumption | ((repeat (first | with_reducible (exact Since.refl _) | with_reducible assumption | with_reducible (refine Since.drew ?_) | with_reducible (refine Since.drewN ?_ _) | with_reducible (refine Since.alloc ?_ _) | (with_reducible (refine Since.setCell ?_ ?_ _); rotate_left; focus (first | (simp; done) | (simp; omega) | omega)))); done)) | (refine since_step (Since.refl _) ?_; first | assumption | ((repeat (first | with_reducible (exact Since.refl _) | with_reducible assumption | with_reducible (refine Since.drew ?_) | with_reducible (refine Since.drewN ?_ _) | with_reducible (refine Since.alloc ?_ _) | (with_reducible (refine Since.setCell ?_ ?_ _); rotate_left; focus (first | (simp; done) | (simp; omega) | omega)) | (with_reducible (refine Since.trans ?_ (by with_reducible assumption))))); done)))) ((go_at_call 129; refine (wide_of (smallOf a) h2 _).mono ?_; rintro e w1 ⟨rfl, hS⟩; have hZ := hS.below.size; (try simp at hZ))); all_goals (rename_i hHeld; have hR1 : Since wr1 _ := hHeld; obtain ⟨hcR1, hfR1, hzR1, hbR1⟩ := hHeld; subst hwr1))
  go_wp2
  go_ret2
  exact ⟨rfl, by (repeat (first | with_reducible (exact Since.refl _) | with_reducible assumption | with_reducible (refine Since.drew ?_) | with_reducible (refine Since.drewN ?_ _) | with_reducible (refine Since.alloc ?_ _) | (with_reducible (refine Since.setCell ?_ ?_ _); rotate_left; focus (first | (simp; done) | (simp; omega) | omega)) | (with_reducible (refine Since.trans ?_ (by with_reducible assumption)))))⟩

/-- Which is greater: -1, 0 or 1. -/
def cmpI (a b : Int) : Int := if a < b then -1 else if b < a then 1 else 0

theorem cmpI_hi {a b : Int} (h : hiW a ≠ hiW b) : cmpI (hiW a) (hiW b) = cmpI a b := by
  have := hi_lo a; have := hi_lo b; have := lo_bd a; have := lo_bd b
  unfold cmpI; split <;> split <;> (try split) <;> omega
theorem cmpI_lo {a b : Int} (h : hiW a = hiW b) : cmpI (loW a) (loW b) = cmpI a b := by
  have := hi_lo a; have := hi_lo b; have := lo_bd a; have := lo_bd b
  unfold cmpI; split <;> split <;> (try split) <;> omega

def signI (a : Int) : Int := cmpI a 0
end Go.Proofs.YtcfghkphkmoikaaGreat

/-
  The walks of layer 1 (wide): products, squares that exceed.
-/
namespace Go.Proofs.YtcfghkphkmoikaaGreat
set_option maxRecDepth 100000
open Go.RowKit
set_option linter.unusedVariables false

/-- The product of two words, as two words. -/
theorem uv_bd (u v : Int) (h0 : 0 ≤ u) (h1 : u < 18446744073709551616) (k0 : 0 ≤ v) (k1 : v < 18446744073709551616) : 0 ≤ u * v ∧ u * v / 18446744073709551616 < 18446744073709551616 := by
  have a := Int.mul_nonneg h0 k0
  have b : u * v ≤ 18446744073709551615 * 18446744073709551615 := Int.mul_le_mul (by omega) (by omega) k0 (by omega)
  exact ⟨a, by omega⟩

theorem mul_pp (a b : Int) (ha : InW a) (hb : InW b) (h1 : ¬ a < 0) (h2 : ¬ b < 0) :
    Value.agg #[.int .i64 (wrap64 (IntKind.u64.wrap a * IntKind.u64.wrap b / 18446744073709551616)), .int .u64 (IntKind.u64.wrap a * IntKind.u64.wrap b % 18446744073709551616)] = W (w128 (a * b)) := by
  unfold InW at ha hb
  refine W_mk (w64_bd _).1 (w64_bd _).2 (by omega) (by omega) ?_
  have e : IntKind.u64.wrap a * IntKind.u64.wrap b = a * b := by
    rw [IntKind.wrap_u64, IntKind.wrap_u64, show a % 18446744073709551616 = a by omega, show b % 18446744073709551616 = b by omega]
  rw [e]; generalize a * b = p; unfold wrap64; omega
theorem mul_np (a b : Int) (ha : InW a) (hb : InW b) (h1 : a < 0) (h2 : ¬ b < 0) :
    Value.agg #[.int .i64 (wrap64 (wrap64 (IntKind.u64.wrap a * IntKind.u64.wrap b / 18446744073709551616) - b)), .int .u64 (IntKind.u64.wrap a * IntKind.u64.wrap b % 18446744073709551616)] = W (w128 (a * b)) := by
  unfold InW at ha hb
  refine W_mk (w64_bd _).1 (w64_bd _).2 (by omega) (by omega) ?_
  have e : IntKind.u64.wrap a * IntKind.u64.wrap b = a * b + 18446744073709551616 * b := by
    rw [IntKind.wrap_u64, IntKind.wrap_u64, show a % 18446744073709551616 = a + 18446744073709551616 by omega, show b % 18446744073709551616 = b by omega, Int.add_mul]
  rw [e]; generalize a * b = p; unfold wrap64; omega
theorem mul_pn (a b : Int) (ha : InW a) (hb : InW b) (h1 : ¬ a < 0) (h2 : b < 0) :
    Value.agg #[.int .i64 (wrap64 (wrap64 (IntKind.u64.wrap a * IntKind.u64.wrap b / 18446744073709551616) - a)), .int .u64 (IntKind.u64.wrap a * IntKind.u64.wrap b % 18446744073709551616)] = W (w128 (a * b)) := by
  unfold InW at ha hb
  refine W_mk (w64_bd _).1 (w64_bd _).2 (by omega) (by omega) ?_
  have e : IntKind.u64.wrap a * IntKind.u64.wrap b = a * b + a * 18446744073709551616 := by
    rw [IntKind.wrap_u64, IntKind.wrap_u64, show a % 18446744073709551616 = a by omega, show b % 18446744073709551616 = b + 18446744073709551616 by omega, Int.mul_add]
  rw [e]; generalize a * b = p; unfold wrap64; omega
theorem mul_nn (a b : Int) (ha : InW a) (hb : InW b) (h1 : a < 0) (h2 : b < 0) :
    Value.agg #[.int .i64 (wrap64 (wrap64 (wrap64 (IntKind.u64.wrap a * IntKind.u64.wrap b / 18446744073709551616) - b) - a)), .int .u64 (IntKind.u64.wrap a * IntKind.u64.wrap b % 18446744073709551616)] = W (w128 (a * b)) := by
  unfold InW at ha hb
  refine W_mk (w64_bd _).1 (w64_bd _).2 (by omega) (by omega) ?_
  have e : IntKind.u64.wrap a * IntKind.u64.wrap b = a * b + 18446744073709551616 * b + (a + 18446744073709551616) * 18446744073709551616 := by
    rw [IntKind.wrap_u64, IntKind.wrap_u64, show a % 18446744073709551616 = a + 18446744073709551616 by omega, show b % 18446744073709551616 = b + 18446744073709551616 by omega, Int.mul_add, Int.add_mul a]
  rw [e]; generalize a * b = p; unfold wrap64; omega
theorem mul_in {a b : Int} (ha : InW a) (hb : InW b) : In128 (a * b) := by
  unfold InW at ha hb
  have h1 : (a * b).natAbs ≤ 9223372036854775808 * 9223372036854775808 := by rw [Int.natAbs_mul]; exact Nat.mul_le_mul (by omega) (by omega)
  unfold In128
  omega

theorem wide_mul (a b : Int) (ha : InW a) (hb : InW b) (w : World) :
    Calls Tryz.prog 127 #[.int .i64 a, .int .i64 b] w fun e w' => e = .returned (W (a * b)) ∧ Since w w' := by
  obtain ⟨a0, a1⟩ := u64_bd a; obtain ⟨b0, b1⟩ := u64_bd b
  rw [← w128_of (mul_in ha hb)]
  by_cases h1 : a < 0 <;> by_cases h2 : b < 0
  · rw [← mul_nn a b ha hb h1 h2]; clear ha hb
    go_enter Tryz.func127, Tryz.ntmps127
    go_wp2_with (go_at_call 155; refine (mul64 _ _ a0 a1 b0 b1 _).mono ?_; rintro e w' ⟨rfl, rfl⟩)
    refine bodyPost_ret (by simp [results, Tryz.results127, go_sem]) rfl ⟨rfl, ?_⟩
    (repeat (first | with_reducible (exact Since.refl _) | with_reducible assumption | with_reducible (refine Since.drew ?_) | with_reducible (refine Since.drewN ?_ _) | with_reducible (refine Since.alloc ?_ _) | (with_reducible (refine Since.setCell ?_ ?_ _); rotate_left; focus (first | (simp; done) | (simp; omega) | omega)) | (with_reducible (refine Since.trans ?_ (by with_reducible assumption)))))
  · rw [← mul_np a b ha hb h1 h2]; clear ha hb
    go_enter Tryz.func127, Tryz.ntmps127
    go_wp2_with (go_at_call 155; refine (mul64 _ _ a0 a1 b0 b1 _).mono ?_; rintro e w' ⟨rfl, rfl⟩)
    refine bodyPost_ret (by simp [results, Tryz.results127, go_sem]) rfl ⟨rfl, ?_⟩
    (repeat (first | with_reducible (exact Since.refl _) | with_reducible assumption | with_reducible (refine Since.drew ?_) | with_reducible (refine Since.drewN ?_ _) | with_reducible (refine Since.alloc ?_ _) | (with_reducible (refine Since.setCell ?_ ?_ _); rotate_left; focus (first | (simp; done) | (simp; omega) | omega)) | (with_reducible (refine Since.trans ?_ (by with_reducible assumption)))))
  · rw [← mul_pn a b ha hb h1 h2]; clear ha hb
    go_enter Tryz.func127, Tryz.ntmps127
    go_wp2_with (go_at_call 155; refine (mul64 _ _ a0 a1 b0 b1 _).mono ?_; rintro e w' ⟨rfl, rfl⟩)
    refine bodyPost_ret (by simp [results, Tryz.results127, go_sem]) rfl ⟨rfl, ?_⟩
    (repeat (first | with_reducible (exact Since.refl _) | with_reducible assumption | with_reducible (refine Since.drew ?_) | with_reducible (refine Since.drewN ?_ _) | with_reducible (refine Since.alloc ?_ _) | (with_reducible (refine Since.setCell ?_ ?_ _); rotate_left; focus (first | (simp; done) | (simp; omega) | omega)) | (with_reducible (refine Since.trans ?_ (by with_reducible assumption)))))
  · rw [← mul_pp a b ha hb h1 h2]; clear ha hb
    go_enter Tryz.func127, Tryz.ntmps127
    go_wp2_with (go_at_call 155; refine (mul64 _ _ a0 a1 b0 b1 _).mono ?_; rintro e w' ⟨rfl, rfl⟩)
    refine bodyPost_ret (by simp [results, Tryz.results127, go_sem]) rfl ⟨rfl, ?_⟩
    (repeat (first | with_reducible (exact Since.refl _) | with_reducible assumption | with_reducible (refine Since.drew ?_) | with_reducible (refine Since.drewN ?_ _) | with_reducible (refine Since.alloc ?_ _) | (with_reducible (refine Since.setCell ?_ ?_ _); rotate_left; focus (first | (simp; done) | (simp; omega) | omega)) | (with_reducible (refine Since.trans ?_ (by with_reducible assumption)))))

theorem xor_ones (y : BitVec 64) : ((-1#64) ^^^ y).toNat = 18446744073709551615 - y.toNat := by
  have : (-1#64) = BitVec.allOnes 64 := by decide
  rw [this, BitVec.allOnes_xor, BitVec.toNat_not]
theorem not_i64 (x : Int) (h0 : -9223372036854775808 ≤ x) (h1 : x < 9223372036854775808) : bits .xor .i64 (-1) x = -1 - x := by
  have e : (BitVec.ofInt 64 x).toNat = (x % 18446744073709551616).toNat := BitVec.toNat_ofInt ..
  show IntKind.i64.wrap ((BitVec.ofInt 64 (-1) ^^^ BitVec.ofInt 64 x).toNat : Int) = _
  have h : (BitVec.ofInt 64 (-1) ^^^ BitVec.ofInt 64 x).toNat = 18446744073709551615 - (BitVec.ofInt 64 x).toNat := xor_ones _
  rw [h, e, IntKind.wrap_i64]; omega
theorem not_u64 (x : Int) (h0 : 0 ≤ x) (h1 : x < 18446744073709551616) : bits .xor .u64 IntKind.u64.max x = 18446744073709551615 - x := by
  have e : (BitVec.ofInt 64 x).toNat = (x % 18446744073709551616).toNat := BitVec.toNat_ofInt ..
  show IntKind.u64.wrap ((BitVec.ofInt 64 IntKind.u64.max ^^^ BitVec.ofInt 64 x).toNat : Int) = _
  have h : (BitVec.ofInt 64 IntKind.u64.max ^^^ BitVec.ofInt 64 x).toNat = 18446744073709551615 - (BitVec.ofInt 64 x).toNat := xor_ones _
  rw [h, e, IntKind.wrap_u64]; omega

theorem comp_in {a : Int} (ha : In128 a) : In128 (-1 - a) := by unfold In128 at *; omega
theorem wide_complement (a : Int) (ha : In128 a) (w : World) :
    Calls Tryz.prog 159 #[W a] w fun e w' => e = .returned (W (-1 - a)) ∧ Since w w' := by
  obtain ⟨a0, a1⟩ := hi_bd ha; obtain ⟨a2, a3⟩ := lo_bd a
  have E : Value.agg #[.int .i64 (bits .xor .i64 (-1) (hiW a)), .int .u64 (bits .xor .u64 IntKind.u64.max (loW a))] = W (-1 - a) := by
    rw [not_i64 _ a0 a1, not_u64 _ a2 a3]
    unfold W
    rw [show -1 - hiW a = hiW (-1 - a) by unfold hiW; omega, show 18446744073709551615 - loW a = loW (-1 - a) by unfold loW; omega]
  rw [← E]; clear E
  go_enter Tryz.func159, Tryz.ntmps159
  go_wp2
  refine bodyPost_ret (by simp [results, Tryz.results159, go_sem]) rfl ⟨rfl, ?_⟩
  (repeat (first | with_reducible (exact Since.refl _) | with_reducible assumption | with_reducible (refine Since.drew ?_) | with_reducible (refine Since.drewN ?_ _) | with_reducible (refine Since.alloc ?_ _) | (with_reducible (refine Since.setCell ?_ ?_ _); rotate_left; focus (first | (simp; done) | (simp; omega) | omega)) | (with_reducible (refine Since.trans ?_ (by with_reducible assumption)))))

/-- Is the square of n more than a? -/
def sqx (n a : Int) : Bool := decide (a < n * n)
theorem sqx_hi {n a : Int} (n0 : 0 ≤ n) (n1 : n < 18446744073709551616) (ha : In128 a) (ha0 : 0 ≤ a) (h : hiW a < n * n / 18446744073709551616) : sqx n a = true := by
  unfold sqx hiW at *; simp only [decide_eq_true_eq]; generalize n * n = p at *; omega
theorem sqx_lo {n a : Int} (h : n * n / 18446744073709551616 = hiW a) : sqx n a = decide (loW a < n * n % 18446744073709551616) := by
  unfold sqx hiW loW at *; generalize n * n = p at *; rw [decide_eq_decide]; omega
theorem sqx_no {n a : Int} (h : n * n / 18446744073709551616 < hiW a) : sqx n a = false := by
  unfold sqx hiW at *; simp only [decide_eq_false_iff_not]; generalize n * n = p at *; omega

end Go.Proofs.YtcfghkphkmoikaaGreat
