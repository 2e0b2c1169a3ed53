/-
  The walks of layer 1 (wide): products, squares that exceed.
-/
import Derived.Test.YtckochcocflleaaGreatMgW
namespace Go.Proofs.YtckochcocflleaaGreat
open Go.RowKit
set_option linter.unusedVariables false

/-- The product of two words, as two words. -/
theorem uv_bd (u v : Int) (h0 : 0 ≤ u) (h1 : u < 18446744073709551616) (k0 : 0 ≤ v) (k1 : v < 18446744073709551616) : 0 ≤ u * v ∧ u * v / 18446744073709551616 < 18446744073709551616 := by
  have a := Int.mul_nonneg h0 k0
  have b : u * v ≤ 18446744073709551615 * 18446744073709551615 := Int.mul_le_mul (by omega) (by omega) k0 (by omega)
  exact ⟨a, by omega⟩

theorem mul_pp (a b : Int) (ha : InW a) (hb : InW b) (h1 : ¬ a < 0) (h2 : ¬ b < 0) :
    Value.agg #[.int .i64 (wrap64 (IntKind.u64.wrap a * IntKind.u64.wrap b / 18446744073709551616)), .int .u64 (IntKind.u64.wrap a * IntKind.u64.wrap b % 18446744073709551616)] = W (w128 (a * b)) := by
  unfold InW at ha hb
  refine W_mk (w64_bd _).1 (w64_bd _).2 (by omega) (by omega) ?_
  have e : IntKind.u64.wrap a * IntKind.u64.wrap b = a * b := by
    rw [IntKind.wrap_u64, IntKind.wrap_u64, show a % 18446744073709551616 = a by omega, show b % 18446744073709551616 = b by omega]
  rw [e]; generalize a * b = p; unfold wrap64; omega
theorem mul_np (a b : Int) (ha : InW a) (hb : InW b) (h1 : a < 0) (h2 : ¬ b < 0) :
    Value.agg #[.int .i64 (wrap64 (wrap64 (IntKind.u64.wrap a * IntKind.u64.wrap b / 18446744073709551616) - b)), .int .u64 (IntKind.u64.wrap a * IntKind.u64.wrap b % 18446744073709551616)] = W (w128 (a * b)) := by
  unfold InW at ha hb
  refine W_mk (w64_bd _).1 (w64_bd _).2 (by omega) (by omega) ?_
  have e : IntKind.u64.wrap a * IntKind.u64.wrap b = a * b + 18446744073709551616 * b := by
    rw [IntKind.wrap_u64, IntKind.wrap_u64, show a % 18446744073709551616 = a + 18446744073709551616 by omega, show b % 18446744073709551616 = b by omega, Int.add_mul]
  rw [e]; generalize a * b = p; unfold wrap64; omega
theorem mul_pn (a b : Int) (ha : InW a) (hb : InW b) (h1 : ¬ a < 0) (h2 : b < 0) :
    Value.agg #[.int .i64 (wrap64 (wrap64 (IntKind.u64.wrap a * IntKind.u64.wrap b / 18446744073709551616) - a)), .int .u64 (IntKind.u64.wrap a * IntKind.u64.wrap b % 18446744073709551616)] = W (w128 (a * b)) := by
  unfold InW at ha hb
  refine W_mk (w64_bd _).1 (w64_bd _).2 (by omega) (by omega) ?_
  have e : IntKind.u64.wrap a * IntKind.u64.wrap b = a * b + a * 18446744073709551616 := by
    rw [IntKind.wrap_u64, IntKind.wrap_u64, show a % 18446744073709551616 = a by omega, show b % 18446744073709551616 = b + 18446744073709551616 by omega, Int.mul_add]
  rw [e]; generalize a * b = p; unfold wrap64; omega
theorem mul_nn (a b : Int) (ha : InW a) (hb : InW b) (h1 : a < 0) (h2 : b < 0) :
    Value.agg #[.int .i64 (wrap64 (wrap64 (wrap64 (IntKind.u64.wrap a * IntKind.u64.wrap b / 18446744073709551616) - b) - a)), .int .u64 (IntKind.u64.wrap a * IntKind.u64.wrap b % 18446744073709551616)] = W (w128 (a * b)) := by
  unfold InW at ha hb
  refine W_mk (w64_bd _).1 (w64_bd _).2 (by omega) (by omega) ?_
  have e : IntKind.u64.wrap a * IntKind.u64.wrap b = a * b + 18446744073709551616 * b + (a + 18446744073709551616) * 18446744073709551616 := by
    rw [IntKind.wrap_u64, IntKind.wrap_u64, show a % 18446744073709551616 = a + 18446744073709551616 by omega, show b % 18446744073709551616 = b + 18446744073709551616 by omega, Int.mul_add, Int.add_mul a]
  rw [e]; generalize a * b = p; unfold wrap64; omega
theorem mul_in {a b : Int} (ha : InW a) (hb : InW b) : In128 (a * b) := by
  unfold InW at ha hb
  have h1 : (a * b).natAbs ≤ 9223372036854775808 * 9223372036854775808 := by rw [Int.natAbs_mul]; exact Nat.mul_le_mul (by omega) (by omega)
  unfold In128
  omega

theorem wide_mul (a b : Int) (ha : InW a) (hb : InW b) (w : World) :
    Calls Tryz.prog 57 #[.int .i64 a, .int .i64 b] w fun e w' => e = .returned (W (a * b)) ∧ Since w w' := by
  obtain ⟨a0, a1⟩ := u64_bd a; obtain ⟨b0, b1⟩ := u64_bd b
  rw [← w128_of (mul_in ha hb)]
  by_cases h1 : a < 0 <;> by_cases h2 : b < 0
  · rw [← mul_nn a b ha hb h1 h2]; clear ha hb
    go_enter Tryz.func57, Tryz.ntmps57
    go_wp2_with (go_at_call 86; refine (mul64 _ _ a0 a1 b0 b1 _).mono ?_; rintro e w' ⟨rfl, rfl⟩)
    refine bodyPost_ret (by simp [results, Tryz.results57, go_sem]) rfl ⟨rfl, ?_⟩
    (repeat (first | with_reducible (exact Since.refl _) | with_reducible assumption | with_reducible (refine Since.drew ?_) | with_reducible (refine Since.drewN ?_ _) | with_reducible (refine Since.alloc ?_ _) | (with_reducible (refine Since.setCell ?_ ?_ _); rotate_left; focus (first | (simp; done) | (simp; omega) | omega)) | (with_reducible (refine Since.trans ?_ (by with_reducible assumption)))))
  · rw [← mul_np a b ha hb h1 h2]; clear ha hb
    go_enter Tryz.func57, Tryz.ntmps57
    go_wp2_with (go_at_call 86; refine (mul64 _ _ a0 a1 b0 b1 _).mono ?_; rintro e w' ⟨rfl, rfl⟩)
    refine bodyPost_ret (by simp [results, Tryz.results57, go_sem]) rfl ⟨rfl, ?_⟩
    (repeat (first | with_reducible (exact Since.refl _) | with_reducible assumption | with_reducible (refine Since.drew ?_) | with_reducible (refine Since.drewN ?_ _) | with_reducible (refine Since.alloc ?_ _) | (with_reducible (refine Since.setCell ?_ ?_ _); rotate_left; focus (first | (simp; done) | (simp; omega) | omega)) | (with_reducible (refine Since.trans ?_ (by with_reducible assumption)))))
  · rw [← mul_pn a b ha hb h1 h2]; clear ha hb
    go_enter Tryz.func57, Tryz.ntmps57
    go_wp2_with (go_at_call 86; refine (mul64 _ _ a0 a1 b0 b1 _).mono ?_; rintro e w' ⟨rfl, rfl⟩)
    refine bodyPost_ret (by simp [results, Tryz.results57, go_sem]) rfl ⟨rfl, ?_⟩
    (repeat (first | with_reducible (exact Since.refl _) | with_reducible assumption | with_reducible (refine Since.drew ?_) | with_reducible (refine Since.drewN ?_ _) | with_reducible (refine Since.alloc ?_ _) | (with_reducible (refine Since.setCell ?_ ?_ _); rotate_left; focus (first | (simp; done) | (simp; omega) | omega)) | (with_reducible (refine Since.trans ?_ (by with_reducible assumption)))))
  · rw [← mul_pp a b ha hb h1 h2]; clear ha hb
    go_enter Tryz.func57, Tryz.ntmps57
    go_wp2_with (go_at_call 86; refine (mul64 _ _ a0 a1 b0 b1 _).mono ?_; rintro e w' ⟨rfl, rfl⟩)
    refine bodyPost_ret (by simp [results, Tryz.results57, go_sem]) rfl ⟨rfl, ?_⟩
    (repeat (first | with_reducible (exact Since.refl _) | with_reducible assumption | with_reducible (refine Since.drew ?_) | with_reducible (refine Since.drewN ?_ _) | with_reducible (refine Since.alloc ?_ _) | (with_reducible (refine Since.setCell ?_ ?_ _); rotate_left; focus (first | (simp; done) | (simp; omega) | omega)) | (with_reducible (refine Since.trans ?_ (by with_reducible assumption)))))

theorem xor_ones (y : BitVec 64) : ((-1#64) ^^^ y).toNat = 18446744073709551615 - y.toNat := by
  have : (-1#64) = BitVec.allOnes 64 := by decide
  rw [this, BitVec.allOnes_xor, BitVec.toNat_not]
theorem not_i64 (x : Int) (h0 : -9223372036854775808 ≤ x) (h1 : x < 9223372036854775808) : bits .xor .i64 (-1) x = -1 - x := by
  have e : (BitVec.ofInt 64 x).toNat = (x % 18446744073709551616).toNat := BitVec.toNat_ofInt ..
  show IntKind.i64.wrap ((BitVec.ofInt 64 (-1) ^^^ BitVec.ofInt 64 x).toNat : Int) = _
  have h : (BitVec.ofInt 64 (-1) ^^^ BitVec.ofInt 64 x).toNat = 18446744073709551615 - (BitVec.ofInt 64 x).toNat := xor_ones _
  rw [h, e, IntKind.wrap_i64]; omega
theorem not_u64 (x : Int) (h0 : 0 ≤ x) (h1 : x < 18446744073709551616) : bits .xor .u64 IntKind.u64.max x = 18446744073709551615 - x := by
  have e : (BitVec.ofInt 64 x).toNat = (x % 18446744073709551616).toNat := BitVec.toNat_ofInt ..
  show IntKind.u64.wrap ((BitVec.ofInt 64 IntKind.u64.max ^^^ BitVec.ofInt 64 x).toNat : Int) = _
  have h : (BitVec.ofInt 64 IntKind.u64.max ^^^ BitVec.ofInt 64 x).toNat = 18446744073709551615 - (BitVec.ofInt 64 x).toNat := xor_ones _
  rw [h, e, IntKind.wrap_u64]; omega

theorem comp_in {a : Int} (ha : In128 a) : In128 (-1 - a) := by unfold In128 at *; omega
theorem wide_complement (a : Int) (ha : In128 a) (w : World) :
    Calls Tryz.prog 90 #[W a] w fun e w' => e = .returned (W (-1 - a)) ∧ Since w w' := by
  obtain ⟨a0, a1⟩ := hi_bd ha; obtain ⟨a2, a3⟩ := lo_bd a
  have E : Value.agg #[.int .i64 (bits .xor .i64 (-1) (hiW a)), .int .u64 (bits .xor .u64 IntKind.u64.max (loW a))] = W (-1 - a) := by
    rw [not_i64 _ a0 a1, not_u64 _ a2 a3]
    unfold W
    rw [show -1 - hiW a = hiW (-1 - a) by unfold hiW; omega, show 18446744073709551615 - loW a = loW (-1 - a) by unfold loW; omega]
  rw [← E]; clear E
  go_enter Tryz.func90, Tryz.ntmps90
  go_wp2
  refine bodyPost_ret (by simp [results, Tryz.results90, go_sem]) rfl ⟨rfl, ?_⟩
  (repeat (first | with_reducible (exact Since.refl _) | with_reducible assumption | with_reducible (refine Since.drew ?_) | with_reducible (refine Since.drewN ?_ _) | with_reducible (refine Since.alloc ?_ _) | (with_reducible (refine Since.setCell ?_ ?_ _); rotate_left; focus (first | (simp; done) | (simp; omega) | omega)) | (with_reducible (refine Since.trans ?_ (by with_reducible assumption)))))

/-- Is the square of n more than a? -/
def sqx (n a : Int) : Bool := decide (a < n * n)
theorem sqx_hi {n a : Int} (n0 : 0 ≤ n) (n1 : n < 18446744073709551616) (ha : In128 a) (ha0 : 0 ≤ a) (h : hiW a < n * n / 18446744073709551616) : sqx n a = true := by
  unfold sqx hiW at *; simp only [decide_eq_true_eq]; generalize n * n = p at *; omega
theorem sqx_lo {n a : Int} (h : n * n / 18446744073709551616 = hiW a) : sqx n a = decide (loW a < n * n % 18446744073709551616) := by
  unfold sqx hiW loW at *; generalize n * n = p at *; rw [decide_eq_decide]; omega
theorem sqx_no {n a : Int} (h : n * n / 18446744073709551616 < hiW a) : sqx n a = false := by
  unfold sqx hiW at *; simp only [decide_eq_false_iff_not]; generalize n * n = p at *; omega

end Go.Proofs.YtckochcocflleaaGreat
