/-
  The walks of layer 1 (wide): sums.
-/
import Derived.Test.YtckochcocflleaaBits
import Derived.Test.YtckochcocflleaaWideMath
import Derived.Test.YtckochcocflleaaKit
namespace Go.Proofs.Ytckochcocflleaa
open Go.RowKit
set_option linter.unusedVariables false

theorem u64_bd (x : Int) : 0 ≤ IntKind.u64.wrap x ∧ IntKind.u64.wrap x < 18446744073709551616 := by rw [IntKind.wrap_u64]; omega
theorem w64_bd (x : Int) : -9223372036854775808 ≤ wrap64 x ∧ wrap64 x < 9223372036854775808 := by unfold wrap64; omega

theorem wide_add (a b : Int) (ha : In128 a) (hb : In128 b) (w : World) :
    Calls Try.prog 15 #[W a, W b] w fun e w' => e = .returned (W (w128 (a + b))) ∧ Since w w' := by
  obtain ⟨a0, a1⟩ := lo_bd a; obtain ⟨b0, b1⟩ := lo_bd b
  obtain ⟨c0, c1⟩ := u64_bd (hiW a); obtain ⟨d0, d1⟩ := u64_bd (hiW b)
  have k0 : 0 ≤ (loW a + loW b) / 18446744073709551616 := by omega
  have k1 : (loW a + loW b) / 18446744073709551616 ≤ 1 := by omega
  have E : Value.agg #[.int .i64 (wrap64 ((IntKind.u64.wrap (hiW a) + IntKind.u64.wrap (hiW b) + (loW a + loW b) / 18446744073709551616) % 18446744073709551616)), .int .u64 ((loW a + loW b) % 18446744073709551616)] = W (w128 (a + b)) := by
    refine W_mk (w64_bd _).1 (w64_bd _).2 (by omega) (by omega) ?_
    have := hi_lo a; have := hi_lo b
    rw [IntKind.wrap_u64, IntKind.wrap_u64]; unfold wrap64
    omega
  rw [← E]; clear E
  go_enter Try.func15, Try.ntmps15
  go_wp2_with (first | simp only [add64_0 (loW a) (loW b) a0 b0] | simp only [add64 (IntKind.u64.wrap (hiW a)) (IntKind.u64.wrap (hiW b)) ((loW a + loW b) / 18446744073709551616) c0 d0 k0 k1])
  refine bodyPost_ret (by simp [results, Try.results15, go_sem]) rfl ⟨rfl, ?_⟩
  (repeat (first | with_reducible (exact Since.refl _) | with_reducible assumption | with_reducible (refine Since.drew ?_) | with_reducible (refine Since.drewN ?_ _) | with_reducible (refine Since.alloc ?_ _) | (with_reducible (refine Since.setCell ?_ ?_ _); rotate_left; focus (first | (simp; done) | (simp; omega) | omega)) | (with_reducible (refine Since.trans ?_ (by with_reducible assumption)))))

theorem wide_sub (a b : Int) (ha : In128 a) (hb : In128 b) (w : World) :
    Calls Try.prog 16 #[W a, W b] w fun e w' => e = .returned (W (w128 (a - b))) ∧ Since w w' := by
  obtain ⟨a0, a1⟩ := lo_bd a; obtain ⟨b0, b1⟩ := lo_bd b
  obtain ⟨c0, c1⟩ := u64_bd (hiW a); obtain ⟨d0, d1⟩ := u64_bd (hiW b)
  obtain ⟨k0, k1⟩ := bor_bd (loW a) (loW b)
  have E : Value.agg #[.int .i64 (wrap64 ((IntKind.u64.wrap (hiW a) - IntKind.u64.wrap (hiW b) - bor (loW a) (loW b)) % 18446744073709551616)), .int .u64 ((loW a - loW b) % 18446744073709551616)] = W (w128 (a - b)) := by
    refine W_mk (w64_bd _).1 (w64_bd _).2 (by omega) (by omega) ?_
    have := hi_lo a; have := hi_lo b
    rw [IntKind.wrap_u64, IntKind.wrap_u64]; unfold wrap64 bor
    split <;> omega
  rw [← E]; clear E
  go_enter Try.func16, Try.ntmps16
  go_wp2_with (first | simp only [sub64_0 (loW a) (loW b) a0 b0 b1] | simp only [sub64 (IntKind.u64.wrap (hiW a)) (IntKind.u64.wrap (hiW b)) (bor (loW a) (loW b)) c0 d0 d1 k0 k1])
  refine bodyPost_ret (by simp [results, Try.results16, go_sem]) rfl ⟨rfl, ?_⟩
  (repeat (first | with_reducible (exact Since.refl _) | with_reducible assumption | with_reducible (refine Since.drew ?_) | with_reducible (refine Since.drewN ?_ _) | with_reducible (refine Since.alloc ?_ _) | (with_reducible (refine Since.setCell ?_ ?_ _); rotate_left; focus (first | (simp; done) | (simp; omega) | omega)) | (with_reducible (refine Since.trans ?_ (by with_reducible assumption)))))
end Go.Proofs.Ytckochcocflleaa
