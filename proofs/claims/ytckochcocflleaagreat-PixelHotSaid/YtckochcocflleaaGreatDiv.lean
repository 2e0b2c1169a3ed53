/-
  math/bits.Div64 and the program's division: two words by one, rounded down.
-/
import Derived.Test.YtckochcocflleaaGreatMgD
import Derived.Test.YtckochcocflleaaGreatWideC
namespace Go.Proofs.YtckochcocflleaaGreat
open Go.RowKit
set_option linter.unusedVariables false

theorem mask32 (x : Int) (h0 : 0 ≤ x) (h1 : x < 18446744073709551616) : bits .and .u64 x 4294967295 = x % 4294967296 := by
  obtain ⟨n, rfl⟩ := Int.eq_ofNat_of_zero_le h0
  rw [Mul64.maskN n (by omega)]
  omega
theorem or_parts (a b : Int) (s : Nat) (a0 : 0 ≤ a) (b0 : 0 ≤ b) (h : b < 2 ^ s) (h1 : a * 2 ^ s + b < 18446744073709551616) : bits .or .u64 (a * 2 ^ s) b = a * 2 ^ s + b := by
  obtain ⟨m, rfl⟩ := Int.eq_ofNat_of_zero_le a0
  obtain ⟨n, rfl⟩ := Int.eq_ofNat_of_zero_le b0
  have hc : ((m : Int) * 2 ^ s) = ((2 ^ s * m : Nat) : Int) := by push_cast; rw [Int.mul_comm]
  have hp : ((2 : Int) ^ s) = ((2 ^ s : Nat) : Int) := by push_cast; rfl
  rw [hp] at h
  rw [hc] at h1 ⊢
  have hn : n < 2 ^ s := by omega
  have := Nat.two_pow_add_eq_or_of_lt hn m
  rw [bits_or_u64_nat _ _ (by omega) (by omega), ← this]
  omega

theorem div64 (hi lo y : Int) (a0 : 0 ≤ hi) (a1 : hi < y) (l0 : 0 ≤ lo) (l1 : lo < 18446744073709551616) (yb : y < 18446744073709551616) (w : World) :
    Calls Tryz.prog 108 #[.int .u64 hi, .int .u64 lo, .int .u64 y] w fun e w' => e = .returned (.tuple #[.int .u64 ((hi * 18446744073709551616 + lo) / y), .int .u64 ((hi * 18446744073709551616 + lo) % y)]) ∧ Since w w' := by
  rcases Int.lt_or_eq_of_le a0 with h | h
  · obtain ⟨s0, s1, s2⟩ := lz_facts (y := y) (by omega) yb
    have hpow : (2 : Int) ^ lz y * 2 ^ (64 - lz y) = 18446744073709551616 := by rw [← Int.pow_add, show lz y + (64 - lz y) = 64 by omega]; rfl
    have hs : 0 < (2 : Int) ^ lz y := Int.pow_pos (by omega)
    have ht : 0 < (2 : Int) ^ (64 - lz y) := Int.pow_pos (by omega)
    have hm : hi * 2 ^ lz y < y * 2 ^ lz y := Int.mul_lt_mul_of_pos_right a1 hs
    have hm1 : (hi + 1) * 2 ^ lz y ≤ y * 2 ^ lz y := Int.mul_le_mul_of_nonneg_right (by omega) (by omega)
    have hm0 : 0 ≤ hi * 2 ^ lz y := Int.mul_nonneg a0 (by omega)
    have hq : lo / 2 ^ (64 - lz y) < 2 ^ lz y := Int.ediv_lt_of_lt_mul ht (by rw [hpow]; omega)
    have hq0 : 0 ≤ lo / 2 ^ (64 - lz y) := Int.ediv_nonneg l0 (by omega)
    rw [Int.add_mul, Int.one_mul] at hm1
    have hw : IntKind.u64.wrap (hi * 2 ^ lz y) = hi * 2 ^ lz y := by rw [IntKind.wrap_u64]; omega
    have hor := or_parts hi (lo / 2 ^ (64 - lz y)) (lz y) a0 hq0 hq (by omega)
    -- the word below: lo doubled, without what has gone up
    have hlow : lo * 2 ^ lz y = lo / 2 ^ (64 - lz y) * 18446744073709551616 + IntKind.u64.wrap (lo * 2 ^ lz y) := by
      have e1 : lo * 2 ^ lz y = lo / 2 ^ (64 - lz y) * 18446744073709551616 + lo % 2 ^ (64 - lz y) * 2 ^ lz y := by
        have := Int.mul_ediv_add_emod lo (2 ^ (64 - lz y))
        calc lo * 2 ^ lz y = (2 ^ (64 - lz y) * (lo / 2 ^ (64 - lz y)) + lo % 2 ^ (64 - lz y)) * 2 ^ lz y := by rw [this]
          _ = _ := by rw [Int.add_mul, ← hpow, Int.mul_comm (2 ^ (64 - lz y)) (lo / _), Int.mul_assoc, Int.mul_comm (2 ^ (64 - lz y)) (2 ^ lz y)]
      have b1 : lo % 2 ^ (64 - lz y) * 2 ^ lz y < 2 ^ (64 - lz y) * 2 ^ lz y := Int.mul_lt_mul_of_pos_right (Int.emod_lt_of_pos _ ht) hs
      have b0 : 0 ≤ lo % 2 ^ (64 - lz y) * 2 ^ lz y := Int.mul_nonneg (Int.emod_nonneg _ (by omega)) (by omega)
      rw [Int.mul_comm (2 ^ (64 - lz y)), hpow] at b1
      rw [IntKind.wrap_u64]
      generalize lo % 2 ^ (64 - lz y) * 2 ^ lz y = t at *
      generalize lo * 2 ^ lz y = x at *
      omega
    obtain ⟨w0, w1⟩ := u64_bd (lo * 2 ^ lz y)
    have F1 : Half.Fit (hi * 2 ^ lz y + lo / 2 ^ (64 - lz y)) (IntKind.u64.wrap (lo * 2 ^ lz y) / 4294967296) (y * 2 ^ lz y / 4294967296) (y * 2 ^ lz y % 4294967296) :=
      ⟨by omega, by omega, by omega, by omega, by omega, by omega, by omega, by omega⟩
    have hr := Half.rest_bd F1
    have F2 : Half.Fit (Half.rest (hi * 2 ^ lz y + lo / 2 ^ (64 - lz y)) (IntKind.u64.wrap (lo * 2 ^ lz y) / 4294967296) (y * 2 ^ lz y / 4294967296) (y * 2 ^ lz y % 4294967296)) (IntKind.u64.wrap (lo * 2 ^ lz y) % 4294967296) (y * 2 ^ lz y / 4294967296) (y * 2 ^ lz y % 4294967296) :=
      ⟨by omega, by omega, F1.a0, F1.a1, F1.b0, F1.b1, hr.1, hr.2⟩
    have hwhole := Half.whole F1 F2
    have hyy : y * 2 ^ lz y / 4294967296 * 4294967296 + y * 2 ^ lz y % 4294967296 = y * 2 ^ lz y := by omega
    have hnn : (hi * 2 ^ lz y + lo / 2 ^ (64 - lz y)) * 18446744073709551616 + IntKind.u64.wrap (lo * 2 ^ lz y) / 4294967296 * 4294967296 + IntKind.u64.wrap (lo * 2 ^ lz y) % 4294967296 = 2 ^ lz y * (hi * 18446744073709551616 + lo) := by
      have e1 : 2 ^ lz y * (hi * 18446744073709551616) = hi * 2 ^ lz y * 18446744073709551616 := by rw [← Int.mul_assoc, Int.mul_comm (2 ^ lz y) hi]
      have e2 : 2 ^ lz y * lo = lo / 2 ^ (64 - lz y) * 18446744073709551616 + IntKind.u64.wrap (lo * 2 ^ lz y) := by rw [Int.mul_comm]; exact hlow
      rw [Int.mul_add, e1, e2]
      omega
    rw [hyy, hnn, Int.mul_comm y, Int.mul_ediv_mul_of_pos _ _ hs, Int.mul_emod_mul_of_pos _ _ hs] at hwhole
    refine (div64_walk hi lo y _ _ _ _ _ _ _ _ _ _ h a1 l0 l1 yb rfl rfl (mask32 _ (by omega) s2) (by rw [hw]; exact hor) rfl (mask32 _ w0 w1) hyy F1 F2 rfl rfl rfl rfl w).mono ?_
    rintro e w' ⟨rfl, hS⟩
    refine ⟨?_, hS⟩
    rw [Int.mul_comm y, hwhole.1, hwhole.2, Int.mul_ediv_cancel_left _ (by omega)]
  · subst h
    simpa using div64_low lo y l0 l1 a1 yb w

theorem u64_of {x : Int} (h0 : 0 ≤ x) (h1 : x < 18446744073709551616) : IntKind.u64.wrap x = x := by rw [IntKind.wrap_u64]; omega
theorem w64_of {x : Int} (h0 : -9223372036854775808 ≤ x) (h1 : x < 9223372036854775808) : wrap64 x = x := by unfold wrap64; omega

theorem wide_divide (a d : Int) (ha : In128 a) (ha0 : 0 ≤ a) (hd : InW d) (hd0 : 1 ≤ d) (w : World) :
    Calls Tryz.prog 89 #[W a, .int .i64 d] w fun e w' => e = .returned (.tuple #[W (a / d), .int .i64 (a % d)]) ∧ Since w w' := by
  obtain ⟨h0, h1⟩ := hi_bd ha; obtain ⟨l0, l1⟩ := lo_bd a
  have hh : 0 ≤ hiW a := by unfold hiW; omega
  unfold InW at hd
  have k1 : IntKind.u64.wrap (hiW a) = hiW a := u64_of hh (by omega)
  have k2 : IntKind.u64.wrap d = d := u64_of (by omega) (by omega)
  have r0 := Int.emod_nonneg (hiW a) (show d ≠ 0 by omega); have r1 := Int.emod_lt_of_pos (hiW a) (show 0 < d by omega)
  have q0 := Int.ediv_nonneg hh (show 0 ≤ d by omega); have q1 : hiW a / d ≤ hiW a := Int.ediv_le_self _ hh
  have key : hiW a * 18446744073709551616 + loW a = a := hi_lo a
  have e1 := Int.mul_ediv_add_emod (hiW a) d
  have e2 : a = hiW a % d * 18446744073709551616 + loW a + hiW a / d * 18446744073709551616 * d := by
    rw [Int.mul_right_comm, Int.mul_comm _ d]
    generalize d * (hiW a / d) = p at *
    omega
  have f1 : a / d = (hiW a % d * 18446744073709551616 + loW a) / d + hiW a / d * 18446744073709551616 := by
    conv => lhs; rw [e2]
    rw [Int.add_mul_ediv_right _ _ (by omega)]
  have f2 : a % d = (hiW a % d * 18446744073709551616 + loW a) % d := by
    conv => lhs; rw [e2]
    rw [Int.add_mul_emod_self_right]
  have b0 : 0 ≤ (hiW a % d * 18446744073709551616 + loW a) / d := Int.ediv_nonneg (by omega) (by omega)
  have b1 : (hiW a % d * 18446744073709551616 + loW a) / d < 18446744073709551616 := by
    have hx : (hiW a % d + 1) * 18446744073709551616 ≤ d * 18446744073709551616 := Int.mul_le_mul_of_nonneg_right (by omega) (by omega)
    refine Int.ediv_lt_of_lt_mul (by omega) ?_
    rw [Int.mul_comm]; omega
  have s0 : 0 ≤ a % d := Int.emod_nonneg _ (by omega)
  have s1 : a % d < d := Int.emod_lt_of_pos _ (by omega)
  have E : Value.agg #[.int .i64 (hiW a / d), .int .u64 ((hiW a % d * 18446744073709551616 + loW a) / d)] = W (a / d) := by
    unfold W hiW loW
    rw [f1]
    have g1 : ((hiW a % d * 18446744073709551616 + loW a) / d + hiW a / d * 18446744073709551616) / 18446744073709551616 = hiW a / d := by omega
    have g2 : ((hiW a % d * 18446744073709551616 + loW a) / d + hiW a / d * 18446744073709551616) % 18446744073709551616 = (hiW a % d * 18446744073709551616 + loW a) / d := by omega
    rw [g1, g2]; rfl
  rw [f2] at s0 s1 ⊢
  rw [← E]
  clear E f1 f2 e2 e1 key
  have c := fun W' => div64 (hiW a % d) (loW a) d r0 r1 l0 l1 (by omega) W'
  have C := Lib.hid c
  clear c
  go_enter Tryz.func89, Tryz.ntmps89
  go_wp2
  go_quiet (fail)
  go_wp2_with (go_at_call 108; refine (C.out _).mono ?_; rintro e w1 ⟨rfl, hS1⟩; have hT := hS1; obtain ⟨hc1, hf1, hz1, hb1⟩ := hT)
  refine bodyPost_ret (by simp [results, Tryz.results89, go_sem, hc1]) rfl ⟨rfl, ?_⟩
  (repeat (first | with_reducible (exact Since.refl _) | with_reducible assumption | with_reducible (refine Since.drew ?_) | with_reducible (refine Since.drewN ?_ _) | with_reducible (refine Since.alloc ?_ _) | (with_reducible (refine Since.setCell ?_ ?_ _); rotate_left; focus (first | (simp; done) | (simp; omega) | omega)) | (with_reducible (refine Since.trans ?_ (by with_reducible assumption)))))

theorem wide_div_no (a d : Int) (hd : d < 1) (w : World) :
    Calls Tryz.prog 60 #[W a, .int .i64 d] w fun e w' => e = .returned (.tuple #[W 0, .int .i64 0, .int .i64 2]) ∧ Since w w' := by
  rw [← W_zero]
  have h : decide (d < 1) = true := by simpa using hd
  go_enter Tryz.func60, Tryz.ntmps60
  go_wp2
  go_outline
  refine bodyPost_ret (by simp [results, Tryz.results60, go_sem]) rfl ⟨rfl, ?_⟩
  (repeat (first | with_reducible (exact Since.refl _) | with_reducible assumption | with_reducible (refine Since.drew ?_) | with_reducible (refine Since.drewN ?_ _) | with_reducible (refine Since.alloc ?_ _) | (with_reducible (refine Since.setCell ?_ ?_ _); rotate_left; focus (first | (simp; done) | (simp; omega) | omega)) | (with_reducible (refine Since.trans ?_ (by with_reducible assumption)))))

set_option maxHeartbeats 600000 in
theorem wide_div_neg (a d : Int) (ha : In128 a) (hd : InW d) (hd1 : 1 ≤ d) (hn : hiW a < 0) (w : World) :
    Calls Tryz.prog 60 #[W a, .int .i64 d] w fun e w' => e = .returned (.tuple #[W (a / d), .int .i64 (a % d), .int .i64 0]) ∧ Since w w' := by
  obtain ⟨h0, h1⟩ := hi_bd ha
  have h : decide (d < 1) = false := by simp; omega
  unfold InW at hd
  have m0 := Int.emod_nonneg (-1 - a) (show d ≠ 0 by omega); have m1 := Int.emod_lt_of_pos (-1 - a) (show 0 < d by omega)
  have hn' : decide (hiW a < 0) = true := by simpa using hn
  have a0 : a < 0 := by unfold hiW at hn; omega
  have hci := comp_in ha
  have e := Int.mul_ediv_add_emod (-1 - a) d
  have q0 : 0 ≤ (-1 - a) / d := Int.ediv_nonneg (by omega) (by omega)
  have q1 : (-1 - a) / d ≤ -1 - a := Int.ediv_le_self _ (by omega)
  have hq : In128 ((-1 - a) / d) := by unfold In128 at *; omega
  have key : a = (d - 1 - (-1 - a) % d) + d * (-1 - (-1 - a) / d) := by
    rw [Int.mul_sub]; generalize d * ((-1 - a) / d) = p at *; omega
  have f1 : a / d = -1 - (-1 - a) / d := by
    conv => lhs; rw [key]
    rw [Int.add_mul_ediv_left _ _ (by omega), Int.ediv_eq_zero_of_lt (by omega) (by omega)]; omega
  have f2 : a % d = d - 1 - (-1 - a) % d := by
    conv => lhs; rw [key]
    rw [Int.add_mul_emod_self_left, Int.emod_eq_of_lt (by omega) (by omega)]
  rw [f1, f2]
  clear f1 f2 key e
  go_enter Tryz.func60, Tryz.ntmps60
  go_wp2_with (first
    | (go_at_call 89; refine (wide_divide (-1 - a) d hci (by omega) hd hd1 _).mono ?_; rintro e w2 ⟨rfl, hS2⟩; have hT := hS2; obtain ⟨hc2, hf2, hz2, hb2⟩ := hT; (try (have hq2_0_0 := hz2 (w.heap.size) (by first | with_reducible assumption | (simp; done) | (simp; omega) | omega); have hp2_0_0 := Nat.ne_of_lt hq2_0_0; have hl2_0_0 := Nat.le_of_lt hq2_0_0)); (try (have hq2_0_1 := hz2 (w.heap.size + 1) (by first | with_reducible assumption | (simp; done) | (simp; omega) | omega); have hp2_0_1 := Nat.ne_of_lt hq2_0_1; have hl2_0_1 := Nat.le_of_lt hq2_0_1)); (try (have hq2_0_2 := hz2 (w.heap.size + 1 + 1) (by first | with_reducible assumption | (simp; done) | (simp; omega) | omega); have hp2_0_2 := Nat.ne_of_lt hq2_0_2; have hl2_0_2 := Nat.le_of_lt hq2_0_2)); (try (have hq2_0_3 := hz2 (w.heap.size + 1 + 1 + 1) (by first | with_reducible assumption | (simp; done) | (simp; omega) | omega); have hp2_0_3 := Nat.ne_of_lt hq2_0_3; have hl2_0_3 := Nat.le_of_lt hq2_0_3)); (try (have hq2_1_0 := hz2 (w1.heap.size) (by first | with_reducible assumption | (simp; done) | (simp; omega) | omega); have hp2_1_0 := Nat.ne_of_lt hq2_1_0; have hl2_1_0 := Nat.le_of_lt hq2_1_0)); (try (have hq2_1_1 := hz2 (w1.heap.size + 1) (by first | with_reducible assumption | (simp; done) | (simp; omega) | omega); have hp2_1_1 := Nat.ne_of_lt hq2_1_1; have hl2_1_1 := Nat.le_of_lt hq2_1_1)); (try (have hq2_2_0 := hz2 (w2.heap.size) (by first | with_reducible assumption | (simp; done) | (simp; omega) | omega); have hp2_2_0 := Nat.ne_of_lt hq2_2_0; have hl2_2_0 := Nat.le_of_lt hq2_2_0)); (try (have hq2_2_1 := hz2 (w2.heap.size + 1) (by first | with_reducible assumption | (simp; done) | (simp; omega) | omega); have hp2_2_1 := Nat.ne_of_lt hq2_2_1; have hl2_2_1 := Nat.le_of_lt hq2_2_1)); (try (have hq2_3_0 := hz2 (w3.heap.size) (by first | with_reducible assumption | (simp; done) | (simp; omega) | omega); have hp2_3_0 := Nat.ne_of_lt hq2_3_0; have hl2_3_0 := Nat.le_of_lt hq2_3_0)); (try (have hq2_3_1 := hz2 (w3.heap.size + 1) (by first | with_reducible assumption | (simp; done) | (simp; omega) | omega); have hp2_3_1 := Nat.ne_of_lt hq2_3_1; have hl2_3_1 := Nat.le_of_lt hq2_3_1)); (try (have hq2_4_0 := hz2 (w4.heap.size) (by first | with_reducible assumption | (simp; done) | (simp; omega) | omega); have hp2_4_0 := Nat.ne_of_lt hq2_4_0; have hl2_4_0 := Nat.le_of_lt hq2_4_0)); (try (have hq2_4_1 := hz2 (w4.heap.size + 1) (by first | with_reducible assumption | (simp; done) | (simp; omega) | omega); have hp2_4_1 := Nat.ne_of_lt hq2_4_1; have hl2_4_1 := Nat.le_of_lt hq2_4_1)); (try (have hq2_5_0 := hz2 (w5.heap.size) (by first | with_reducible assumption | (simp; done) | (simp; omega) | omega); have hp2_5_0 := Nat.ne_of_lt hq2_5_0; have hl2_5_0 := Nat.le_of_lt hq2_5_0)); (try (have hq2_5_1 := hz2 (w5.heap.size + 1) (by first | with_reducible assumption | (simp; done) | (simp; omega) | omega); have hp2_5_1 := Nat.ne_of_lt hq2_5_1; have hl2_5_1 := Nat.le_of_lt hq2_5_1)); (try (have hq2_6_0 := hz2 (w6.heap.size) (by first | with_reducible assumption | (simp; done) | (simp; omega) | omega); have hp2_6_0 := Nat.ne_of_lt hq2_6_0; have hl2_6_0 := Nat.le_of_lt hq2_6_0)); (try (have hq2_6_1 := hz2 (w6.heap.size + 1) (by first | with_reducible assumption | (simp; done) | (simp; omega) | omega); have hp2_6_1 := Nat.ne_of_lt hq2_6_1; have hl2_6_1 := Nat.le_of_lt hq2_6_1)); (try (have hq2_7_0 := hz2 (w7.heap.size) (by first | with_reducible assumption | (simp; done) | (simp; omega) | omega); have hp2_7_0 := Nat.ne_of_lt hq2_7_0; have hl2_7_0 := Nat.le_of_lt hq2_7_0)); (try (have hq2_7_1 := hz2 (w7.heap.size + 1) (by first | with_reducible assumption | (simp; done) | (simp; omega) | omega); have hp2_7_1 := Nat.ne_of_lt hq2_7_1; have hl2_7_1 := Nat.le_of_lt hq2_7_1)); (try (have hq2_8_0 := hz2 (w8.heap.size) (by first | with_reducible assumption | (simp; done) | (simp; omega) | omega); have hp2_8_0 := Nat.ne_of_lt hq2_8_0; have hl2_8_0 := Nat.le_of_lt hq2_8_0)); (try (have hq2_8_1 := hz2 (w8.heap.size + 1) (by first | with_reducible assumption | (simp; done) | (simp; omega) | omega); have hp2_8_1 := Nat.ne_of_lt hq2_8_1; have hl2_8_1 := Nat.le_of_lt hq2_8_1)); (try (have hq2_9_0 := hz2 (w9.heap.size) (by first | with_reducible assumption | (simp; done) | (simp; omega) | omega); have hp2_9_0 := Nat.ne_of_lt hq2_9_0; have hl2_9_0 := Nat.le_of_lt hq2_9_0)); (try (have hq2_9_1 := hz2 (w9.heap.size + 1) (by first | with_reducible assumption | (simp; done) | (simp; omega) | omega); have hp2_9_1 := Nat.ne_of_lt hq2_9_1; have hl2_9_1 := Nat.le_of_lt hq2_9_1)))
    | (go_at_call 90; refine (wide_complement _ (by first | exact ha | exact hq) _).mono ?_; rintro e w1 ⟨rfl, hS1⟩; have hT := hS1; obtain ⟨hc1, hf1, hz1, hb1⟩ := hT; (try (have hq1_0_0 := hz1 (w.heap.size) (by first | with_reducible assumption | (simp; done) | (simp; omega) | omega); have hp1_0_0 := Nat.ne_of_lt hq1_0_0; have hl1_0_0 := Nat.le_of_lt hq1_0_0)); (try (have hq1_0_1 := hz1 (w.heap.size + 1) (by first | with_reducible assumption | (simp; done) | (simp; omega) | omega); have hp1_0_1 := Nat.ne_of_lt hq1_0_1; have hl1_0_1 := Nat.le_of_lt hq1_0_1)); (try (have hq1_0_2 := hz1 (w.heap.size + 1 + 1) (by first | with_reducible assumption | (simp; done) | (simp; omega) | omega); have hp1_0_2 := Nat.ne_of_lt hq1_0_2; have hl1_0_2 := Nat.le_of_lt hq1_0_2)); (try (have hq1_0_3 := hz1 (w.heap.size + 1 + 1 + 1) (by first | with_reducible assumption | (simp; done) | (simp; omega) | omega); have hp1_0_3 := Nat.ne_of_lt hq1_0_3; have hl1_0_3 := Nat.le_of_lt hq1_0_3)); (try (have hq1_1_0 := hz1 (w1.heap.size) (by first | with_reducible assumption | (simp; done) | (simp; omega) | omega); have hp1_1_0 := Nat.ne_of_lt hq1_1_0; have hl1_1_0 := Nat.le_of_lt hq1_1_0)); (try (have hq1_1_1 := hz1 (w1.heap.size + 1) (by first | with_reducible assumption | (simp; done) | (simp; omega) | omega); have hp1_1_1 := Nat.ne_of_lt hq1_1_1; have hl1_1_1 := Nat.le_of_lt hq1_1_1)); (try (have hq1_2_0 := hz1 (w2.heap.size) (by first | with_reducible assumption | (simp; done) | (simp; omega) | omega); have hp1_2_0 := Nat.ne_of_lt hq1_2_0; have hl1_2_0 := Nat.le_of_lt hq1_2_0)); (try (have hq1_2_1 := hz1 (w2.heap.size + 1) (by first | with_reducible assumption | (simp; done) | (simp; omega) | omega); have hp1_2_1 := Nat.ne_of_lt hq1_2_1; have hl1_2_1 := Nat.le_of_lt hq1_2_1)); (try (have hq1_3_0 := hz1 (w3.heap.size) (by first | with_reducible assumption | (simp; done) | (simp; omega) | omega); have hp1_3_0 := Nat.ne_of_lt hq1_3_0; have hl1_3_0 := Nat.le_of_lt hq1_3_0)); (try (have hq1_3_1 := hz1 (w3.heap.size + 1) (by first | with_reducible assumption | (simp; done) | (simp; omega) | omega); have hp1_3_1 := Nat.ne_of_lt hq1_3_1; have hl1_3_1 := Nat.le_of_lt hq1_3_1)); (try (have hq1_4_0 := hz1 (w4.heap.size) (by first | with_reducible assumption | (simp; done) | (simp; omega) | omega); have hp1_4_0 := Nat.ne_of_lt hq1_4_0; have hl1_4_0 := Nat.le_of_lt hq1_4_0)); (try (have hq1_4_1 := hz1 (w4.heap.size + 1) (by first | with_reducible assumption | (simp; done) | (simp; omega) | omega); have hp1_4_1 := Nat.ne_of_lt hq1_4_1; have hl1_4_1 := Nat.le_of_lt hq1_4_1)); (try (have hq1_5_0 := hz1 (w5.heap.size) (by first | with_reducible assumption | (simp; done) | (simp; omega) | omega); have hp1_5_0 := Nat.ne_of_lt hq1_5_0; have hl1_5_0 := Nat.le_of_lt hq1_5_0)); (try (have hq1_5_1 := hz1 (w5.heap.size + 1) (by first | with_reducible assumption | (simp; done) | (simp; omega) | omega); have hp1_5_1 := Nat.ne_of_lt hq1_5_1; have hl1_5_1 := Nat.le_of_lt hq1_5_1)); (try (have hq1_6_0 := hz1 (w6.heap.size) (by first | with_reducible assumption | (simp; done) | (simp; omega) | omega); have hp1_6_0 := Nat.ne_of_lt hq1_6_0; have hl1_6_0 := Nat.le_of_lt hq1_6_0)); (try (have hq1_6_1 := hz1 (w6.heap.size + 1) (by first | with_reducible assumption | (simp; done) | (simp; omega) | omega); have hp1_6_1 := Nat.ne_of_lt hq1_6_1; have hl1_6_1 := Nat.le_of_lt hq1_6_1)); (try (have hq1_7_0 := hz1 (w7.heap.size) (by first | with_reducible assumption | (simp; done) | (simp; omega) | omega); have hp1_7_0 := Nat.ne_of_lt hq1_7_0; have hl1_7_0 := Nat.le_of_lt hq1_7_0)); (try (have hq1_7_1 := hz1 (w7.heap.size + 1) (by first | with_reducible assumption | (simp; done) | (simp; omega) | omega); have hp1_7_1 := Nat.ne_of_lt hq1_7_1; have hl1_7_1 := Nat.le_of_lt hq1_7_1)); (try (have hq1_8_0 := hz1 (w8.heap.size) (by first | with_reducible assumption | (simp; done) | (simp; omega) | omega); have hp1_8_0 := Nat.ne_of_lt hq1_8_0; have hl1_8_0 := Nat.le_of_lt hq1_8_0)); (try (have hq1_8_1 := hz1 (w8.heap.size + 1) (by first | with_reducible assumption | (simp; done) | (simp; omega) | omega); have hp1_8_1 := Nat.ne_of_lt hq1_8_1; have hl1_8_1 := Nat.le_of_lt hq1_8_1)); (try (have hq1_9_0 := hz1 (w9.heap.size) (by first | with_reducible assumption | (simp; done) | (simp; omega) | omega); have hp1_9_0 := Nat.ne_of_lt hq1_9_0; have hl1_9_0 := Nat.le_of_lt hq1_9_0)); (try (have hq1_9_1 := hz1 (w9.heap.size + 1) (by first | with_reducible assumption | (simp; done) | (simp; omega) | omega); have hp1_9_1 := Nat.ne_of_lt hq1_9_1; have hl1_9_1 := Nat.le_of_lt hq1_9_1))))
  refine bodyPost_ret (by simp only [results, Tryz.results60]; go_simp) rfl ⟨rfl, ?_⟩
  (repeat (first | with_reducible (exact Since.refl _) | with_reducible assumption | with_reducible (refine Since.drew ?_) | with_reducible (refine Since.drewN ?_ _) | with_reducible (refine Since.alloc ?_ _) | (with_reducible (refine Since.setCell ?_ ?_ _); rotate_left; focus (first | (simp; done) | (simp; omega) | omega)) | (with_reducible (refine Since.trans ?_ (by with_reducible assumption)))))

set_option maxHeartbeats 600000 in
theorem wide_div_pos (a d : Int) (ha : In128 a) (hd : InW d) (hd1 : 1 ≤ d) (hn : ¬ hiW a < 0) (w : World) :
    Calls Tryz.prog 60 #[W a, .int .i64 d] w fun e w' => e = .returned (.tuple #[W (a / d), .int .i64 (a % d), .int .i64 0]) ∧ Since w w' := by
  obtain ⟨h0, h1⟩ := hi_bd ha
  have h : decide (d < 1) = false := by simp; omega
  unfold InW at hd
  have m0 := Int.emod_nonneg (-1 - a) (show d ≠ 0 by omega); have m1 := Int.emod_lt_of_pos (-1 - a) (show 0 < d by omega)
  have hn' : decide (hiW a < 0) = false := by simpa using hn
  have a0 : 0 ≤ a := by unfold hiW at hn; omega
  go_enter Tryz.func60, Tryz.ntmps60
  go_wp2_with (go_at_call 89; refine (wide_divide a d ha a0 hd hd1 _).mono ?_; rintro e w2 ⟨rfl, hS2⟩; have hT := hS2; obtain ⟨hc2, hf2, hz2, hb2⟩ := hT; (try (have hq2_0_0 := hz2 (w.heap.size) (by first | with_reducible assumption | (simp; done) | (simp; omega) | omega); have hp2_0_0 := Nat.ne_of_lt hq2_0_0; have hl2_0_0 := Nat.le_of_lt hq2_0_0)); (try (have hq2_0_1 := hz2 (w.heap.size + 1) (by first | with_reducible assumption | (simp; done) | (simp; omega) | omega); have hp2_0_1 := Nat.ne_of_lt hq2_0_1; have hl2_0_1 := Nat.le_of_lt hq2_0_1)); (try (have hq2_0_2 := hz2 (w.heap.size + 1 + 1) (by first | with_reducible assumption | (simp; done) | (simp; omega) | omega); have hp2_0_2 := Nat.ne_of_lt hq2_0_2; have hl2_0_2 := Nat.le_of_lt hq2_0_2)); (try (have hq2_0_3 := hz2 (w.heap.size + 1 + 1 + 1) (by first | with_reducible assumption | (simp; done) | (simp; omega) | omega); have hp2_0_3 := Nat.ne_of_lt hq2_0_3; have hl2_0_3 := Nat.le_of_lt hq2_0_3)); (try (have hq2_1_0 := hz2 (w1.heap.size) (by first | with_reducible assumption | (simp; done) | (simp; omega) | omega); have hp2_1_0 := Nat.ne_of_lt hq2_1_0; have hl2_1_0 := Nat.le_of_lt hq2_1_0)); (try (have hq2_1_1 := hz2 (w1.heap.size + 1) (by first | with_reducible assumption | (simp; done) | (simp; omega) | omega); have hp2_1_1 := Nat.ne_of_lt hq2_1_1; have hl2_1_1 := Nat.le_of_lt hq2_1_1)); (try (have hq2_2_0 := hz2 (w2.heap.size) (by first | with_reducible assumption | (simp; done) | (simp; omega) | omega); have hp2_2_0 := Nat.ne_of_lt hq2_2_0; have hl2_2_0 := Nat.le_of_lt hq2_2_0)); (try (have hq2_2_1 := hz2 (w2.heap.size + 1) (by first | with_reducible assumption | (simp; done) | (simp; omega) | omega); have hp2_2_1 := Nat.ne_of_lt hq2_2_1; have hl2_2_1 := Nat.le_of_lt hq2_2_1)); (try (have hq2_3_0 := hz2 (w3.heap.size) (by first | with_reducible assumption | (simp; done) | (simp; omega) | omega); have hp2_3_0 := Nat.ne_of_lt hq2_3_0; have hl2_3_0 := Nat.le_of_lt hq2_3_0)); (try (have hq2_3_1 := hz2 (w3.heap.size + 1) (by first | with_reducible assumption | (simp; done) | (simp; omega) | omega); have hp2_3_1 := Nat.ne_of_lt hq2_3_1; have hl2_3_1 := Nat.le_of_lt hq2_3_1)); (try (have hq2_4_0 := hz2 (w4.heap.size) (by first | with_reducible assumption | (simp; done) | (simp; omega) | omega); have hp2_4_0 := Nat.ne_of_lt hq2_4_0; have hl2_4_0 := Nat.le_of_lt hq2_4_0)); (try (have hq2_4_1 := hz2 (w4.heap.size + 1) (by first | with_reducible assumption | (simp; done) | (simp; omega) | omega); have hp2_4_1 := Nat.ne_of_lt hq2_4_1; have hl2_4_1 := Nat.le_of_lt hq2_4_1)); (try (have hq2_5_0 := hz2 (w5.heap.size) (by first | with_reducible assumption | (simp; done) | (simp; omega) | omega); have hp2_5_0 := Nat.ne_of_lt hq2_5_0; have hl2_5_0 := Nat.le_of_lt hq2_5_0)); (try (have hq2_5_1 := hz2 (w5.heap.size + 1) (by first | with_reducible assumption | (simp; done) | (simp; omega) | omega); have hp2_5_1 := Nat.ne_of_lt hq2_5_1; have hl2_5_1 := Nat.le_of_lt hq2_5_1)); (try (have hq2_6_0 := hz2 (w6.heap.size) (by first | with_reducible assumption | (simp; done) | (simp; omega) | omega); have hp2_6_0 := Nat.ne_of_lt hq2_6_0; have hl2_6_0 := Nat.le_of_lt hq2_6_0)); (try (have hq2_6_1 := hz2 (w6.heap.size + 1) (by first | with_reducible assumption | (simp; done) | (simp; omega) | omega); have hp2_6_1 := Nat.ne_of_lt hq2_6_1; have hl2_6_1 := Nat.le_of_lt hq2_6_1)); (try (have hq2_7_0 := hz2 (w7.heap.size) (by first | with_reducible assumption | (simp; done) | (simp; omega) | omega); have hp2_7_0 := Nat.ne_of_lt hq2_7_0; have hl2_7_0 := Nat.le_of_lt hq2_7_0)); (try (have hq2_7_1 := hz2 (w7.heap.size + 1) (by first | with_reducible assumption | (simp; done) | (simp; omega) | omega); have hp2_7_1 := Nat.ne_of_lt hq2_7_1; have hl2_7_1 := Nat.le_of_lt hq2_7_1)); (try (have hq2_8_0 := hz2 (w8.heap.size) (by first | with_reducible assumption | (simp; done) | (simp; omega) | omega); have hp2_8_0 := Nat.ne_of_lt hq2_8_0; have hl2_8_0 := Nat.le_of_lt hq2_8_0)); (try (have hq2_8_1 := hz2 (w8.heap.size + 1) (by first | with_reducible assumption | (simp; done) | (simp; omega) | omega); have hp2_8_1 := Nat.ne_of_lt hq2_8_1; have hl2_8_1 := Nat.le_of_lt hq2_8_1)); (try (have hq2_9_0 := hz2 (w9.heap.size) (by first | with_reducible assumption | (simp; done) | (simp; omega) | omega); have hp2_9_0 := Nat.ne_of_lt hq2_9_0; have hl2_9_0 := Nat.le_of_lt hq2_9_0)); (try (have hq2_9_1 := hz2 (w9.heap.size + 1) (by first | with_reducible assumption | (simp; done) | (simp; omega) | omega); have hp2_9_1 := Nat.ne_of_lt hq2_9_1; have hl2_9_1 := Nat.le_of_lt hq2_9_1)))
  refine bodyPost_ret (by simp only [results, Tryz.results60]; go_simp) rfl ⟨rfl, ?_⟩
  (repeat (first | with_reducible (exact Since.refl _) | with_reducible assumption | with_reducible (refine Since.drew ?_) | with_reducible (refine Since.drewN ?_ _) | with_reducible (refine Since.alloc ?_ _) | (with_reducible (refine Since.setCell ?_ ?_ _); rotate_left; focus (first | (simp; done) | (simp; omega) | omega)) | (with_reducible (refine Since.trans ?_ (by with_reducible assumption)))))

theorem wide_div (a d : Int) (ha : In128 a) (hd : InW d) (hd1 : 1 ≤ d) (w : World) :
    Calls Tryz.prog 60 #[W a, .int .i64 d] w fun e w' => e = .returned (.tuple #[W (a / d), .int .i64 (a % d), .int .i64 0]) ∧ Since w w' := by
  by_cases hn : hiW a < 0
  · exact wide_div_neg a d ha hd hd1 hn w
  · exact wide_div_pos a d ha hd hd1 hn w
end Go.Proofs.YtckochcocflleaaGreat
