/-
  Layer 8: small functions, walked: matrixSize, outside, has, short.
-/
import Derived.Test.YtpplnapfpoloiaaKitY
namespace Go.Proofs.Ytpplnapfpoloiaa
open Go.RowKit Go.ChangeShapes Go.WideShapes Go.Deep
set_option linter.unusedVariables false

theorem nat_and_pow (a k : Nat) : a &&& 2 ^ k = if a / 2 ^ k % 2 = 1 then 2 ^ k else 0 := by
  have hb : a.testBit k = decide (a / 2 ^ k % 2 = 1) := Nat.testBit_eq_decide_div_mod_eq
  apply Nat.eq_of_testBit_eq
  intro i
  rw [Nat.testBit_and, Nat.testBit_two_pow]
  by_cases h : a / 2 ^ k % 2 = 1
  · rw [if_pos h, Nat.testBit_two_pow]
    by_cases e : k = i
    · subst e; rw [hb]; simp [h]
    · simp [e]
  · rw [if_neg h, Nat.zero_testBit]
    by_cases e : k = i
    · subst e; rw [hb]; simp [h]
    · simp [e]
theorem and_pow (x : Int) (k : Nat) (h0 : 0 ≤ x) (h1 : x < 4294967296) (hk : k < 32) : bits .and .i64 x ((2 : Int) ^ k) = if x / (2 : Int) ^ k % 2 = 1 then (2 : Int) ^ k else 0 := by
  obtain ⟨a, rfl⟩ := Int.eq_ofNat_of_zero_le h0
  show IntKind.i64.wrap ((BitVec.ofInt 64 (a : Int) &&& BitVec.ofInt 64 ((2 : Int) ^ k)).toNat : Int) = _
  have e1 : ((2 : Int) ^ k) = ((2 ^ k : Nat) : Int) := by simp
  have hp : 2 ^ k ≤ 2 ^ 31 := Nat.pow_le_pow_right (by omega) (by omega)
  rw [e1, BitVec.ofInt_natCast, BitVec.ofInt_natCast, BitVec.toNat_and, BitVec.toNat_ofNat, BitVec.toNat_ofNat, Nat.mod_eq_of_lt (by omega), Nat.mod_eq_of_lt (by omega), nat_and_pow]
  have e2 : ((a : Int) / ((2 ^ k : Nat) : Int) % 2 = 1) ↔ (a / 2 ^ k % 2 = 1) := by
    rw [← Int.natCast_ediv]
    omega
  generalize 2 ^ k = P at *
  clear e1
  by_cases h : a / P % 2 = 1
  · rw [if_pos (e2.2 h)]
    rw [if_pos h, IntKind.wrap_i64]; omega
  · rw [if_neg (fun e => h (e2.1 e))]
    rw [if_neg h, IntKind.wrap_i64]; omega

theorem and_b1 {x : Int} (h0 : 0 ≤ x) (h1 : x < 4294967296) : (Has8 x 1 → bits .and .i64 x 1 = 1) ∧ (¬ Has8 x 1 → bits .and .i64 x 1 = 0) := by
  have h := and_pow x 0 h0 h1 (by omega)
  simp only [Int.reducePow] at h
  unfold Has8
  exact ⟨fun e => by rw [h, if_pos e], fun e => by rw [h, if_neg e]⟩

theorem and_b2 {x : Int} (h0 : 0 ≤ x) (h1 : x < 4294967296) : (Has8 x 2 → bits .and .i64 x 2 = 2) ∧ (¬ Has8 x 2 → bits .and .i64 x 2 = 0) := by
  have h := and_pow x 1 h0 h1 (by omega)
  simp only [Int.reducePow] at h
  unfold Has8
  exact ⟨fun e => by rw [h, if_pos e], fun e => by rw [h, if_neg e]⟩

theorem and_b8 {x : Int} (h0 : 0 ≤ x) (h1 : x < 4294967296) : (Has8 x 8 → bits .and .i64 x 8 = 8) ∧ (¬ Has8 x 8 → bits .and .i64 x 8 = 0) := by
  have h := and_pow x 3 h0 h1 (by omega)
  simp only [Int.reducePow] at h
  unfold Has8
  exact ⟨fun e => by rw [h, if_pos e], fun e => by rw [h, if_neg e]⟩

theorem and_b32 {x : Int} (h0 : 0 ≤ x) (h1 : x < 4294967296) : (Has8 x 32 → bits .and .i64 x 32 = 32) ∧ (¬ Has8 x 32 → bits .and .i64 x 32 = 0) := by
  have h := and_pow x 5 h0 h1 (by omega)
  simp only [Int.reducePow] at h
  unfold Has8
  exact ⟨fun e => by rw [h, if_pos e], fun e => by rw [h, if_neg e]⟩

theorem and_b64 {x : Int} (h0 : 0 ≤ x) (h1 : x < 4294967296) : (Has8 x 64 → bits .and .i64 x 64 = 64) ∧ (¬ Has8 x 64 → bits .and .i64 x 64 = 0) := by
  have h := and_pow x 6 h0 h1 (by omega)
  simp only [Int.reducePow] at h
  unfold Has8
  exact ⟨fun e => by rw [h, if_pos e], fun e => by rw [h, if_neg e]⟩

theorem and_b128 {x : Int} (h0 : 0 ≤ x) (h1 : x < 4294967296) : (Has8 x 128 → bits .and .i64 x 128 = 128) ∧ (¬ Has8 x 128 → bits .and .i64 x 128 = 0) := by
  have h := and_pow x 7 h0 h1 (by omega)
  simp only [Int.reducePow] at h
  unfold Has8
  exact ⟨fun e => by rw [h, if_pos e], fun e => by rw [h, if_neg e]⟩

theorem and_b256 {x : Int} (h0 : 0 ≤ x) (h1 : x < 4294967296) : (Has8 x 256 → bits .and .i64 x 256 = 256) ∧ (¬ Has8 x 256 → bits .and .i64 x 256 = 0) := by
  have h := and_pow x 8 h0 h1 (by omega)
  simp only [Int.reducePow] at h
  unfold Has8
  exact ⟨fun e => by rw [h, if_pos e], fun e => by rw [h, if_neg e]⟩

set_option maxHeartbeats 4000000 in
theorem co_msize (fl : Int) (w : World) (h0 : 0 ≤ fl) (h1 : fl < 65536) :
    Calls Try.prog 109 #[.int .i64 fl] w fun e w' => e = .returned (.int .i64 (nm8 fl)) ∧ w' = w := by
  have b8 := and_b8 h0 (show fl < 4294967296 by omega)
  have b64 := and_b64 h0 (show fl < 4294967296 by omega)
  have b128 := and_b128 h0 (show fl < 4294967296 by omega)
  by_cases c8 : Has8 fl 8
  · have E := Lib.hid (show nm8 fl = 1 by unfold nm8; rw [if_pos c8])
    have d8 := b8.1 c8
    clear b8 b64 b128 h0 h1 c8
    go_enter Try.func109, Try.ntmps109
    go_wp2_with fail
    go_ret
    rw [E.out]
    exact ⟨rfl, rfl⟩
  · have d8 := b8.2 c8
    by_cases c64 : Has8 fl 64
    · have E := Lib.hid (show nm8 fl = 2 by unfold nm8; rw [if_neg c8, if_pos c64])
      have d64 := b64.1 c64
      clear b8 b64 b128 h0 h1 c8 c64
      go_enter Try.func109, Try.ntmps109
      go_wp2_with fail
      go_ret
      rw [E.out]
      exact ⟨rfl, rfl⟩
    · have d64 := b64.2 c64
      by_cases c128 : Has8 fl 128
      · have E := Lib.hid (show nm8 fl = 4 by unfold nm8; rw [if_neg c8, if_neg c64, if_pos c128])
        have d128 := b128.1 c128
        clear b8 b64 b128 h0 h1 c8 c64 c128
        go_enter Try.func109, Try.ntmps109
        go_wp2_with fail
        go_ret
        rw [E.out]
        exact ⟨rfl, rfl⟩
      · have E := Lib.hid (show nm8 fl = 0 by unfold nm8; rw [if_neg c8, if_neg c64, if_neg c128])
        have d128 := b128.2 c128
        clear b8 b64 b128 h0 h1 c8 c64 c128
        go_enter Try.func109, Try.ntmps109
        go_wp2_with fail
        go_ret
        rw [E.out]
        exact ⟨rfl, rfl⟩
def outB (v : Int) : Bool := !decide (Sh v)
set_option maxHeartbeats 4000000 in
theorem co_outside (v : Int) (w : World) : Calls Try.prog 88 #[.int .i64 v] w fun e w' => e = .returned (.bool (outB v)) ∧ w' = w := by
  by_cases h1 : v < -32768
  · have E := Lib.hid (show outB v = true by unfold outB; rw [decide_eq_false (by unfold Sh; omega)]; rfl)
    go_enter Try.func88, Try.ntmps88
    go_wp2_with fail
    go_ret
    rw [E.out]
    exact ⟨by first | rfl | simp, rfl⟩
  · by_cases h2 : 32767 < v
    · have E := Lib.hid (show outB v = true by unfold outB; rw [decide_eq_false (by unfold Sh; omega)]; rfl)
      have d1 : decide (v < -32768) = false := by simpa using h1
      have d2 : decide (32767 < v) = true := by simpa using h2
      clear h1 h2
      go_enter Try.func88, Try.ntmps88
      go_wp2_with fail
      go_ret
      rw [E.out]
      exact ⟨by first | rfl | simp, rfl⟩
    · have E := Lib.hid (show outB v = false by unfold outB; rw [decide_eq_true (by unfold Sh; omega)]; rfl)
      have d1 : decide (v < -32768) = false := by simpa using h1
      have d2 : decide (32767 < v) = false := by simpa using h2
      clear h1 h2
      go_enter Try.func88, Try.ntmps88
      go_wp2_with fail
      go_ret
      rw [E.out]
      exact ⟨by first | rfl | simp, rfl⟩
end Go.Proofs.Ytpplnapfpoloiaa
