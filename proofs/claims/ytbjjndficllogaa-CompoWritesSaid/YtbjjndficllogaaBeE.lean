/-
  Layer 2: the reference's 'Put', walked.
-/
import Derived.Test.YtbjjndficllogaaBeD
namespace Go.Proofs.Ytbjjndficllogaa
open Go.RowKit
set_option linter.unusedVariables false


def low64 (n : Int) : Int := n % 18446744073709551616
def at256 (n : Int) (j : Nat) : Int := low64 n / 256 ^ j
theorem at256_bd (n : Int) (j : Nat) : 0 ≤ at256 n j ∧ at256 n j < 18446744073709551616 := by
  have h0 : 0 ≤ low64 n := by unfold low64; omega
  have h1 : low64 n < 18446744073709551616 := by unfold low64; omega
  unfold at256
  have hp : (0 : Int) < 256 ^ j := Int.pow_pos (by decide)
  exact ⟨Int.ediv_nonneg h0 (by omega), Int.lt_of_le_of_lt (Int.ediv_le_self _ h0) h1⟩
theorem at256_next (n : Int) (j : Nat) : at256 n j / 256 = at256 n (j + 1) := by
  unfold at256
  rw [Int.ediv_ediv_of_nonneg (Int.le_of_lt (Int.pow_pos (by decide))), Int.pow_succ]
theorem at256_byte (n : Int) {m j : Nat} (hj : j < m) (hm : m ≤ 8) : at256 n j % 256 = byteOf n m (m - 1 - j) := by
  unfold byteOf
  rw [show m - 1 - (m - 1 - j) = j by omega]
  have hh : j = 0 ∨ j = 1 ∨ j = 2 ∨ j = 3 ∨ j = 4 ∨ j = 5 ∨ j = 6 ∨ j = 7 := by omega
  unfold at256 low64
  rcases hh with rfl | rfl | rfl | rfl | rfl | rfl | rfl | rfl <;> (simp only [Int.reducePow, Nat.reduceMul]; omega)

set_option maxRecDepth 100000 in
set_option maxHeartbeats 4000000 in
theorem ref_put (n k : Int) (w : World) (hn : In64 n) (hk : In64 k) :
    Calls Try.prog 48 #[.int .i64 n, .int .i64 k] w fun e w' => ∃ g, e = .returned (.slice (some ⟨g, 0, none⟩) (clampW k) (clampW k)) ∧ w.heap.size ≤ g ∧ Row w' g (clampW k) (U8 (byteOf n (clampW k))) ∧ Since w w' := by
  obtain ⟨i0, hi0, hz0, hz1, hz2⟩ := info_parts Try.info_u8
  by_cases h1 : 1 ≤ k ∧ k ≤ 8
  · obtain ⟨m, rfl⟩ : ∃ m : Nat, k = m := ⟨k.toNat, by omega⟩
    obtain ⟨h1, h2⟩ := h1
    have hm : m ≤ 8 := by omega
    have hm0 : 0 < m := by omega
    have hc : clampW m = m := by unfold clampW; rw [if_neg (by omega), if_neg (by omega)]; rfl
    rw [hc]
    have b1 : 1 * m ≤ 281474976710656 := by omega
    have b2 : m ≤ maxLen := by simp only [maxLen]; omega
    clear hc
    go_enter Try.func48, Try.ntmps48
    go_wp2_with (at_make; refine wpList_make_tab _ (by rfl) (.tmp 12) (.tmp 12) _ (by rfl) 5 i0 .u8 1 Try.underlying22 hi0 hz0 hz1 hz2 .i64 .i64 m (by rfl) (by rfl) b1 b2 ?_; intro w1 hown1 hS1)
    have hrow := row_of_own hown1
    clear hown1
    go_loopw [7, 8] (fun x y wr => ∃ j : Nat, j ≤ m ∧ x = .int .u64 (at256 n j) ∧ y = .int .i64 ((m : Nat) - 1 - (j : Int)) ∧ Since w wr ∧ Row wr w.heap.size m (U8 (fun q => if m ≤ q + j then byteOf n m q else 0))) (fun _ y _ => (intOf y + 1).toNat)
    case atStart => exact ⟨0, by omega, by simp [at256, low64, IntKind.wrap_u64], by simp, hS1, hrow.congr (fun q hq => by simp only [U8, IntRow]; rw [if_neg (by omega)])⟩
    case round =>
      obtain ⟨j, hj, rfl, rfl, hSr, hR⟩ := hrel
      by_cases hjm : j < m
      · obtain ⟨q, hq⟩ : ∃ q : Nat, q + 1 + j = m := ⟨m - 1 - j, by omega⟩
        have hqi : ((m : Nat) : Int) - 1 - (j : Int) = (q : Int) := by omega
        have hqm : (q : Int) < m := by omega
        have hcell := hR.1 q (by omega)
        have hfr := hR.2.1 q
        have hx := at256_bd n j
        have hnx := at256_next n j
        have hby := at256_byte n hjm (by omega)
        rw [show m - 1 - j = q by omega] at hby
        rw [hqi]
        go_wp2
        rw [hnx]
        refine ⟨⟨j + 1, by omega, rfl, by congr 1 <;> omega, hSr.setCell (Nat.le_refl _) _, (hR.set q _).congr (fun t ht => ?_)⟩, by simp [intOf] <;> omega⟩
        by_cases hqt : t = q
        · subst hqt
          simp only [U8, IntRow]
          rw [if_pos trivial, if_pos (by omega)]
        · simp only [U8, IntRow]
          rw [if_neg hqt]
          by_cases ht2 : m ≤ t + j
          · rw [if_pos ht2, if_pos (by omega)]
          · rw [if_neg ht2, if_neg (by omega)]
      · obtain rfl : m = j := by omega
        have hR' := hR.congr (g := U8 (byteOf n m)) (fun q hq => by simp only [U8, IntRow]; rw [if_pos (by omega)])
        clear hR
        go_wp2
        go_ret
        exact ⟨_, rfl, Nat.le_refl _, hR', hSr⟩
  by_cases h2 : k ≤ 0
  · have hc : clampW k = 0 := by unfold clampW; split <;> (try split) <;> omega
    rw [hc]
    have b1 : 1 * 0 ≤ 281474976710656 := by omega
    have b2 : 0 ≤ maxLen := by simp only [maxLen]; omega
    clear hc
    go_enter Try.func48, Try.ntmps48
    go_wp2_with (at_make; refine wpList_make_tab _ (by rfl) (.tmp 12) (.tmp 12) _ (by rfl) 5 i0 .u8 1 Try.underlying22 hi0 hz0 hz1 hz2 .i64 .i64 0 (by rfl) (by rfl) b1 b2 ?_; intro w1 hown1 hS1)
    have hrow := row_of_own hown1
    clear hown1
    go_loopw [7, 8] (fun x y wr => ∃ j : Nat, j ≤ 0 ∧ x = .int .u64 (at256 n j) ∧ y = .int .i64 ((0 : Nat) - 1 - (j : Int)) ∧ Since w wr ∧ Row wr w.heap.size 0 (U8 (fun q => if 0 ≤ q + j then byteOf n 0 q else 0))) (fun _ y _ => (intOf y + 1).toNat)
    case atStart => exact ⟨0, by omega, by simp [at256, low64, IntKind.wrap_u64], by simp, hS1, hrow.congr (fun q hq => by simp only [U8, IntRow]; rw [if_neg (by omega)])⟩
    case round =>
      obtain ⟨j, hj, rfl, rfl, hSr, hR⟩ := hrel
      by_cases hjm : j < 0
      · exact absurd hjm (by omega)
      · obtain rfl : 0 = j := by omega
        have hR' := hR.congr (g := U8 (byteOf n 0)) (fun q hq => by simp only [U8, IntRow]; rw [if_pos (by omega)])
        clear hR
        go_wp2
        go_ret
        exact ⟨_, rfl, Nat.le_refl _, hR', hSr⟩
  · have h2' : 8 < k := by omega
    have hc : clampW k = 8 := by unfold clampW; rw [if_neg (by omega), if_pos (by omega)]
    rw [hc]
    have b1 : 1 * 8 ≤ 281474976710656 := by omega
    have b2 : 8 ≤ maxLen := by simp only [maxLen]; omega
    clear hc
    go_enter Try.func48, Try.ntmps48
    go_wp2_with (at_make; refine wpList_make_tab _ (by rfl) (.tmp 12) (.tmp 12) _ (by rfl) 5 i0 .u8 1 Try.underlying22 hi0 hz0 hz1 hz2 .i64 .i64 8 (by rfl) (by rfl) b1 b2 ?_; intro w1 hown1 hS1)
    have hrow := row_of_own hown1
    clear hown1
    go_loopw [7, 8] (fun x y wr => ∃ j : Nat, j ≤ 8 ∧ x = .int .u64 (at256 n j) ∧ y = .int .i64 ((8 : Nat) - 1 - (j : Int)) ∧ Since w wr ∧ Row wr w.heap.size 8 (U8 (fun q => if 8 ≤ q + j then byteOf n 8 q else 0))) (fun _ y _ => (intOf y + 1).toNat)
    case atStart => exact ⟨0, by omega, by simp [at256, low64, IntKind.wrap_u64], by simp, hS1, hrow.congr (fun q hq => by simp only [U8, IntRow]; rw [if_neg (by omega)])⟩
    case round =>
      obtain ⟨j, hj, rfl, rfl, hSr, hR⟩ := hrel
      by_cases hjm : j < 8
      · obtain ⟨q, hq⟩ : ∃ q : Nat, q + 1 + j = 8 := ⟨8 - 1 - j, by omega⟩
        have hqi : ((8 : Nat) : Int) - 1 - (j : Int) = (q : Int) := by omega
        have hqm : (q : Int) < 8 := by omega
        have hcell := hR.1 q (by omega)
        have hfr := hR.2.1 q
        have hx := at256_bd n j
        have hnx := at256_next n j
        have hby := at256_byte n hjm (by omega)
        rw [show 8 - 1 - j = q by omega] at hby
        rw [hqi]
        go_wp2
        rw [hnx]
        refine ⟨⟨j + 1, by omega, rfl, by congr 1 <;> omega, hSr.setCell (Nat.le_refl _) _, (hR.set q _).congr (fun t ht => ?_)⟩, by simp [intOf] <;> omega⟩
        by_cases hqt : t = q
        · subst hqt
          simp only [U8, IntRow]
          rw [if_pos trivial, if_pos (by omega)]
        · simp only [U8, IntRow]
          rw [if_neg hqt]
          by_cases ht2 : 8 ≤ t + j
          · rw [if_pos ht2, if_pos (by omega)]
          · rw [if_neg ht2, if_neg (by omega)]
      · obtain rfl : 8 = j := by omega
        have hR' := hR.congr (g := U8 (byteOf n 8)) (fun q hq => by simp only [U8, IntRow]; rw [if_pos (by omega)])
        clear hR
        go_wp2
        go_ret
        exact ⟨_, rfl, Nat.le_refl _, hR', hSr⟩
end Go.Proofs.Ytbjjndficllogaa
