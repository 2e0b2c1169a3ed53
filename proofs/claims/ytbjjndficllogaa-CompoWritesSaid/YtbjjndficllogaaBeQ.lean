/-
  Layer 2: 'Put', walked again: the block that it answers, whole.
-/
import Derived.Test.YtbjjndficllogaaBeE
import Derived.Test.YtbjjndficllogaaBeP
namespace Go.Proofs.Ytbjjndficllogaa
open Go.RowKit
set_option linter.unusedVariables false
set_option maxRecDepth 100000 in
set_option maxHeartbeats 4000000 in
theorem ref_putA (n k : Int) (w : World) (hn : In64 n) (hk : In64 k) :
    Calls Try.prog 48 #[.int .i64 n, .int .i64 k] w fun e w' => ∃ g, e = .returned (.slice (some ⟨g, 0, none⟩) (clampW k) (clampW k)) ∧ w.heap.size ≤ g ∧ All w' g 5 (clampW k) (U8 (byteOf n (clampW k))) ∧ Since w w' := by
  obtain ⟨i0, hi0, hz0, hz1, hz2⟩ := info_parts Try.info_u8
  by_cases h1 : 1 ≤ k ∧ k ≤ 8
  · obtain ⟨m, rfl⟩ : ∃ m : Nat, k = m := ⟨k.toNat, by omega⟩
    obtain ⟨h1, h2⟩ := h1
    have hm : m ≤ 8 := by omega
    have hm0 : 0 < m := by omega
    have hc : clampW m = m := by unfold clampW; rw [if_neg (by omega), if_neg (by omega)]; rfl
    rw [hc]
    have b1 : 1 * m ≤ 281474976710656 := by omega
    have b2 : m ≤ maxLen := by simp only [maxLen]; omega
    clear hc
    go_enter Try.func48, Try.ntmps48
    go_wp2_with (at_make; refine wpList_make_tab _ (by rfl) (.tmp 12) (.tmp 12) _ (by rfl) 5 i0 .u8 1 Try.underlying22 hi0 hz0 hz1 hz2 .i64 .i64 m (by rfl) (by rfl) b1 b2 ?_; intro w1 hown1 hS1)
    have hrow := All.of_own hown1
    clear hown1
    go_loopw [7, 8] (fun x y wr => ∃ j : Nat, j ≤ m ∧ x = .int .u64 (at256 n j) ∧ y = .int .i64 ((m : Nat) - 1 - (j : Int)) ∧ Since w wr ∧ All wr w.heap.size 5 m (U8 (fun q => if m ≤ q + j then byteOf n m q else 0))) (fun _ y _ => (intOf y + 1).toNat)
    case atStart => exact ⟨0, by omega, by simp [at256, low64, IntKind.wrap_u64], by simp, hS1, hrow.congr (fun q hq => by simp only [U8, IntRow]; rw [if_neg (by omega)])⟩
    case round =>
      obtain ⟨j, hj, rfl, rfl, hSr, hR⟩ := hrel
      by_cases hjm : j < m
      · obtain ⟨q, hq⟩ : ∃ q : Nat, q + 1 + j = m := ⟨m - 1 - j, by omega⟩
        have hqi : ((m : Nat) : Int) - 1 - (j : Int) = (q : Int) := by omega
        have hqm : (q : Int) < m := by omega
        have hcell := hR.row.1 q (by omega)
        have hfr := hR.row.2.1 q
        have hx := at256_bd n j
        have hnx := at256_next n j
        have hby := at256_byte n hjm (by omega)
        rw [show m - 1 - j = q by omega] at hby
        rw [hqi]
        go_wp2
        rw [hnx]
        refine ⟨⟨j + 1, by omega, rfl, by congr 1 <;> omega, hSr.setCell (Nat.le_refl _) _, (hR.set (i := q) (by omega) _).congr (fun t ht => ?_)⟩, by simp [intOf] <;> omega⟩
        by_cases hqt : t = q
        · subst hqt
          simp only [U8, IntRow]
          rw [if_pos trivial, if_pos (by omega)]
        · simp only [U8, IntRow]
          rw [if_neg hqt]
          by_cases ht2 : m ≤ t + j
          · rw [if_pos ht2, if_pos (by omega)]
          · rw [if_neg ht2, if_neg (by omega)]
      · obtain rfl : m = j := by omega
        have hR' := hR.congr (U := U8 (byteOf n m)) (fun q hq => by simp only [U8, IntRow]; rw [if_pos (by omega)])
        clear hR
        go_wp2
        go_ret
        exact ⟨_, rfl, Nat.le_refl _, hR', hSr⟩
  by_cases h2 : k ≤ 0
  · have hc : clampW k = 0 := by unfold clampW; split <;> (try split) <;> omega
    rw [hc]
    have b1 : 1 * 0 ≤ 281474976710656 := by omega
    have b2 : 0 ≤ maxLen := by simp only [maxLen]; omega
    clear hc
    go_enter Try.func48, Try.ntmps48
    go_wp2_with (at_make; refine wpList_make_tab _ (by rfl) (.tmp 12) (.tmp 12) _ (by rfl) 5 i0 .u8 1 Try.underlying22 hi0 hz0 hz1 hz2 .i64 .i64 0 (by rfl) (by rfl) b1 b2 ?_; intro w1 hown1 hS1)
    have hrow := All.of_own hown1
    clear hown1
    go_loopw [7, 8] (fun x y wr => ∃ j : Nat, j ≤ 0 ∧ x = .int .u64 (at256 n j) ∧ y = .int .i64 ((0 : Nat) - 1 - (j : Int)) ∧ Since w wr ∧ All wr w.heap.size 5 0 (U8 (fun q => if 0 ≤ q + j then byteOf n 0 q else 0))) (fun _ y _ => (intOf y + 1).toNat)
    case atStart => exact ⟨0, by omega, by simp [at256, low64, IntKind.wrap_u64], by simp, hS1, hrow.congr (fun q hq => by simp only [U8, IntRow]; rw [if_neg (by omega)])⟩
    case round =>
      obtain ⟨j, hj, rfl, rfl, hSr, hR⟩ := hrel
      by_cases hjm : j < 0
      · exact absurd hjm (by omega)
      · obtain rfl : 0 = j := by omega
        have hR' := hR.congr (U := U8 (byteOf n 0)) (fun q hq => by simp only [U8, IntRow]; rw [if_pos (by omega)])
        clear hR
        go_wp2
        go_ret
        exact ⟨_, rfl, Nat.le_refl _, hR', hSr⟩
  · have h2' : 8 < k := by omega
    have hc : clampW k = 8 := by unfold clampW; rw [if_neg (by omega), if_pos (by omega)]
    rw [hc]
    have b1 : 1 * 8 ≤ 281474976710656 := by omega
    have b2 : 8 ≤ maxLen := by simp only [maxLen]; omega
    clear hc
    go_enter Try.func48, Try.ntmps48
    go_wp2_with (at_make; refine wpList_make_tab _ (by rfl) (.tmp 12) (.tmp 12) _ (by rfl) 5 i0 .u8 1 Try.underlying22 hi0 hz0 hz1 hz2 .i64 .i64 8 (by rfl) (by rfl) b1 b2 ?_; intro w1 hown1 hS1)
    have hrow := All.of_own hown1
    clear hown1
    go_loopw [7, 8] (fun x y wr => ∃ j : Nat, j ≤ 8 ∧ x = .int .u64 (at256 n j) ∧ y = .int .i64 ((8 : Nat) - 1 - (j : Int)) ∧ Since w wr ∧ All wr w.heap.size 5 8 (U8 (fun q => if 8 ≤ q + j then byteOf n 8 q else 0))) (fun _ y _ => (intOf y + 1).toNat)
    case atStart => exact ⟨0, by omega, by simp [at256, low64, IntKind.wrap_u64], by simp, hS1, hrow.congr (fun q hq => by simp only [U8, IntRow]; rw [if_neg (by omega)])⟩
    case round =>
      obtain ⟨j, hj, rfl, rfl, hSr, hR⟩ := hrel
      by_cases hjm : j < 8
      · obtain ⟨q, hq⟩ : ∃ q : Nat, q + 1 + j = 8 := ⟨8 - 1 - j, by omega⟩
        have hqi : ((8 : Nat) : Int) - 1 - (j : Int) = (q : Int) := by omega
        have hqm : (q : Int) < 8 := by omega
        have hcell := hR.row.1 q (by omega)
        have hfr := hR.row.2.1 q
        have hx := at256_bd n j
        have hnx := at256_next n j
        have hby := at256_byte n hjm (by omega)
        rw [show 8 - 1 - j = q by omega] at hby
        rw [hqi]
        go_wp2
        rw [hnx]
        refine ⟨⟨j + 1, by omega, rfl, by congr 1 <;> omega, hSr.setCell (Nat.le_refl _) _, (hR.set (i := q) (by omega) _).congr (fun t ht => ?_)⟩, by simp [intOf] <;> omega⟩
        by_cases hqt : t = q
        · subst hqt
          simp only [U8, IntRow]
          rw [if_pos trivial, if_pos (by omega)]
        · simp only [U8, IntRow]
          rw [if_neg hqt]
          by_cases ht2 : 8 ≤ t + j
          · rw [if_pos ht2, if_pos (by omega)]
          · rw [if_neg ht2, if_neg (by omega)]
      · obtain rfl : 8 = j := by omega
        have hR' := hR.congr (U := U8 (byteOf n 8)) (fun q hq => by simp only [U8, IntRow]; rw [if_pos (by omega)])
        clear hR
        go_wp2
        go_ret
        exact ⟨_, rfl, Nat.le_refl _, hR', hSr⟩
end Go.Proofs.Ytbjjndficllogaa
