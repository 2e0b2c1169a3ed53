/-
  Layer 2: 'Put', walked, program and reference.
-/
import Derived.Test.YtbjjndficllogaaBeC
namespace Go.Proofs.Ytbjjndficllogaa
open Go.RowKit
set_option linter.unusedVariables false

def clampW (k : Int) : Nat := if k < 0 then 0 else if 8 < k then 8 else k.toNat
theorem clampW_le (k : Int) : clampW k ≤ 8 := by unfold clampW; split <;> (try split) <;> omega
/-- The byte of n at place j of m. -/
def byteOf (n : Int) (m j : Nat) : Int := n / 2 ^ (8 * (m - 1 - j)) % 256

set_option maxHeartbeats 4000000 in
theorem be_put (n k : Int) (w : World) (hn : In64 n) (hk : In64 k) :
    Calls Try.prog 44 #[.int .i64 n, .int .i64 k] w fun e w' => ∃ g, e = .returned (.slice (some ⟨g, 0, none⟩) (clampW k) (clampW k)) ∧ w.heap.size ≤ g ∧ Row w' g (clampW k) (U8 (byteOf n (clampW k))) ∧ Since w w' := by
  obtain ⟨i0, hi0, hz0, hz1, hz2⟩ := info_parts Try.info_u8
  by_cases h1 : 0 ≤ k ∧ k ≤ 8
  · obtain ⟨m, rfl⟩ : ∃ m : Nat, k = m := ⟨k.toNat, by omega⟩
    obtain ⟨h1, h2⟩ := h1
    have hm : m ≤ 8 := by omega
    have hc : clampW m = m := by unfold clampW; rw [if_neg (by omega), if_neg (by omega)]; rfl
    rw [hc]
    have b1 : 1 * m ≤ 281474976710656 := by omega
    have b2 : m ≤ maxLen := by simp only [maxLen]; omega
    clear hc
    go_enter Try.func44, Try.ntmps44
    go_wp2_with (at_make; refine wpList_make_tab _ (by rfl) (.tmp 10) (.tmp 10) _ (by rfl) 5 i0 .u8 1 Try.underlying22 hi0 hz0 hz1 hz2 .i64 .i64 m (by rfl) (by rfl) b1 b2 ?_; intro w1 hown1 hS1)
    have hrow := row_of_own hown1
    clear hown1
    go_loopw [13] (fun y wr => ∃ j : Nat, j ≤ m ∧ y = .int .i64 j ∧ Since w wr ∧ Row wr w.heap.size m (U8 (fun q => if m ≤ q + j then byteOf n m q else 0))) (fun y _ => m - (intOf y).toNat)
    case atStart => exact ⟨0, by omega, rfl, hS1, hrow.congr (fun q hq => by simp only [U8, IntRow]; rw [if_neg (by omega)])⟩
    case round =>
      obtain ⟨j, hj, rfl, hSr, hR⟩ := hrel
      by_cases hjm : j < m
      · obtain ⟨q, hq⟩ : ∃ q : Nat, q + 1 + j = m := ⟨m - 1 - j, by omega⟩
        have hqi : (m : Int) - 1 - (j : Int) = (q : Int) := by omega
        have hqi' : (m : Int) - 1 = (q : Int) + j := by omega
        have hjm' : (j : Int) < m := by omega
        have hqm : (q : Int) < m := by omega
        have hcell := hR.1 q (by omega)
        have hfr := hR.2.1 q
        go_wp2
        refine ⟨⟨j + 1, by omega, by simp, hSr.setCell (Nat.le_refl _) _, (hR.set q _).congr (fun t ht => ?_)⟩, by simp [intOf]; omega⟩
        by_cases hqt : t = q
        · subst hqt
          simp only [U8, IntRow]
          rw [if_pos trivial, if_pos (by omega), byteOf, show m - 1 - t = j by omega]
        · simp only [U8, IntRow]
          rw [if_neg hqt]
          by_cases ht2 : m ≤ t + j
          · rw [if_pos ht2, if_pos (by omega)]
          · rw [if_neg ht2, if_neg (by omega)]
      · obtain rfl : m = j := by omega
        have hR' := hR.congr (g := U8 (byteOf n m)) (fun q hq => by simp only [U8, IntRow]; rw [if_pos (by omega)])
        clear hR
        go_wp2
        go_ret
        exact ⟨_, rfl, Nat.le_refl _, hR', hSr⟩
  by_cases h2 : k < 0
  · have hc : clampW k = 0 := by unfold clampW; rw [if_pos (by omega)]
    rw [hc]
    have b1 : 1 * 0 ≤ 281474976710656 := by omega
    have b2 : 0 ≤ maxLen := by simp only [maxLen]; omega
    clear hc
    go_enter Try.func44, Try.ntmps44
    go_wp2_with (at_make; refine wpList_make_tab _ (by rfl) (.tmp 10) (.tmp 10) _ (by rfl) 5 i0 .u8 1 Try.underlying22 hi0 hz0 hz1 hz2 .i64 .i64 0 (by rfl) (by rfl) b1 b2 ?_; intro w1 hown1 hS1)
    have hrow := row_of_own hown1
    clear hown1
    go_loopw [13] (fun y wr => ∃ j : Nat, j ≤ 0 ∧ y = .int .i64 j ∧ Since w wr ∧ Row wr w.heap.size 0 (U8 (fun q => if 0 ≤ q + j then byteOf n 0 q else 0))) (fun y _ => 0 - (intOf y).toNat)
    case atStart => exact ⟨0, by omega, rfl, hS1, hrow.congr (fun q hq => by simp only [U8, IntRow]; rw [if_neg (by omega)])⟩
    case round =>
      obtain ⟨j, hj, rfl, hSr, hR⟩ := hrel
      by_cases hjm : j < 0
      · exact absurd hjm (by omega)
      · obtain rfl : 0 = j := by omega
        have hR' := hR.congr (g := U8 (byteOf n 0)) (fun q hq => by simp only [U8, IntRow]; rw [if_pos (by omega)])
        clear hR
        go_wp2
        go_ret
        exact ⟨_, rfl, Nat.le_refl _, hR', hSr⟩
  · have h2' : 8 < k := by omega
    have hc : clampW k = 8 := by unfold clampW; rw [if_neg (by omega), if_pos (by omega)]
    rw [hc]
    have b1 : 1 * 8 ≤ 281474976710656 := by omega
    have b2 : 8 ≤ maxLen := by simp only [maxLen]; omega
    clear hc
    go_enter Try.func44, Try.ntmps44
    go_wp2_with (at_make; refine wpList_make_tab _ (by rfl) (.tmp 10) (.tmp 10) _ (by rfl) 5 i0 .u8 1 Try.underlying22 hi0 hz0 hz1 hz2 .i64 .i64 8 (by rfl) (by rfl) b1 b2 ?_; intro w1 hown1 hS1)
    have hrow := row_of_own hown1
    clear hown1
    go_loopw [13] (fun y wr => ∃ j : Nat, j ≤ 8 ∧ y = .int .i64 j ∧ Since w wr ∧ Row wr w.heap.size 8 (U8 (fun q => if 8 ≤ q + j then byteOf n 8 q else 0))) (fun y _ => 8 - (intOf y).toNat)
    case atStart => exact ⟨0, by omega, rfl, hS1, hrow.congr (fun q hq => by simp only [U8, IntRow]; rw [if_neg (by omega)])⟩
    case round =>
      obtain ⟨j, hj, rfl, hSr, hR⟩ := hrel
      by_cases hjm : j < 8
      · obtain ⟨q, hq⟩ : ∃ q : Nat, q + 1 + j = 8 := ⟨8 - 1 - j, by omega⟩
        have hqi : (8 : Int) - 1 - (j : Int) = (q : Int) := by omega
        have hqi' : (8 : Int) - 1 = (q : Int) + j := by omega
        have hjm' : (j : Int) < 8 := by omega
        have hqm : (q : Int) < 8 := by omega
        have hcell := hR.1 q (by omega)
        have hfr := hR.2.1 q
        go_wp2
        refine ⟨⟨j + 1, by omega, by simp, hSr.setCell (Nat.le_refl _) _, (hR.set q _).congr (fun t ht => ?_)⟩, by simp [intOf]; omega⟩
        by_cases hqt : t = q
        · subst hqt
          simp only [U8, IntRow]
          rw [if_pos trivial, if_pos (by omega), byteOf, show 8 - 1 - t = j by omega]
        · simp only [U8, IntRow]
          rw [if_neg hqt]
          by_cases ht2 : 8 ≤ t + j
          · rw [if_pos ht2, if_pos (by omega)]
          · rw [if_neg ht2, if_neg (by omega)]
      · obtain rfl : 8 = j := by omega
        have hR' := hR.congr (g := U8 (byteOf n 8)) (fun q hq => by simp only [U8, IntRow]; rw [if_pos (by omega)])
        clear hR
        go_wp2
        go_ret
        exact ⟨_, rfl, Nat.le_refl _, hR', hSr⟩
end Go.Proofs.Ytbjjndficllogaa
