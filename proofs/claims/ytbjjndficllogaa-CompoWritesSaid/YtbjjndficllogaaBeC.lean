/-
  Layer 2: 'S', walked, program and reference.
-/
import Derived.Test.YtbjjndficllogaaBeB
namespace Go.Proofs.Ytbjjndficllogaa
open Go.RowKit
set_option linter.unusedVariables false

/-- A number of k bytes, with its sign. -/
def sgn (k : Nat) (x : Int) : Int := if 256 ^ k ≤ 2 * x then x - 256 ^ k else x
/-- What 'S' answers. -/
def sAns (f : Nat → Int) (n : Nat) (i k : Int) : Int × Int := if k < 1 ∨ 4 < k then (0, 2) else if Fits n i k then (sgn k.toNat (numAt f i.toNat k.toNat), 0) else (0, 3)
theorem fits_top {n : Nat} {i k : Int} (h3 : Fits n i k) (h1 : ¬ k < 1) : i.toNat + k.toNat ≤ n := by unfold Fits at h3; omega

set_option maxHeartbeats 4000000 in
theorem be_s (A : Option Addr) (n c : Nat) (f : Nat → Int) (i k : Int) (w : World) (h : Rd w w.heap.size A n (U8 f)) (hf : ∀ j, j < n → 0 ≤ f j ∧ f j ≤ 255) (hi : In64 i) (hk : In64 k) (hn : n ≤ 140737488355328) :
    Calls Try.prog 33 #[.slice A n c, .int .i64 i, .int .i64 k] w fun e w' => e = .returned (.tuple #[.int .i64 (sAns f n i k).1, .int .i64 (sAns f n i k).2]) ∧ w' = w := by
  have hu := be_u A n c f i k w h hf hi hk hn
  clear h
  by_cases h1 : k < 1 ∨ 4 < k
  · simp only [uAns, sAns, h1, if_true] at hu ⊢
    clear h1
    go_enter Try.func33, Try.ntmps33
    go_wp2_with (go_at_call 35; refine hu.mono ?_; rintro e w2 ⟨rfl, rfl⟩)
    go_ret2
    exact ⟨rfl, rfl⟩
  by_cases h3 : Fits n i k
  · simp only [uAns, sAns, h1, if_false, h3, if_true] at hu ⊢
    have hr := numAt_range (f := f) (p := i.toNat) (k := k.toNat) (fun j hj => hf j (by have := fits_top h3 (by omega); omega))
    generalize numAt f i.toNat k.toNat = x at hu hr ⊢
    have hh : k = 1 ∨ k = 2 ∨ k = 3 ∨ k = 4 := by omega
    clear h1 h3 hk hf hi hn
    rcases hh with rfl | rfl | rfl | rfl
    all_goals (simp only [sgn, Int.reduceToNat, Int.reducePow] at hr hu ⊢)
    all_goals (obtain ⟨hr1, hr2⟩ := hr)
    · by_cases hs : 128 ≤ x
      · have hd : decide (x / 128 = 1) = true := by simp; omega
        have hd' : (x / 128 == 1) = true := by simp; omega
        have e1 : wrap64 (x - 256) = x - 256 := by unfold wrap64; omega
        rw [if_pos (by omega)]
        go_enter Try.func33, Try.ntmps33
        go_wp2_with (go_at_call 35; refine hu.mono ?_; rintro e w2 ⟨rfl, rfl⟩)
        go_ret2
        exact ⟨rfl, rfl⟩
      · have hd : decide (x / 128 = 1) = false := by simp; omega
        have hd' : (x / 128 == 1) = false := by simp; omega
        rw [if_neg (by omega)]
        go_enter Try.func33, Try.ntmps33
        go_wp2_with (go_at_call 35; refine hu.mono ?_; rintro e w2 ⟨rfl, rfl⟩)
        go_ret2
        exact ⟨rfl, rfl⟩
    · by_cases hs : 32768 ≤ x
      · have hd : decide (x / 32768 = 1) = true := by simp; omega
        have hd' : (x / 32768 == 1) = true := by simp; omega
        have e1 : wrap64 (x - 65536) = x - 65536 := by unfold wrap64; omega
        rw [if_pos (by omega)]
        go_enter Try.func33, Try.ntmps33
        go_wp2_with (go_at_call 35; refine hu.mono ?_; rintro e w2 ⟨rfl, rfl⟩)
        go_ret2
        exact ⟨rfl, rfl⟩
      · have hd : decide (x / 32768 = 1) = false := by simp; omega
        have hd' : (x / 32768 == 1) = false := by simp; omega
        rw [if_neg (by omega)]
        go_enter Try.func33, Try.ntmps33
        go_wp2_with (go_at_call 35; refine hu.mono ?_; rintro e w2 ⟨rfl, rfl⟩)
        go_ret2
        exact ⟨rfl, rfl⟩
    · by_cases hs : 8388608 ≤ x
      · have hd : decide (x / 8388608 = 1) = true := by simp; omega
        have hd' : (x / 8388608 == 1) = true := by simp; omega
        have e1 : wrap64 (x - 16777216) = x - 16777216 := by unfold wrap64; omega
        rw [if_pos (by omega)]
        go_enter Try.func33, Try.ntmps33
        go_wp2_with (go_at_call 35; refine hu.mono ?_; rintro e w2 ⟨rfl, rfl⟩)
        go_ret2
        exact ⟨rfl, rfl⟩
      · have hd : decide (x / 8388608 = 1) = false := by simp; omega
        have hd' : (x / 8388608 == 1) = false := by simp; omega
        rw [if_neg (by omega)]
        go_enter Try.func33, Try.ntmps33
        go_wp2_with (go_at_call 35; refine hu.mono ?_; rintro e w2 ⟨rfl, rfl⟩)
        go_ret2
        exact ⟨rfl, rfl⟩
    · by_cases hs : 2147483648 ≤ x
      · have hd : decide (x / 2147483648 = 1) = true := by simp; omega
        have hd' : (x / 2147483648 == 1) = true := by simp; omega
        have e1 : wrap64 (x - 4294967296) = x - 4294967296 := by unfold wrap64; omega
        rw [if_pos (by omega)]
        go_enter Try.func33, Try.ntmps33
        go_wp2_with (go_at_call 35; refine hu.mono ?_; rintro e w2 ⟨rfl, rfl⟩)
        go_ret2
        exact ⟨rfl, rfl⟩
      · have hd : decide (x / 2147483648 = 1) = false := by simp; omega
        have hd' : (x / 2147483648 == 1) = false := by simp; omega
        rw [if_neg (by omega)]
        go_enter Try.func33, Try.ntmps33
        go_wp2_with (go_at_call 35; refine hu.mono ?_; rintro e w2 ⟨rfl, rfl⟩)
        go_ret2
        exact ⟨rfl, rfl⟩
  · simp only [uAns, sAns, h1, if_false, h3] at hu ⊢
    clear h1 h3
    go_enter Try.func33, Try.ntmps33
    go_wp2_with (go_at_call 35; refine hu.mono ?_; rintro e w2 ⟨rfl, rfl⟩)
    go_ret2
    exact ⟨rfl, rfl⟩

set_option maxHeartbeats 4000000 in
theorem ref_s (A : Option Addr) (n c : Nat) (f : Nat → Int) (i k : Int) (w : World) (h : Rd w w.heap.size A n (U8 f)) (hf : ∀ j, j < n → 0 ≤ f j ∧ f j ≤ 255) (hi : In64 i) (hk : In64 k) (hn : n ≤ 140737488355328) :
    Calls Try.prog 73 #[.slice A n c, .int .i64 i, .int .i64 k] w fun e w' => e = .returned (.tuple #[.int .i64 (sAns f n i k).1, .int .i64 (sAns f n i k).2]) ∧ w' = w := by
  have hu := ref_u A n c f i k w h hf hi hk hn
  clear h
  by_cases h1 : k < 1 ∨ 4 < k
  · simp only [uAns, sAns, h1, if_true] at hu ⊢
    clear h1
    go_enter Try.func73, Try.ntmps73
    go_wp2_with (go_at_call 66; refine hu.mono ?_; rintro e w2 ⟨rfl, rfl⟩)
    go_ret2
    exact ⟨rfl, rfl⟩
  by_cases h3 : Fits n i k
  · simp only [uAns, sAns, h1, if_false, h3, if_true] at hu ⊢
    have hr := numAt_range (f := f) (p := i.toNat) (k := k.toNat) (fun j hj => hf j (by have := fits_top h3 (by omega); omega))
    generalize numAt f i.toNat k.toNat = x at hu hr ⊢
    obtain ⟨m, rfl⟩ : ∃ m : Nat, k = m := ⟨k.toNat, by omega⟩
    simp only [Int.toNat_natCast] at hr hu ⊢
    have hm : m ≤ 4 := by omega
    have hp : ∀ j : Nat, j ≤ 4 → 1 ≤ (256 : Int) ^ j ∧ (256 : Int) ^ j ≤ 4294967296 := by
      intro j hj
      have hh : j = 0 ∨ j = 1 ∨ j = 2 ∨ j = 3 ∨ j = 4 := by omega
      rcases hh with rfl | rfl | rfl | rfl | rfl <;> decide
    have hpm := hp m hm
    clear h1 h3 hk hf hi hn
    go_enter Try.func73, Try.ntmps73
    go_wp2_with (go_at_call 66; refine hu.mono ?_; rintro e w2 ⟨rfl, rfl⟩)
    go_loop [10, 11] (fun x y => ∃ j : Nat, j ≤ m ∧ x = .int .i64 (256 ^ j) ∧ y = .int .i64 j) (fun _ y => m - (intOf y).toNat)
    case atStart => exact ⟨0, by omega, rfl, rfl⟩
    case round =>
      obtain ⟨j, hj, rfl, rfl⟩ := hrel
      by_cases hjm : j < m
      · have hpj := hp j (by omega)
        have hpk := hp (j + 1) (by omega)
        have hpe : (256 : Int) ^ (j + 1) = 256 ^ j * 256 := Int.pow_succ _ _
        have hwe : wrap64 ((256 : Int) ^ j * 256) = 256 ^ j * 256 := by rw [← hpe]; unfold wrap64; omega
        clear hpe
        go_wp2
        go_round
        case rel => exact ⟨j + 1, by omega, by rw [Int.pow_succ], by simp⟩
        case measure => simp [intOf]; omega
      · obtain rfl : j = m := by omega
        obtain ⟨hr1, hr2⟩ := hr
        by_cases hs : (256 : Int) ^ j ≤ 2 * x
        · have he := Lib.hid (show sgn j x = x - 256 ^ j from if_pos hs)
          go_wp2
          go_ret2
          rw [he.out]
          exact ⟨rfl, rfl⟩
        · have he := Lib.hid (show sgn j x = x from if_neg hs)
          go_wp2
          go_ret2
          rw [he.out]
          exact ⟨rfl, rfl⟩
  · simp only [uAns, sAns, h1, if_false, h3] at hu ⊢
    clear h1 h3
    go_enter Try.func73, Try.ntmps73
    go_wp2_with (go_at_call 66; refine hu.mono ?_; rintro e w2 ⟨rfl, rfl⟩)
    go_ret2
    exact ⟨rfl, rfl⟩
end Go.Proofs.Ytbjjndficllogaa
