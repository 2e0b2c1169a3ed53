/-
  Layer 3: the document's examples; the laws TabsumIs, TabsumPads, TabsumTurns, walked.
-/
import Derived.Test.YtpplnapfpoloiaaTsA
namespace Go.Proofs.Ytpplnapfpoloiaa
open Go.RowKit
set_option linter.unusedVariables false

theorem accu_from {s : Int} {f : Nat → Int} (hs : 0 ≤ s ∧ s < 4294967296) : ∀ n, accu s f n = (s + accu 0 f n) % 4294967296
  | 0 => by simp only [accu]; omega
  | n + 1 => by
    have h := accu_from (f := f) hs n
    have h0 := accu_range (s := 0) (f := f) (by omega) n
    simp only [accu]
    rw [h]
    generalize f n * wgt n = x
    generalize accu 0 f n = y at *
    omega
theorem accu_congr {s : Int} {f g : Nat → Int} : ∀ {n : Nat}, (∀ j, j < n → f j = g j) → accu s f n = accu s g n
  | 0, _ => rfl
  | n + 1, h => by simp only [accu]; rw [accu_congr (n := n) (fun j hj => h j (by omega)), h n (by omega)]
theorem accu_pad {s : Int} {f : Nat → Int} (hs : 0 ≤ s ∧ s < 4294967296) {n : Nat} : ∀ {m : Nat}, (∀ j, n ≤ j → j < n + m → f j = 0) → accu s f (n + m) = accu s f n
  | 0, _ => rfl
  | m + 1, h => by
    have h1 := accu_pad hs (m := m) (fun j h1 h2 => h j h1 (by omega))
    have h2 := accu_range (f := f) hs (n + m)
    show accu s f (n + m + 1) = _
    simp only [accu]
    rw [h (n + m) (by omega) (by omega), Int.zero_mul, Int.add_zero, ← h1]
    omega
theorem wgt_range (j : Nat) : wgt j = 1 ∨ wgt j = 256 ∨ wgt j = 65536 ∨ wgt j = 16777216 := by
  have hh : j % 4 = 0 ∨ j % 4 = 1 ∨ j % 4 = 2 ∨ j % 4 = 3 := by omega
  unfold wgt
  rcases hh with h | h | h | h <;> rw [h] <;> simp
theorem accu_turn {f g : Nat → Int} {i : Nat} (h : ∀ j, j ≠ i → g j = f j) : ∀ n, accu 0 g n = (accu 0 f n + (if i < n then (g i - f i) * wgt i else 0)) % 4294967296
  | 0 => by simp [accu]
  | n + 1 => by
    have h1 := accu_turn h n
    simp only [accu]
    rw [h1]
    by_cases hi : i < n
    · rw [if_pos hi, if_pos (by omega), h n (by omega)]
      generalize f n * wgt n = x
      generalize (g i - f i) * wgt i = y
      omega
    · rw [if_neg hi]
      by_cases hin : i = n
      · subst hin
        rw [if_pos (by omega), Int.sub_mul]
        generalize f i * wgt i = x
        generalize g i * wgt i = y
        omega
      · rw [if_neg (by omega), h n (fun e => hin e.symm)]
        omega
theorem accu_differs {f g : Nat → Int} {i n : Nat} {v : Int} (h : ∀ j, j ≠ i → g j = f j) (hi : i < n) (hf : 0 ≤ f i ∧ f i ≤ 255) (hv : 1 ≤ v ∧ v ≤ 255) (hg : g i = (f i + v) % 256) : accu 0 g n ≠ accu 0 f n := by
  have h1 := accu_turn h n
  have h0 := accu_range (s := 0) (f := f) (by omega) n
  rw [if_pos hi] at h1
  have hw := wgt_range i
  rw [h1, hg]
  generalize accu 0 f n = x at *
  generalize f i = y at *
  rcases hw with e | e | e | e <;> rw [e] <;> omega

theorem five (w : World) (t : TypeId) : Calls Try.prog 49 #[.slice (some ⟨w.heap.size, 0, none⟩) 5 5] (w.alloc (.cells #[.int .u8 0, .int .u8 0, .int .u8 0, .int .u8 1, .int .u8 2] t)) fun e w' => e = .returned (.int .u32 33554433) ∧ w' = w.alloc (.cells #[.int .u8 0, .int .u8 0, .int .u8 0, .int .u8 1, .int .u8 2] t) := by
  have hc : ∀ j, j < 5 → j = 0 ∨ j = 1 ∨ j = 2 ∨ j = 3 ∨ j = 4 := fun j hj => by omega
  have h := ts_sum (some ⟨w.heap.size, 0, none⟩) 5 5 (fun j => [0, 0, 0, 1, 2].getD j 0) (w.alloc (.cells #[.int .u8 0, .int .u8 0, .int .u8 0, .int .u8 1, .int .u8 2] t)) (fun _ => ⟨w.heap.size, 0, rfl, by simp, fun j hj => by
      rw [World.cell?_alloc_new, Nat.zero_add]; rcases hc j hj with rfl | rfl | rfl | rfl | rfl <;> rfl⟩)
    (fun j hj => by rcases hc j hj with rfl | rfl | rfl | rfl | rfl <;> decide) (by omega)
  rw [show accu 0 (fun j => [0, 0, 0, 1, 2].getD j 0) 5 = 33554433 by decide +kernel] at h
  exact h
end Go.Proofs.Ytpplnapfpoloiaa
