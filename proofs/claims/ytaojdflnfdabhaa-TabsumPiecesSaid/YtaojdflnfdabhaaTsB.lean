/-
  Layer 3: the document's examples; the laws TabsumIs, TabsumPads, TabsumTurns, walked.
-/
import Derived.Test.YtaojdflnfdabhaaTsA
namespace Go.Proofs.Ytaojdflnfdabhaa
open Go.RowKit
set_option linter.unusedVariables false

theorem accu_from {s : Int} {f : Nat → Int} (hs : 0 ≤ s ∧ s < 4294967296) : ∀ n, accu s f n = (s + accu 0 f n) % 4294967296
  | 0 => by simp only [accu]; omega
  | n + 1 => by
    have h := accu_from (f := f) hs n
    have h0 := accu_range (s := 0) (f := f) (by omega) n
    simp only [accu]
    rw [h]
    generalize f n * wgt n = x
    generalize accu 0 f n = y at *
    omega
theorem accu_congr {s : Int} {f g : Nat → Int} : ∀ {n : Nat}, (∀ j, j < n → f j = g j) → accu s f n = accu s g n
  | 0, _ => rfl
  | n + 1, h => by simp only [accu]; rw [accu_congr (n := n) (fun j hj => h j (by omega)), h n (by omega)]
theorem accu_pad {s : Int} {f : Nat → Int} (hs : 0 ≤ s ∧ s < 4294967296) {n : Nat} : ∀ {m : Nat}, (∀ j, n ≤ j → j < n + m → f j = 0) → accu s f (n + m) = accu s f n
  | 0, _ => rfl
  | m + 1, h => by
    have h1 := accu_pad hs (m := m) (fun j h1 h2 => h j h1 (by omega))
    have h2 := accu_range (f := f) hs (n + m)
    show accu s f (n + m + 1) = _
    simp only [accu]
    rw [h (n + m) (by omega) (by omega), Int.zero_mul, Int.add_zero, ← h1]
    omega
theorem wgt_range (j : Nat) : wgt j = 1 ∨ wgt j = 256 ∨ wgt j = 65536 ∨ wgt j = 16777216 := by
  have hh : j % 4 = 0 ∨ j % 4 = 1 ∨ j % 4 = 2 ∨ j % 4 = 3 := by omega
  unfold wgt
  rcases hh with h | h | h | h <;> rw [h] <;> simp
theorem accu_turn {f g : Nat → Int} {i : Nat} (h : ∀ j, j ≠ i → g j = f j) : ∀ n, accu 0 g n = (accu 0 f n + (if i < n then (g i - f i) * wgt i else 0)) % 4294967296
  | 0 => by simp [accu]
  | n + 1 => by
    have h1 := accu_turn h n
    simp only [accu]
    rw [h1]
    by_cases hi : i < n
    · rw [if_pos hi, if_pos (by omega), h n (by omega)]
      generalize f n * wgt n = x
      generalize (g i - f i) * wgt i = y
      omega
    · rw [if_neg hi]
      by_cases hin : i = n
      · subst hin
        rw [if_pos (by omega), Int.sub_mul]
        generalize f i * wgt i = x
        generalize g i * wgt i = y
        omega
      · rw [if_neg (by omega), h n (fun e => hin e.symm)]
        omega
theorem accu_differs {f g : Nat → Int} {i n : Nat} {v : Int} (h : ∀ j, j ≠ i → g j = f j) (hi : i < n) (hf : 0 ≤ f i ∧ f i ≤ 255) (hv : 1 ≤ v ∧ v ≤ 255) (hg : g i = (f i + v) % 256) : accu 0 g n ≠ accu 0 f n := by
  have h1 := accu_turn h n
  have h0 := accu_range (s := 0) (f := f) (by omega) n
  rw [if_pos hi] at h1
  have hw := wgt_range i
  rw [h1, hg]
  generalize accu 0 f n = x at *
  generalize f i = y at *
  rcases hw with e | e | e | e <;> rw [e] <;> omega

set_option maxHeartbeats 4000000 in
theorem ref_more (s : Int) (A : Option Addr) (n c : Nat) (f : Nat → Int) (w : World) (h : Rd w w.heap.size A n (U8 f)) (hf : ∀ j, j < n → 0 ≤ f j ∧ f j ≤ 255) (hs : 0 ≤ s ∧ s < 4294967296) (hn : n ≤ 140737488355328) :
    Calls Try.prog 32 #[.int .u32 s, .slice A n c] w fun e w' => e = .returned (.int .u32 (accu s f n)) ∧ w' = w := by
  have hr := accu_range (s := 0) (f := f) (by omega) n
  have HF := Lib.hid (accu_from (f := f) hs n)
  have hS := ref_sum A n c f w h hf hn
  generalize accu 0 f n = z at hr HF hS
  generalize accu s f n = y at HF
  clear h hf
  go_enter Try.func32, Try.ntmps32
  go_wp2_with (go_at_call 30; refine hS.mono ?_; rintro e w1 ⟨rfl, rfl⟩)
  go_ret
  exact ⟨by rw [HF.out]; rfl, rfl⟩

theorem five (w : World) (t : TypeId) : Calls Try.prog 29 #[.slice (some ⟨w.heap.size, 0, none⟩) 5 5] (w.alloc (.cells #[.int .u8 0, .int .u8 0, .int .u8 0, .int .u8 1, .int .u8 2] t)) fun e w' => e = .returned (.int .u32 33554433) ∧ w' = w.alloc (.cells #[.int .u8 0, .int .u8 0, .int .u8 0, .int .u8 1, .int .u8 2] t) := by
  have hc : ∀ j, j < 5 → j = 0 ∨ j = 1 ∨ j = 2 ∨ j = 3 ∨ j = 4 := fun j hj => by omega
  have h := ts_sum (some ⟨w.heap.size, 0, none⟩) 5 5 (fun j => [0, 0, 0, 1, 2].getD j 0) (w.alloc (.cells #[.int .u8 0, .int .u8 0, .int .u8 0, .int .u8 1, .int .u8 2] t)) (fun _ => ⟨w.heap.size, 0, rfl, by simp, fun j hj => by
      rw [World.cell?_alloc_new, Nat.zero_add]; rcases hc j hj with rfl | rfl | rfl | rfl | rfl <;> rfl⟩)
    (fun j hj => by rcases hc j hj with rfl | rfl | rfl | rfl | rfl <;> decide) (by omega)
  rw [show accu 0 (fun j => [0, 0, 0, 1, 2].getD j 0) 5 = 33554433 by decide +kernel] at h
  exact h
set_option maxHeartbeats 4000000 in
theorem alive03 (w : World) : Calls Try.prog 28 #[] w fun e w' => e = .returned (.bool true) ∧ Since w w' := by
  go_enter Try.func28, Try.ntmps28
  go_wp2_with (first | (go_at_call 29; (with_reducible refine (five _ _).mono ?_); rintro e w1 ⟨rfl, rfl⟩) | (go_at_call 33; refine (ts_adjust _ _ (by omega)).mono ?_; rintro e w2 ⟨rfl, rfl⟩))
  go_ret
  exact ⟨rfl, by (repeat (first | with_reducible (exact Since.refl _) | with_reducible assumption | with_reducible (refine Since.drew ?_) | with_reducible (refine Since.drewN ?_ _) | with_reducible (refine Since.alloc ?_ _) | (with_reducible (refine Since.setCell ?_ ?_ _); rotate_left; focus (first | (simp; done) | (simp; omega) | omega)) | (with_reducible (refine Since.trans ?_ (by with_reducible assumption)))))⟩

set_option maxHeartbeats 4000000 in
theorem walk_is (s : Int) (A : Option Addr) (n c : Nat) (f : Nat → Int) (w : World) (h : Rd w w.heap.size A n (U8 f)) (hf : ∀ j, j < n → 0 ≤ f j ∧ f j ≤ 255) (hs : 0 ≤ s ∧ s < 4294967296) (hn : n ≤ 140737488355328) :
    Calls Try.prog 8 #[.int .u32 s, .slice A n c] w fun e w' => e = .returned (.bool true) ∧ Since w w' := by
  go_enter Try.func8, Try.ntmps8
  go_wp2_with (first | (go_at_call 28; refine (alive03 _).mono ?_; rintro e w1 ⟨rfl, hS1⟩; have h1 := h.on hS1) | (go_at_call 14; refine (ref_copy A n c f w1 h1 hn).mono ?_; rintro e w2 ⟨g2, c2, rfl, hown2, hS2⟩; have h2 := h1.on hS2; have hI := Rd.of_row hown2.row; have hS := hS1.trans hS2; clear h h1 hown2 hS1 hS2) | (go_at_call 29; refine (ts_sum _ n _ f w2 hI hf hn).mono ?_; rintro e w2 ⟨rfl, rfl⟩) | (go_at_call 30; refine (ref_sum _ n _ f w2 h2 hf hn).mono ?_; rintro e w2 ⟨rfl, rfl⟩) | (go_at_call 31; refine (ts_more s _ n _ f w2 hI hf hs hn).mono ?_; rintro e w2 ⟨rfl, rfl⟩) | (go_at_call 32; refine (ref_more s _ n _ f w2 h2 hf hs hn).mono ?_; rintro e w2 ⟨rfl, rfl⟩) | (go_at_call 33; refine (ts_adjust s w2 hs).mono ?_; rintro e w2 ⟨rfl, rfl⟩) | (go_at_call 34; refine (ref_adjust s w2 hs).mono ?_; rintro e w2 ⟨rfl, rfl⟩) | (go_at_call 19; refine (ref_same _ _ n _ _ f f w2 hI h2 (fun _ _ => rfl)).mono ?_; rintro e w2 ⟨rfl, rfl⟩))
  go_ret
  exact ⟨rfl, hS⟩
end Go.Proofs.Ytaojdflnfdabhaa
