/-
  Layer 6: the laws LocaReads, LocaMetrics, LocaWrites, LocaLong, walked.
-/
import Derived.Test.YtefalfdillnkfaaLoG
namespace Go.Proofs.Ytefalfdillnkfaa
open Go.RowKit
set_option linter.unusedVariables false

theorem rdN_le (f : Nat → Int) (n : Nat) (l : Bool) (g : Int) : rdN f n l g ≤ maxLen := by
  unfold rdN
  by_cases h : rdE f n l g = 0
  · have hb : ¬ (g < 0 ∨ 1024 < g) := fun hb => by unfold rdE at h; rw [if_pos hb] at h; exact absurd h (by decide)
    rw [if_pos h]; simp only [maxLen]; omega
  · rw [if_neg h]; exact Nat.zero_le _
theorem mtN_le (n : Nat) (c g : Int) : mtN n c g ≤ maxLen := by
  unfold mtN
  by_cases h : mtE n c g = 0
  · have hb : ¬ (g < 1 ∨ 1024 < g ∨ c < 1 ∨ g < c) := fun hb => by unfold mtE at h; rw [if_pos hb] at h; exact absurd h (by decide)
    rw [if_pos h]; simp only [maxLen]; omega
  · rw [if_neg h]; exact Nat.zero_le _
theorem wrN_le (l : Bool) (f : Nat → Int) (n : Nat) (h : n * 8 ≤ 140737488351232) : wrN l f n ≤ 140737488351232 := by
  unfold wrN
  split
  · cases l
    · show 2 * n ≤ _; omega
    · show 4 * n ≤ _; omega
  · omega
theorem wr_short {f : Nat → Int} {n : Nat} (h : wrE false f n = 0) : wrE true f n = 0 := by
  obtain ⟨h1, h2⟩ := wr_ok h
  unfold wrE
  rw [h1]
  have h3 : allB (fitB true f) n = true := by
    rw [allB_iff] at h2 ⊢
    intro j hj
    have := h2 j hj
    unfold fitB at this ⊢
    simp only [Bool.false_eq_true, if_false, Bool.and_eq_true, decide_eq_true_eq] at this
    simp only [if_true, decide_eq_true_eq]
    omega
  rw [h3]
  rfl

set_option maxHeartbeats 8000000 in
theorem walk_reads2 (A : Option Addr) (n c : Nat) (f : Nat → Int) (g : Int) (w : World) (h : Rd w w.heap.size A n (U8 f)) (hf : ∀ j, j < n → 0 ≤ f j ∧ f j ≤ 255) (hg : In64 g) (hn : n ≤ 140737488351232) :
    Calls Try.prog 3 #[.slice A n c, .bool false, .int .i64 g] w fun e w' => e = .returned (.bool true) ∧ Since w w' := by
  have hle := rdN_le f n false g
  go_enter Try.func3, Try.ntmps3
  go_wp2_with (first | (go_at_call 9; (with_reducible refine (alive06 _).mono ?_); rintro e w1 ⟨rfl, hS1⟩; have h1 := h.on hS1) | (go_at_call 10; refine (ref_copy A n c f _ h1 (by omega)).mono ?_; rintro e w2 ⟨g2, cap, rfl, hown, hS2⟩; have h2 := h1.on hS2; have hI := Rd.of_row hown.row; have hT := hS1.trans hS2; clear hown hS1 hS2 h1 h) | (go_at_call 11; refine (lo_read2 _ n _ f g w2 hI hf hg (by omega)).mono ?_; rintro e w3 ⟨A3, c3, rfl, hc3, hR3, hS3⟩; have h3 := h2.on hS3; have hI3 := hI.on hS3; have hT3 := hT.trans hS3; clear h2 hI hT hS3) | (go_at_call 12; refine (ref_read2 _ n _ f g w3 h3 hf hg (by omega)).mono ?_; rintro e w4 ⟨A4, c4, rfl, hc4, hR4, hS4⟩; have h4 := h3.on hS4; have hI4 := hI3.on hS4; have hT4 := hT3.trans hS4; have hQ4 := hR3.on hS4; clear h3 hI3 hT3 hS4 hR3) | (go_at_call 13; refine (ref_ints A3 A4 _ c3 c4 _ w4 hQ4 hR4 hle).mono ?_; rintro e w5 ⟨rfl, hS5⟩; have h5 := h4.on hS5; have hI5 := hI4.on hS5; have hT5 := hT4.trans hS5; clear h4 hI4 hT4 hS5 hQ4 hR4) | (go_at_call 14; refine (ref_same _ _ n _ _ f f w5 hI5 h5 (fun _ _ => rfl)).mono ?_; rintro e w6 ⟨rfl, rfl⟩))
  go_ret
  exact ⟨by first | rfl | simp, hT5⟩
set_option maxHeartbeats 8000000 in
theorem walk_writes2 (A : Option Addr) (n c : Nat) (f : Nat → Int) (w : World) (h : Rd w w.heap.size A n (I64 f)) (hf : ∀ j, j < n → In64 (f j)) (hn : n * 8 ≤ 140737488351232) :
    Calls Try.prog 4 #[.slice A n c, .bool false] w fun e w' => e = .returned (.bool true) ∧ Since w w' := by
  obtain ⟨i0, hi0, hz0, hz1, hz2⟩ := info_parts Try.info_i64
  have b1 : (0 + n) * 8 ≤ 140737488355328 := by omega
  have b2 : 0 + n ≤ maxLen := by simp only [maxLen]; omega
  have hle := wrN_le false f n hn
  have hlen : n ≤ maxLen := by simp only [maxLen]; omega
  go_enter Try.func4, Try.ntmps4
  go_wp2_with (first | (go_at_call 9; (with_reducible refine (alive06 _).mono ?_); rintro e w1 ⟨rfl, hS1⟩; have h1 := h.on hS1; have h1' := h1.on ((Since.refl w1).alloc (.cells #[] 3)); have h0 : (w1.alloc (.cells #[] 3)).ownsRow w1.heap.size 3 1 (.slice (some ⟨w1.heap.size, 0, none⟩) 0 0) 0 [] := (⟨rfl, .inr ⟨_, 0, #[], rfl, Nat.le_refl _, heap_alloc_new w1 _, Nat.le_refl _, by simp [maxLen], rfl, rfl⟩⟩)) | (at_builtin; refine wpList_append_rd _ (by rfl) _ _ _ (by rfl) w1.heap.size 3 i0 _ 8 Try.underlying25 hi0 hz0 hz1 hz2 (by rfl) w1.heap.size 0 0 [] (by rfl) h0 _ A n c (I64 f) (by rfl) h1' tab_ones b1 b2 (by simp) ?_; intro g2 cap2 w2 hown2 hgr2 hat2; simp only [Nat.zero_add, List.nil_append] at hown2; have hI := Rd.of_row (row_of_own hown2); have hT12 : Since w1 w2 := since_grown ((Since.refl w1).alloc _) hgr2 (fun k hk => by injection hk with hk; omega); have h2 := h1.on hT12; have hT := hS1.trans hT12; clear h0 h1 h1' hown2 hgr2 hat2 hT12 hS1 h; simp only [Nat.zero_add]) | (go_at_call 15; refine (lo_write2 _ n _ f w2 (by omega) hf hI).mono ?_; rintro e w3 ⟨A3, c3, rfl, hown3, hS3⟩; have h3 := h2.on hS3; have hI3 := hI.on hS3; have hR3 := (own_rd hown3).2.1; have hT3 := hT.trans hS3; clear h2 hI hT hS3 hown3) | (go_at_call 16; refine (ref_write2 _ n _ f w3 (by omega) hf h3).mono ?_; rintro e w4 ⟨A4, c4, rfl, hown4, hS4⟩; have h4 := h3.on hS4; have hI4 := hI3.on hS4; have hR4 := (own_rd hown4).2.1; have hT4 := hT3.trans hS4; have hQ4 := hR3.on hS4; clear h3 hI3 hT3 hS4 hR3 hown4) | (go_at_call 14; refine (ref_same _ _ _ _ _ _ _ w4 hQ4 hR4 (fun _ _ => rfl)).mono ?_; rintro e w6 ⟨rfl, rfl⟩; clear hQ4 hR4) | (go_at_call 17; refine (lo_long _ n _ f _ hlen hI4).mono ?_; rintro e w5 ⟨rfl, hS5⟩; have h5 := h4.on hS5; have hI5 := hI4.on hS5; have hT5 := hT4.trans hS5; clear h4 hI4 hT4 hS5) | (go_at_call 18; refine (ref_long _ n _ f _ (by omega) hf h5).mono ?_; rintro e w7 ⟨rfl, hS7⟩; have h7 := h5.on hS7; have hI7 := hI5.on hS7; have hT7 := hT5.trans hS7; clear h5 hI5 hT5 hS7) | (go_at_call 13; refine (ref_ints _ _ n _ _ f w7 hI7 h7 hlen).mono ?_; rintro e w8 ⟨rfl, hS8⟩; have hT8 := hT7.trans hS8))
  go_ret
  exact ⟨by first | rfl | simp, hT8⟩

set_option maxHeartbeats 8000000 in
theorem walk_reads4 (A : Option Addr) (n c : Nat) (f : Nat → Int) (g : Int) (w : World) (h : Rd w w.heap.size A n (U8 f)) (hf : ∀ j, j < n → 0 ≤ f j ∧ f j ≤ 255) (hg : In64 g) (hn : n ≤ 140737488351232) :
    Calls Try.prog 3 #[.slice A n c, .bool true, .int .i64 g] w fun e w' => e = .returned (.bool true) ∧ Since w w' := by
  have hle := rdN_le f n true g
  go_enter Try.func3, Try.ntmps3
  go_wp2_with (first | (go_at_call 9; (with_reducible refine (alive06 _).mono ?_); rintro e w1 ⟨rfl, hS1⟩; have h1 := h.on hS1) | (go_at_call 10; refine (ref_copy A n c f _ h1 (by omega)).mono ?_; rintro e w2 ⟨g2, cap, rfl, hown, hS2⟩; have h2 := h1.on hS2; have hI := Rd.of_row hown.row; have hT := hS1.trans hS2; clear hown hS1 hS2 h1 h) | (go_at_call 11; refine (lo_read4 _ n _ f g w2 hI hf hg (by omega)).mono ?_; rintro e w3 ⟨A3, c3, rfl, hc3, hR3, hS3⟩; have h3 := h2.on hS3; have hI3 := hI.on hS3; have hT3 := hT.trans hS3; clear h2 hI hT hS3) | (go_at_call 12; refine (ref_read4 _ n _ f g w3 h3 hf hg (by omega)).mono ?_; rintro e w4 ⟨A4, c4, rfl, hc4, hR4, hS4⟩; have h4 := h3.on hS4; have hI4 := hI3.on hS4; have hT4 := hT3.trans hS4; have hQ4 := hR3.on hS4; clear h3 hI3 hT3 hS4 hR3) | (go_at_call 13; refine (ref_ints A3 A4 _ c3 c4 _ w4 hQ4 hR4 hle).mono ?_; rintro e w5 ⟨rfl, hS5⟩; have h5 := h4.on hS5; have hI5 := hI4.on hS5; have hT5 := hT4.trans hS5; clear h4 hI4 hT4 hS5 hQ4 hR4) | (go_at_call 14; refine (ref_same _ _ n _ _ f f w5 hI5 h5 (fun _ _ => rfl)).mono ?_; rintro e w6 ⟨rfl, rfl⟩))
  go_ret
  exact ⟨by first | rfl | simp, hT5⟩
set_option maxHeartbeats 8000000 in
theorem walk_writes4 (A : Option Addr) (n c : Nat) (f : Nat → Int) (w : World) (h : Rd w w.heap.size A n (I64 f)) (hf : ∀ j, j < n → In64 (f j)) (hn : n * 8 ≤ 140737488351232) :
    Calls Try.prog 4 #[.slice A n c, .bool true] w fun e w' => e = .returned (.bool true) ∧ Since w w' := by
  obtain ⟨i0, hi0, hz0, hz1, hz2⟩ := info_parts Try.info_i64
  have b1 : (0 + n) * 8 ≤ 140737488355328 := by omega
  have b2 : 0 + n ≤ maxLen := by simp only [maxLen]; omega
  have hle := wrN_le true f n hn
  have hlen : n ≤ maxLen := by simp only [maxLen]; omega
  go_enter Try.func4, Try.ntmps4
  go_wp2_with (first | (go_at_call 9; (with_reducible refine (alive06 _).mono ?_); rintro e w1 ⟨rfl, hS1⟩; have h1 := h.on hS1; have h1' := h1.on ((Since.refl w1).alloc (.cells #[] 3)); have h0 : (w1.alloc (.cells #[] 3)).ownsRow w1.heap.size 3 1 (.slice (some ⟨w1.heap.size, 0, none⟩) 0 0) 0 [] := (⟨rfl, .inr ⟨_, 0, #[], rfl, Nat.le_refl _, heap_alloc_new w1 _, Nat.le_refl _, by simp [maxLen], rfl, rfl⟩⟩)) | (at_builtin; refine wpList_append_rd _ (by rfl) _ _ _ (by rfl) w1.heap.size 3 i0 _ 8 Try.underlying25 hi0 hz0 hz1 hz2 (by rfl) w1.heap.size 0 0 [] (by rfl) h0 _ A n c (I64 f) (by rfl) h1' tab_ones b1 b2 (by simp) ?_; intro g2 cap2 w2 hown2 hgr2 hat2; simp only [Nat.zero_add, List.nil_append] at hown2; have hI := Rd.of_row (row_of_own hown2); have hT12 : Since w1 w2 := since_grown ((Since.refl w1).alloc _) hgr2 (fun k hk => by injection hk with hk; omega); have h2 := h1.on hT12; have hT := hS1.trans hT12; clear h0 h1 h1' hown2 hgr2 hat2 hT12 hS1 h; simp only [Nat.zero_add]) | (go_at_call 15; refine (lo_write4 _ n _ f w2 (by omega) hf hI).mono ?_; rintro e w3 ⟨A3, c3, rfl, hown3, hS3⟩; have h3 := h2.on hS3; have hI3 := hI.on hS3; have hR3 := (own_rd hown3).2.1; have hT3 := hT.trans hS3; clear h2 hI hT hS3 hown3) | (go_at_call 16; refine (ref_write4 _ n _ f w3 (by omega) hf h3).mono ?_; rintro e w4 ⟨A4, c4, rfl, hown4, hS4⟩; have h4 := h3.on hS4; have hI4 := hI3.on hS4; have hR4 := (own_rd hown4).2.1; have hT4 := hT3.trans hS4; have hQ4 := hR3.on hS4; clear h3 hI3 hT3 hS4 hR3 hown4) | (go_at_call 14; refine (ref_same _ _ _ _ _ _ _ w4 hQ4 hR4 (fun _ _ => rfl)).mono ?_; rintro e w6 ⟨rfl, rfl⟩; clear hQ4 hR4) | (go_at_call 17; refine (lo_long _ n _ f _ hlen hI4).mono ?_; rintro e w5 ⟨rfl, hS5⟩; have h5 := h4.on hS5; have hI5 := hI4.on hS5; have hT5 := hT4.trans hS5; clear h4 hI4 hT4 hS5) | (go_at_call 18; refine (ref_long _ n _ f _ (by omega) hf h5).mono ?_; rintro e w7 ⟨rfl, hS7⟩; have h7 := h5.on hS7; have hI7 := hI5.on hS7; have hT7 := hT5.trans hS7; clear h5 hI5 hT5 hS7) | (go_at_call 13; refine (ref_ints _ _ n _ _ f w7 hI7 h7 hlen).mono ?_; rintro e w8 ⟨rfl, hS8⟩; have hT8 := hT7.trans hS8))
  go_ret
  exact ⟨by first | rfl | simp, hT8⟩

theorem walk_locareads (A : Option Addr) (n c : Nat) (f : Nat → Int) (l : Bool) (g : Int) (w : World) (h : Rd w w.heap.size A n (U8 f)) (hf : ∀ j, j < n → 0 ≤ f j ∧ f j ≤ 255) (hg : In64 g) (hn : n ≤ 140737488351232) :
    Calls Try.prog 3 #[.slice A n c, .bool l, .int .i64 g] w fun e w' => e = .returned (.bool true) ∧ Since w w' := by
  cases l
  · exact walk_reads2 A n c f g w h hf hg hn
  · exact walk_reads4 A n c f g w h hf hg hn
theorem walk_locawrites (A : Option Addr) (n c : Nat) (f : Nat → Int) (l : Bool) (w : World) (h : Rd w w.heap.size A n (I64 f)) (hf : ∀ j, j < n → In64 (f j)) (hn : n * 8 ≤ 140737488351232) :
    Calls Try.prog 4 #[.slice A n c, .bool l] w fun e w' => e = .returned (.bool true) ∧ Since w w' := by
  cases l
  · exact walk_writes2 A n c f w h hf hn
  · exact walk_writes4 A n c f w h hf hn
set_option maxHeartbeats 8000000 in
theorem walk_locametrics (A : Option Addr) (n c : Nat) (f : Nat → Int) (k g : Int) (w : World) (h : Rd w w.heap.size A n (U8 f)) (hf : ∀ j, j < n → 0 ≤ f j ∧ f j ≤ 255) (hk : In64 k) (hg : In64 g) (hn : n ≤ 140737488351232) :
    Calls Try.prog 6 #[.slice A n c, .int .i64 k, .int .i64 g] w fun e w' => e = .returned (.bool true) ∧ Since w w' := by
  have hle := mtN_le n k g
  go_enter Try.func6, Try.ntmps6
  go_wp2_with (first | (go_at_call 9; (with_reducible refine (alive06 _).mono ?_); rintro e w1 ⟨rfl, hS1⟩; have h1 := h.on hS1) | (go_at_call 10; refine (ref_copy A n c f _ h1 (by omega)).mono ?_; rintro e w2 ⟨g2, cap, rfl, hown, hS2⟩; have h2 := h1.on hS2; have hI := Rd.of_row hown.row; have hT := hS1.trans hS2; clear hown hS1 hS2 h1 h) | (go_at_call 19; refine (lo_metrics _ n _ f k g w2 hI hf hk hg (by omega)).mono ?_; rintro e w3 ⟨A3, c3, rfl, hc3, hR3, hS3⟩; have h3 := h2.on hS3; have hI3 := hI.on hS3; have hT3 := hT.trans hS3; clear h2 hI hT hS3) | (go_at_call 20; refine (ref_metrics _ n _ f k g w3 h3 hf hk hg (by omega)).mono ?_; rintro e w4 ⟨A4, c4, rfl, hc4, hR4, hS4⟩; have h4 := h3.on hS4; have hI4 := hI3.on hS4; have hT4 := hT3.trans hS4; have hQ4 := hR3.on hS4; clear h3 hI3 hT3 hS4 hR3) | (go_at_call 21; refine (ref_msame A3 A4 _ c3 c4 _ _ w4 hQ4 hR4 hle).mono ?_; rintro e w5 ⟨rfl, hS5⟩; have h5 := h4.on hS5; have hI5 := hI4.on hS5; have hT5 := hT4.trans hS5; clear h4 hI4 hT4 hS5 hQ4 hR4) | (go_at_call 14; refine (ref_same _ _ n _ _ f f w5 hI5 h5 (fun _ _ => rfl)).mono ?_; rintro e w6 ⟨rfl, rfl⟩))
  go_ret
  exact ⟨by first | rfl | simp, hT5⟩
end Go.Proofs.Ytefalfdillnkfaa
