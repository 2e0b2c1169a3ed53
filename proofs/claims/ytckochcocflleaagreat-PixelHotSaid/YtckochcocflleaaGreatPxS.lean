/-
  Layer 16: the document's examples.
-/
import Derived.Test.YtckochcocflleaaGreatPxR
import Derived.Test.YtckochcocflleaaGreatPxE
import Derived.Test.YtckochcocflleaaGreatFaF
namespace Go.Proofs.YtckochcocflleaaGreat
open Go.RowKit
set_option linter.unusedVariables false

abbrev l1x : Ln := ⟨0, 0, 128, 128⟩
abbrev l2x : Ln := ⟨0, 128, 128, 0⟩
abbrev two16 : List Ln := [l1x, l2x]
def H5 : List Pq := [⟨0, 0⟩, ⟨0, 2⟩, ⟨1, 1⟩, ⟨2, 0⟩, ⟨2, 2⟩]
theorem wf_tiny16 (a b c d : Int) (h : -1000 ≤ a ∧ a ≤ 1000 ∧ -1000 ≤ b ∧ b ≤ 1000 ∧ -1000 ≤ c ∧ c ≤ 1000 ∧ -1000 ≤ d ∧ d ≤ 1000) : (⟨a, b, c, d⟩ : Ln).wf := by
  unfold Ln.wf InP In64
  simp only
  omega
theorem m11 : (meetCp l1x l1x).k = 2 := by kernel_rfl
theorem m22 : (meetCp l2x l2x).k = 2 := by kernel_rfl
theorem m12 : (meetCp l1x l2x).k = 1 := by kernel_rfl
theorem m21 : (meetCp l2x l1x).k = 1 := by kernel_rfl
theorem p12 : (pixX (meetCp l1x l2x), pixY (meetCp l1x l2x)) = (1, 1) := by kernel_rfl
theorem p21 : (pixX (meetCp l2x l1x), pixY (meetCp l2x l1x)) = (1, 1) := by kernel_rfl
theorem a1 : pxA l1x = (0, 0) := by kernel_rfl
theorem b1 : pxB l1x = (2, 2) := by kernel_rfl
theorem a2 : pxA l2x = (0, 2) := by kernel_rfl
theorem b2 : pxB l2x = (2, 0) := by kernel_rfl
theorem hot5 : HotL two16 H5 := by
  refine ⟨?_, fun p => ?_⟩
  · unfold H5 LtP
    simp
  · have hm : p ∈ H5 ↔ (p.x, p.y) = ((0, 0) : Int × Int) ∨ (p.x, p.y) = ((0, 2) : Int × Int) ∨ (p.x, p.y) = ((1, 1) : Int × Int) ∨ (p.x, p.y) = ((2, 0) : Int × Int) ∨ (p.x, p.y) = ((2, 2) : Int × Int) := by
      obtain ⟨x, y⟩ := p
      unfold H5
      simp
    rw [hm]
    constructor
    · rintro (h | h | h | h | h) <;> rw [h]
      · exact .inl ⟨l1x, by simp, .inl a1.symm⟩
      · exact .inl ⟨l2x, by simp, .inl a2.symm⟩
      · exact .inr ⟨l1x, by simp, l2x, by simp, m12, p12.symm⟩
      · exact .inl ⟨l2x, by simp, .inr b2.symm⟩
      · exact .inl ⟨l1x, by simp, .inr b1.symm⟩
    · rintro (⟨l, hl, h⟩ | ⟨s, hs, t, ht, hk, h⟩)
      · simp only [List.mem_cons, List.not_mem_nil, or_false] at hl
        rcases hl with rfl | rfl
        · rw [a1, b1] at h
          rcases h with h | h
          · exact .inl h
          · exact .inr (.inr (.inr (.inr h)))
        · rw [a2, b2] at h
          rcases h with h | h
          · exact .inr (.inl h)
          · exact .inr (.inr (.inr (.inl h)))
      · simp only [List.mem_cons, List.not_mem_nil, or_false] at hs ht
        rcases hs with rfl | rfl <;> rcases ht with rfl | rfl
        · rw [m11] at hk; cases hk
        · rw [p12] at h; exact .inr (.inr (.inl h))
        · rw [p21] at h; exact .inr (.inr (.inl h))
        · rw [m22] at hk; cases hk
theorem law16_line (a b c d : Int) (w : World) : Calls Tryz.prog 9 #[.int .i64 a, .int .i64 b, .int .i64 c, .int .i64 d] w fun e w' => e = .returned (.agg #[.int .i64 a, .int .i64 b, .int .i64 c, .int .i64 d]) ∧ Since w w' := by
  go_enter Tryz.func9, Tryz.ntmps9
  go_wp2
  refine bodyPost_ret (by simp only [results, Tryz.results9]; go_simp) rfl ⟨rfl, ?_⟩
  (repeat (first | with_reducible (exact Since.refl _) | with_reducible assumption | with_reducible (refine Since.drew ?_) | with_reducible (refine Since.drewN ?_ _) | with_reducible (refine Since.alloc ?_ _) | (with_reducible (refine Since.setCell ?_ ?_ _); rotate_left; focus (first | (simp; done) | (simp; omega) | omega)) | (with_reducible (refine Since.trans ?_ (by with_reducible assumption)))))
theorem al16_hot (w : World) (b : Nat) (hb : b = w.heap.size) (t : TypeId) : Calls Tryz.prog 5 #[.slice (some ⟨b, 0, none⟩) 2 2] (w.alloc (.cells #[.int .i64 0, .int .i64 0, .int .i64 128, .int .i64 128, .int .i64 0, .int .i64 128, .int .i64 128, .int .i64 0] t)) fun e w' => ∃ A c, e = .returned (.tuple #[.slice A 5 c, .int .i64 0]) ∧ RdG 2 ptL w' w'.heap.size A H5 ∧ Since w w' := by
  have hr : RdG 4 lnE (w.alloc (.cells #[.int .i64 0, .int .i64 0, .int .i64 128, .int .i64 128, .int .i64 0, .int .i64 128, .int .i64 128, .int .i64 0] t)) (w.alloc (.cells #[.int .i64 0, .int .i64 0, .int .i64 128, .int .i64 128, .int .i64 0, .int .i64 128, .int .i64 128, .int .i64 0] t)).heap.size (some ⟨b, 0, none⟩) two16 := rdG_lit hb two16 (fun j s hj i hi => by
    have hi' : i = 0 ∨ i = 1 ∨ i = 2 ∨ i = 3 := by omega
    match j, hj with
    | 0, hj => simp only [List.getElem?_cons_zero, Option.some.injEq] at hj; subst hj; rcases hi' with rfl | rfl | rfl | rfl <;> rfl
    | 1, hj => simp only [List.getElem?_cons_zero, List.getElem?_cons_succ, Option.some.injEq] at hj; subst hj; rcases hi' with rfl | rfl | rfl | rfl <;> rfl
    | j + 2, hj => simp at hj)
  refine (px_hot (some ⟨b, 0, none⟩) 2 two16 _ hr (fun l hl => by
    simp only [List.mem_cons, List.not_mem_nil, or_false] at hl
    rcases hl with rfl | rfl <;> exact wf_tiny16 _ _ _ _ (by decide))).mono ?_
  rintro e w' ⟨hS, h⟩
  rcases h with ⟨h, _⟩ | ⟨_, ⟨l, hl, hg⟩, _⟩ | ⟨_, _, v, H, rfl, hO, hH⟩
  · simp at h
  · simp only [List.mem_cons, List.not_mem_nil, or_false] at hl
    rcases hl with rfl | rfl <;> (exfalso; revert hg; decide)
  · rw [hotL_same hH hot5] at hO
    obtain ⟨A, c, rfl, hc, hr2⟩ := OwnG.rd (by omega) ptL_len hO
    exact ⟨A, c, rfl, hr2, ((Since.refl w).alloc _).trans hS⟩
theorem al16_of1 (w : World) : Calls Tryz.prog 10 #[.agg #[.int .i64 31, .int .i64 (-32)]] w fun e w' => e = .returned (.agg #[.int .i64 0, .int .i64 0]) ∧ Since w w' := px_of 31 (-32) (by omega) (by omega) w
theorem al16_of2 (w : World) : Calls Tryz.prog 10 #[.agg #[.int .i64 32, .int .i64 (-33)]] w fun e w' => e = .returned (.agg #[.int .i64 1, .int .i64 (-1)]) ∧ Since w w' := px_of 32 (-33) (by omega) (by omega) w
theorem hx1 : hitB ⟨0, 0, 100, 32⟩ 1 0 = true := by kernel_rfl
theorem hx2 : hitB ⟨0, 0, 100, 32⟩ 1 1 = false := by kernel_rfl
theorem hx3 : hitB ⟨0, 0, 100, 32⟩ 2 1 = true := by kernel_rfl
theorem al16_h1 (w : World) : Calls Tryz.prog 11 #[.agg #[.int .i64 0, .int .i64 0, .int .i64 100, .int .i64 32], .agg #[.int .i64 1, .int .i64 0]] w fun e w' => e = .returned (.bool true) ∧ Since w w' := by
  have h := px_hits ⟨0, 0, 100, 32⟩ (wf_tiny16 _ _ _ _ (by decide)) 1 0 w
  rw [hx1] at h; exact h
theorem al16_h2 (w : World) : Calls Tryz.prog 11 #[.agg #[.int .i64 0, .int .i64 0, .int .i64 100, .int .i64 32], .agg #[.int .i64 1, .int .i64 1]] w fun e w' => e = .returned (.bool false) ∧ Since w w' := by
  have h := px_hits ⟨0, 0, 100, 32⟩ (wf_tiny16 _ _ _ _ (by decide)) 1 1 w
  rw [hx2] at h; exact h
theorem al16_h3 (w : World) : Calls Tryz.prog 11 #[.agg #[.int .i64 0, .int .i64 0, .int .i64 100, .int .i64 32], .agg #[.int .i64 2, .int .i64 1]] w fun e w' => e = .returned (.bool true) ∧ Since w w' := by
  have h := px_hits ⟨0, 0, 100, 32⟩ (wf_tiny16 _ _ _ _ (by decide)) 2 1 w
  rw [hx3] at h; exact h
theorem al16_same (A : Option Addr) (c : Nat) (w : World) (b : Nat) (hb : b = w.heap.size) (t : TypeId) (h : RdG 2 ptL w w.heap.size A H5) :
    Calls Tryz.prog 7 #[.slice A 5 c, .slice (some ⟨b, 0, none⟩) 5 5] (w.alloc (.cells #[.int .i64 0, .int .i64 0, .int .i64 0, .int .i64 2, .int .i64 1, .int .i64 1, .int .i64 2, .int .i64 0, .int .i64 2, .int .i64 2] t)) fun e w' => e = .returned (.bool true) ∧ Since w w' := by
  have h2 := rf_sameP A (some ⟨b, 0, none⟩) H5 c 5 (w.alloc (.cells #[.int .i64 0, .int .i64 0, .int .i64 0, .int .i64 2, .int .i64 1, .int .i64 1, .int .i64 2, .int .i64 0, .int .i64 2, .int .i64 2] t)) (h.on ((Since.refl w).alloc _)) (rdG_lit hb H5 (fun j s hj i hi => by
    have hi' : i = 0 ∨ i = 1 := by omega
    match j, hj with
    | 0, hj => simp only [H5, List.getElem?_cons_zero, Option.some.injEq] at hj; subst hj; rcases hi' with rfl | rfl <;> rfl
    | 1, hj => simp only [H5, List.getElem?_cons_zero, List.getElem?_cons_succ, Option.some.injEq] at hj; subst hj; rcases hi' with rfl | rfl <;> rfl
    | 2, hj => simp only [H5, List.getElem?_cons_zero, List.getElem?_cons_succ, Option.some.injEq] at hj; subst hj; rcases hi' with rfl | rfl <;> rfl
    | 3, hj => simp only [H5, List.getElem?_cons_zero, List.getElem?_cons_succ, Option.some.injEq] at hj; subst hj; rcases hi' with rfl | rfl <;> rfl
    | 4, hj => simp only [H5, List.getElem?_cons_zero, List.getElem?_cons_succ, Option.some.injEq] at hj; subst hj; rcases hi' with rfl | rfl <;> rfl
    | j + 5, hj => simp [H5] at hj)) (by decide)
  exact h2.mono fun e w' hh => ⟨hh.1, ((Since.refl w).alloc _).trans hh.2⟩
set_option maxRecDepth 100000 in
set_option maxHeartbeats 8000000 in
theorem alive16 (w : World) : Calls Tryz.prog 4 #[] w fun e w' => e = .returned (.bool true) ∧ Since w w' := by
  have heq := eq_pt
  have tok1 := True.intro
  have tok2 := True.intro
  have hT : Since w w := Since.refl w
  go_enter Tryz.func4, Tryz.ntmps4
  go_wp2_with (first | (go_at_call 9; (with_reducible refine (law16_line _ _ _ _ _).mono ?_); rintro e wk ⟨rfl, hSk⟩; have hT := hT.trans hSk; (try (have hR := hR.on hSk)); clear hSk) | (go_at_call 5; (with_reducible refine (al16_hot _ _ rfl _).mono ?_); rintro e wm ⟨A6, c6, rfl, hR, hSk⟩; have hT := hT.trans hSk; clear hSk) | (go_at_call 10; (with_reducible refine (al16_of1 _).mono ?_); rintro e wk ⟨rfl, hSk⟩; have hT := hT.trans hSk; have hR := hR.on hSk; clear hSk) | (go_at_call 10; (with_reducible refine (al16_of2 _).mono ?_); rintro e wk ⟨rfl, hSk⟩; have hT := hT.trans hSk; have hR := hR.on hSk; clear hSk) | (go_at_call 11; (with_reducible refine (al16_h1 _).mono ?_); rintro e wk ⟨rfl, hSk⟩; have hT := hT.trans hSk; have hR := hR.on hSk; clear hSk) | (go_at_call 11; (with_reducible refine (al16_h2 _).mono ?_); rintro e wk ⟨rfl, hSk⟩; have hT := hT.trans hSk; have hR := hR.on hSk; clear hSk) | (go_at_call 11; (with_reducible refine (al16_h3 _).mono ?_); rintro e wk ⟨rfl, hSk⟩; have hT := hT.trans hSk; have hR := hR.on hSk; clear hSk) | (go_at_call 7; (with_reducible refine (al16_same _ _ _ _ rfl _ hR).mono ?_); rintro e wk ⟨rfl, hSk⟩; have hT := hT.trans hSk; clear hSk))
  go_ret
  exact ⟨by first | rfl | simp, hT⟩
end Go.Proofs.YtckochcocflleaaGreat
