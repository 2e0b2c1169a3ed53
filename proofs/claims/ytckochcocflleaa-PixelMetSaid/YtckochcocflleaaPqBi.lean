/-
  Texts of this seat, put together: each with its own head.
-/
import Derived.Test.YtckochcocflleaaPqBh
import Derived.Deep.QuietTactic
import Derived.BigQuiet
import Derived.BigRegion

/-
  Layer 16: 'Hits', walked.
-/
namespace Go.Proofs.Ytckochcocflleaa
open Go.RowKit
set_option linter.unusedVariables false

theorem prow2x (w : World) (b : Nat) (hb : b = w.heap.size) (t : TypeId) (x y : Int) : Row (w.alloc (.cells #[.int .i64 x, .int .i64 y] t)) b 2 (Pf x y) := prow w b hb t x y
def pixG (x y : Int) : Bool := decide (-65536 ≤ x ∧ x ≤ 65536 ∧ -65536 ≤ y ∧ y ≤ 65536)
theorem pixG_iff {x y : Int} : pixG x y = true ↔ (-65536 ≤ x ∧ x ≤ 65536 ∧ -65536 ≤ y ∧ y ≤ 65536) := by unfold pixG; simp
theorem pix_lo {x y : Int} : pixG x y = (decide (hi2 x y ≤ 65536) && decide (-65536 ≤ lo2 x y)) := by
  unfold pixG hi2 lo2
  rw [Bool.eq_iff_iff]
  simp only [Bool.and_eq_true, decide_eq_true_eq]
  split <;> split <;> omega
theorem strow0 (w : World) (b : Nat) (hb : b = w.heap.size) (t : TypeId) : Row (w.alloc (.cells #[.int .i64 0, .int .i64 1, .int .i64 1, .int .i64 1, .bool false, .bool false] t)) b 6 (Stf st0) := strow w b hb t st0
theorem st0_ok : st0.ok := by unfold Stc.ok st0; simp
/-- Whether a line goes through a pixel, of any line and any pixel. -/
def hitB (l : Ln) (x y : Int) : Bool := goodB l.ax l.ay && goodB l.bx l.bz && pixG x y && hitS l.ax l.ay l.bx l.bz x y
set_option maxRecDepth 100000 in
set_option maxHeartbeats 8000000 in
theorem px_hits_no (l : Ln) (hl : l.wf) (x y : Int) (h : (goodB l.ax l.ay && goodB l.bx l.bz && pixG x y) = false) (w : World) :
    Calls Try.prog 23 #[l.v, Pt x y] w fun e w' => e = .returned (.bool false) ∧ Since w w' := by
  have hg := fun w b hb t => good2 w b hb l.ax l.ay l.bx l.bz t hl.1 hl.2
  have hN := fun w b hb t => ln_new w b hb l t
  have hmin := min2_run
  have hmax := max2_run
  unfold Ln.v Pt at *
  have HN := Lib.hid hN
  cases hG : (goodB l.ax l.ay && goodB l.bx l.bz)
  · rw [hG] at hg
    have HG := Lib.hid hg
    clear hg hN h hG hl
    go_enter Try.func23, Try.ntmps23
    go_wp2_with (go_at_call 59; (with_reducible refine (HG.out _ _ (by first | rfl | simp) _).mono ?_); rintro e w1 ⟨rfl, hS1⟩)
    go_ret
    exact ⟨by first | rfl | simp, by (repeat (first | with_reducible (exact Since.refl _) | with_reducible assumption | with_reducible (refine Since.drew ?_) | with_reducible (refine Since.drewN ?_ _) | with_reducible (refine Since.alloc ?_ _) | (with_reducible (refine Since.setCell ?_ ?_ _); rotate_left; focus (first | (simp; done) | (simp; omega) | omega)) | (with_reducible (refine Since.trans ?_ (by with_reducible assumption)))))⟩
  · rw [hG] at hg
    rw [hG, Bool.true_and, pix_lo] at h
    have HG := Lib.hid hg
    clear hg hN hG hl
    by_cases hA : hi2 x y ≤ 65536
    · by_cases hB : -65536 ≤ lo2 x y
      · simp [hA, hB] at h
      · have d1 : decide ((65536 : Int) < hi2 x y) = false := by simp; omega
        have d2 : decide (lo2 x y < (-65536 : Int)) = true := by simp; omega
        clear h hA hB
        go_enter Try.func23, Try.ntmps23
        go_wp2_with (go_at_call 59; (with_reducible refine (HG.out _ _ (by first | rfl | simp) _).mono ?_); rintro e w1 ⟨rfl, hS1⟩; have hP1 := ((prow2x _ (w.heap.size + 1) (by simp) _ x y).alloc _).since hS1; obtain ⟨c1, c2, c3⟩ := pcells hP1)
        go_ret
        exact ⟨by first | rfl | simp, by (repeat (first | with_reducible (exact Since.refl _) | with_reducible assumption | with_reducible (refine Since.drew ?_) | with_reducible (refine Since.drewN ?_ _) | with_reducible (refine Since.alloc ?_ _) | (with_reducible (refine Since.setCell ?_ ?_ _); rotate_left; focus (first | (simp; done) | (simp; omega) | omega)) | (with_reducible (refine Since.trans ?_ (by with_reducible assumption)))))⟩
    · have d1 : decide ((65536 : Int) < hi2 x y) = true := by simp; omega
      clear h hA
      go_enter Try.func23, Try.ntmps23
      go_wp2_with (go_at_call 59; (with_reducible refine (HG.out _ _ (by first | rfl | simp) _).mono ?_); rintro e w1 ⟨rfl, hS1⟩; have hP1 := ((prow2x _ (w.heap.size + 1) (by simp) _ x y).alloc _).since hS1; obtain ⟨c1, c2, c3⟩ := pcells hP1)
      go_ret
      exact ⟨by first | rfl | simp, by (repeat (first | with_reducible (exact Since.refl _) | with_reducible assumption | with_reducible (refine Since.drew ?_) | with_reducible (refine Since.drewN ?_ _) | with_reducible (refine Since.alloc ?_ _) | (with_reducible (refine Since.setCell ?_ ?_ _); rotate_left; focus (first | (simp; done) | (simp; omega) | omega)) | (with_reducible (refine Since.trans ?_ (by with_reducible assumption)))))⟩
set_option maxRecDepth 100000 in
set_option maxHeartbeats 8000000 in
theorem px_hits_ok (l : Ln) (hl : l.wf) (x y : Int) (h : (goodB l.ax l.ay && goodB l.bx l.bz && pixG x y) = true) (w : World) :
    Calls Try.prog 23 #[l.v, Pt x y] w fun e w' => e = .returned (.bool (hitS l.ax l.ay l.bx l.bz x y)) ∧ Since w w' := by
  have hg := fun w b hb t => good2 w b hb l.ax l.ay l.bx l.bz t hl.1 hl.2
  have hN := fun w b hb t => ln_new w b hb l t
  have hmin := min2_run
  have hmax := max2_run
  obtain ⟨hG, hP⟩ := Bool.and_eq_true_iff.1 h
  rw [hG] at hg
  obtain ⟨g1, g2⟩ := Bool.and_eq_true_iff.1 hG
  have i1 := goodB_iff.1 g1
  have i2 := goodB_iff.1 g2
  have i3 := pixG_iff.1 hP
  rw [pix_lo] at hP
  have hA : hi2 x y ≤ 65536 ∧ -65536 ≤ lo2 x y := by simpa using hP
  have d1 : decide ((65536 : Int) < hi2 x y) = false := by simp; omega
  have d2 : decide (lo2 x y < (-65536 : Int)) = false := by simp; omega
  have k1 := cut_ok (a := l.ax) (b := l.bx) (row := x) st0_ok (by omega) (by omega) (by omega)
  have k2 := cut_ok (a := l.ay) (b := l.bz) (row := y) k1 (by omega) (by omega) (by omega)
  have hC1 := fun w0 b w hb hS hR => px_cut w0 b st0 l.ax l.bx x st0_ok (by omega) (by omega) (by omega) w hb hS hR
  have hC2 := fun w0 b w hb hS hR => px_cut w0 b (cutS st0 l.ax l.bx x) l.ay l.bz y k1 (by omega) (by omega) (by omega) w hb hS hR
  have hE := fun b w hR => px_empty b (cutS (cutS st0 l.ax l.bx x) l.ay l.bz y) k2 w hR
  have hH : hitS l.ax l.ay l.bx l.bz x y = !empS (cutS (cutS st0 l.ax l.bx x) l.ay l.bz y) := rfl
  rw [hH]
  generalize empS (cutS (cutS st0 l.ax l.bx x) l.ay l.bz y) = E at *
  generalize cutS (cutS st0 l.ax l.bx x) l.ay l.bz y = S2 at *
  generalize cutS st0 l.ax l.bx x = S1 at *
  unfold StPost at hC1 hC2
  unfold Ln.v Pt at *
  have HN := Lib.hid hN; have HG := Lib.hid hg; have HC1 := Lib.hid hC1; have HC2 := Lib.hid hC2; have HE := Lib.hid hE
  clear hN hg hC1 hC2 hE k1 k2 i1 i2 i3 g1 g2 hG hP hA h hl hH
  have tok1 := True.intro
  go_enter Try.func23, Try.ntmps23
  go_wp2_with (first | (go_at_call 59; (with_reducible refine (HG.out _ _ (by first | rfl | simp) _).mono ?_); rintro e w1 ⟨rfl, hS1⟩; have hP1 := ((prow2x _ (w.heap.size + 1) (by simp) _ x y).alloc _).since hS1; have hL1 := (((HN.out w _ rfl _).alloc _).alloc _).since hS1; have hT1 : Since w w1 := (by (repeat (first | with_reducible (exact Since.refl _) | with_reducible assumption | with_reducible (refine Since.drew ?_) | with_reducible (refine Since.drewN ?_ _) | with_reducible (refine Since.alloc ?_ _) | (with_reducible (refine Since.setCell ?_ ?_ _); rotate_left; focus (first | (simp; done) | (simp; omega) | omega)) | (with_reducible (refine Since.trans ?_ (by with_reducible assumption)))))); clear hS1; obtain ⟨c1, c2, c3⟩ := pcells hP1; obtain ⟨l1, l2, l3, l4, l5⟩ := id hL1) | (go_at_call 60; have _t := tok1; (with_reducible refine (HC1.out w1 w1.heap.size _ (Nat.le_refl _) ((Since.refl _).alloc _) (strow0 w1 _ rfl _)).mono ?_); rintro e w2 ⟨⟨v2, rfl⟩, hR2, hS2, hK2⟩; clear tok1; have hP2 := hP1.since hS2; have hL2 := hL1.since hS2; clear c1 c2 c3 l1 l2 l3 l4 l5; obtain ⟨c1, c2, c3⟩ := pcells hP2; obtain ⟨l1, l2, l3, l4, l5⟩ := id hL2) | (go_at_call 60; (with_reducible refine (HC2.out w1 w1.heap.size w2 (Nat.le_refl _) hS2 hR2).mono ?_); rintro e w3 ⟨⟨v3, rfl⟩, hR3, hS3, hK3⟩; clear c1 c2 c3 l1 l2 l3 l4 l5) | (go_at_call 61; (with_reducible refine (HE.out _ _ hR3).mono ?_); rintro e w4 ⟨rfl, hS4⟩; have hT4 : Since w w4 := (hT1.trans hS3).trans hS4))
  go_ret
  exact ⟨by first | rfl | simp, hT4⟩
theorem px_hits (l : Ln) (hl : l.wf) (x y : Int) (w : World) : Calls Try.prog 23 #[l.v, Pt x y] w fun e w' => e = .returned (.bool (hitB l x y)) ∧ Since w w' := by
  unfold hitB
  cases h : (goodB l.ax l.ay && goodB l.bx l.bz && pixG x y)
  · exact px_hits_no l hl x y h w
  · exact px_hits_ok l hl x y h w
end Go.Proofs.Ytckochcocflleaa

/-
  Layer 14: the reference's 'Same', of the same points.
-/
namespace Go.Proofs.Ytckochcocflleaa
open Go.RowKit Go.ChangeShapes Go.WideShapes Go.Deep
set_option linter.unusedVariables false

set_option maxRecDepth 100000 in
set_option maxHeartbeats 8000000 in
theorem rf_sameP (A B : Option Addr) (L : List Pq) (c d : Nat) (w : World) (h1 : RdG 2 ptL w w.heap.size A L) (h2 : RdG 2 ptL w w.heap.size B L) (hn : L.length ≤ maxLen) :
    Calls Try.prog 41 #[.slice A L.length c, .slice B L.length d] w fun e w' => e = .returned (.bool true) ∧ Since w w' := by
  have hn' : (L.length : Int) ≤ 9223372036854775807 := by simp only [maxLen] at hn; omega
  obtain ⟨n, hnn⟩ : ∃ n, n = L.length := ⟨_, rfl⟩
  rw [← hnn] at hn' ⊢
  have HN := Lib.hid hnn
  clear hnn
  go_enter Try.func41, Try.ntmps41
  go_wp2
  go_loopw [13] (fun y wr => ∃ j : Nat, j ≤ n ∧ y = .int .i64 (j : Int) ∧ Since w wr) (fun y _ => n - (intOf y).toNat)
  case atStart => exact ⟨0, by omega, rfl, Since.refl _⟩
  case round =>
    obtain ⟨j, hj, rfl, hSr⟩ := hrel
    by_cases hjn : j < n
    · have hjn' : (j : Int) < n := by omega
      have hnn := HN.out
      obtain ⟨b, o, rfl, hb, hc⟩ := h1 (by omega)
      obtain ⟨b', o', rfl, hb', hc'⟩ := h2 (by omega)
      obtain ⟨p, hp⟩ : ∃ p, L[j]? = some p := ⟨_, List.getElem?_eq_getElem (by omega)⟩
      obtain ⟨x, y⟩ := p
      have c1 := (hSr.1 _ _ hb).trans (hc j _ hp 0 (by omega))
      have c2 := (hSr.1 _ _ hb).trans (hc j _ hp 1 (by omega))
      have e1 := (hSr.1 _ _ hb').trans (hc' j _ hp 0 (by omega))
      have e2 := (hSr.1 _ _ hb').trans (hc' j _ hp 1 (by omega))
      simp only [ptL, List.getD_cons_succ, List.getD_cons_zero, Nat.add_zero] at c1 c2 e1 e2
      have hj0 : (0 : Int) ≤ j := by omega
      clear hc hc' h1 h2 hnn hp
      go_wp2_with fail
      go_quiet (fail)
      go_wp2
      refine ⟨⟨j + 1, by omega, by simp, by (repeat (first | with_reducible (exact Since.refl _) | with_reducible assumption | with_reducible (refine Since.drew ?_) | with_reducible (refine Since.drewN ?_ _) | with_reducible (refine Since.alloc ?_ _) | (with_reducible (refine Since.setCell ?_ ?_ _); rotate_left; focus (first | (simp; done) | (simp; omega) | omega)) | (with_reducible (refine Since.trans ?_ (by with_reducible assumption)))))⟩, by simp [intOf]; omega⟩
    · obtain rfl : j = n := by omega
      clear h1 h2
      go_wp2
      go_ret
      exact ⟨rfl, hSr⟩
end Go.Proofs.Ytckochcocflleaa

/-
  Layer 16: the document's examples.
-/
namespace Go.Proofs.Ytckochcocflleaa
open Go.RowKit
set_option linter.unusedVariables false

abbrev l1x : Ln := ⟨0, 0, 128, 128⟩
abbrev l2x : Ln := ⟨0, 128, 128, 0⟩
abbrev two16 : List Ln := [l1x, l2x]
def H5 : List Pq := [⟨0, 0⟩, ⟨0, 2⟩, ⟨1, 1⟩, ⟨2, 0⟩, ⟨2, 2⟩]
theorem wf_tiny16 (a b c d : Int) (h : -1000 ≤ a ∧ a ≤ 1000 ∧ -1000 ≤ b ∧ b ≤ 1000 ∧ -1000 ≤ c ∧ c ≤ 1000 ∧ -1000 ≤ d ∧ d ≤ 1000) : (⟨a, b, c, d⟩ : Ln).wf := by
  unfold Ln.wf InP In64
  simp only
  omega
theorem m11 : (meetCp l1x l1x).k = 2 := by kernel_rfl
theorem m22 : (meetCp l2x l2x).k = 2 := by kernel_rfl
theorem m12 : (meetCp l1x l2x).k = 1 := by kernel_rfl
theorem m21 : (meetCp l2x l1x).k = 1 := by kernel_rfl
theorem p12 : (pixX (meetCp l1x l2x), pixY (meetCp l1x l2x)) = (1, 1) := by kernel_rfl
theorem p21 : (pixX (meetCp l2x l1x), pixY (meetCp l2x l1x)) = (1, 1) := by kernel_rfl
theorem a1 : pxA l1x = (0, 0) := by kernel_rfl
theorem b1 : pxB l1x = (2, 2) := by kernel_rfl
theorem a2 : pxA l2x = (0, 2) := by kernel_rfl
theorem b2 : pxB l2x = (2, 0) := by kernel_rfl
theorem hot5 : HotL two16 H5 := by
  refine ⟨?_, fun p => ?_⟩
  · unfold H5 LtP
    simp
  · have hm : p ∈ H5 ↔ (p.x, p.y) = ((0, 0) : Int × Int) ∨ (p.x, p.y) = ((0, 2) : Int × Int) ∨ (p.x, p.y) = ((1, 1) : Int × Int) ∨ (p.x, p.y) = ((2, 0) : Int × Int) ∨ (p.x, p.y) = ((2, 2) : Int × Int) := by
      obtain ⟨x, y⟩ := p
      unfold H5
      simp
    rw [hm]
    constructor
    · rintro (h | h | h | h | h) <;> rw [h]
      · exact .inl ⟨l1x, by simp, .inl a1.symm⟩
      · exact .inl ⟨l2x, by simp, .inl a2.symm⟩
      · exact .inr ⟨l1x, by simp, l2x, by simp, m12, p12.symm⟩
      · exact .inl ⟨l2x, by simp, .inr b2.symm⟩
      · exact .inl ⟨l1x, by simp, .inr b1.symm⟩
    · rintro (⟨l, hl, h⟩ | ⟨s, hs, t, ht, hk, h⟩)
      · simp only [List.mem_cons, List.not_mem_nil, or_false] at hl
        rcases hl with rfl | rfl
        · rw [a1, b1] at h
          rcases h with h | h
          · exact .inl h
          · exact .inr (.inr (.inr (.inr h)))
        · rw [a2, b2] at h
          rcases h with h | h
          · exact .inr (.inl h)
          · exact .inr (.inr (.inr (.inl h)))
      · simp only [List.mem_cons, List.not_mem_nil, or_false] at hs ht
        rcases hs with rfl | rfl <;> rcases ht with rfl | rfl
        · rw [m11] at hk; cases hk
        · rw [p12] at h; exact .inr (.inr (.inl h))
        · rw [p21] at h; exact .inr (.inr (.inl h))
        · rw [m22] at hk; cases hk
theorem law16_line (a b c d : Int) (w : World) : Calls Try.prog 27 #[.int .i64 a, .int .i64 b, .int .i64 c, .int .i64 d] w fun e w' => e = .returned (.agg #[.int .i64 a, .int .i64 b, .int .i64 c, .int .i64 d]) ∧ Since w w' := by
  go_enter Try.func27, Try.ntmps27
  go_wp2
  refine bodyPost_ret (by simp only [results, Try.results27]; go_simp) rfl ⟨rfl, ?_⟩
  (repeat (first | with_reducible (exact Since.refl _) | with_reducible assumption | with_reducible (refine Since.drew ?_) | with_reducible (refine Since.drewN ?_ _) | with_reducible (refine Since.alloc ?_ _) | (with_reducible (refine Since.setCell ?_ ?_ _); rotate_left; focus (first | (simp; done) | (simp; omega) | omega)) | (with_reducible (refine Since.trans ?_ (by with_reducible assumption)))))
theorem al16_hot (w : World) (b : Nat) (hb : b = w.heap.size) (t : TypeId) : Calls Try.prog 29 #[.slice (some ⟨b, 0, none⟩) 2 2] (w.alloc (.cells #[.int .i64 0, .int .i64 0, .int .i64 128, .int .i64 128, .int .i64 0, .int .i64 128, .int .i64 128, .int .i64 0] t)) fun e w' => ∃ A c, e = .returned (.tuple #[.slice A 5 c, .int .i64 0]) ∧ RdG 2 ptL w' w'.heap.size A H5 ∧ Since w w' := by
  have hr : RdG 4 lnE (w.alloc (.cells #[.int .i64 0, .int .i64 0, .int .i64 128, .int .i64 128, .int .i64 0, .int .i64 128, .int .i64 128, .int .i64 0] t)) (w.alloc (.cells #[.int .i64 0, .int .i64 0, .int .i64 128, .int .i64 128, .int .i64 0, .int .i64 128, .int .i64 128, .int .i64 0] t)).heap.size (some ⟨b, 0, none⟩) two16 := rdG_lit hb two16 (fun j s hj i hi => by
    have hi' : i = 0 ∨ i = 1 ∨ i = 2 ∨ i = 3 := by omega
    match j, hj with
    | 0, hj => simp only [List.getElem?_cons_zero, Option.some.injEq] at hj; subst hj; rcases hi' with rfl | rfl | rfl | rfl <;> rfl
    | 1, hj => simp only [List.getElem?_cons_zero, List.getElem?_cons_succ, Option.some.injEq] at hj; subst hj; rcases hi' with rfl | rfl | rfl | rfl <;> rfl
    | j + 2, hj => simp at hj)
  refine (px_hot (some ⟨b, 0, none⟩) 2 two16 _ hr (fun l hl => by
    simp only [List.mem_cons, List.not_mem_nil, or_false] at hl
    rcases hl with rfl | rfl <;> exact wf_tiny16 _ _ _ _ (by decide))).mono ?_
  rintro e w' ⟨hS, h⟩
  rcases h with ⟨h, _⟩ | ⟨_, ⟨l, hl, hg⟩, _⟩ | ⟨_, _, v, H, rfl, hO, hH⟩
  · simp at h
  · simp only [List.mem_cons, List.not_mem_nil, or_false] at hl
    rcases hl with rfl | rfl <;> (exfalso; revert hg; decide)
  · rw [hotL_same hH hot5] at hO
    obtain ⟨A, c, rfl, hc, hr2⟩ := OwnG.rd (by omega) ptL_len hO
    exact ⟨A, c, rfl, hr2, ((Since.refl w).alloc _).trans hS⟩
theorem al16_of1 (w : World) : Calls Try.prog 20 #[.agg #[.int .i64 31, .int .i64 (-32)]] w fun e w' => e = .returned (.agg #[.int .i64 0, .int .i64 0]) ∧ Since w w' := px_of 31 (-32) (by omega) (by omega) w
theorem al16_of2 (w : World) : Calls Try.prog 20 #[.agg #[.int .i64 32, .int .i64 (-33)]] w fun e w' => e = .returned (.agg #[.int .i64 1, .int .i64 (-1)]) ∧ Since w w' := px_of 32 (-33) (by omega) (by omega) w
theorem hx1 : hitB ⟨0, 0, 100, 32⟩ 1 0 = true := by kernel_rfl
theorem hx2 : hitB ⟨0, 0, 100, 32⟩ 1 1 = false := by kernel_rfl
theorem hx3 : hitB ⟨0, 0, 100, 32⟩ 2 1 = true := by kernel_rfl
theorem al16_h1 (w : World) : Calls Try.prog 23 #[.agg #[.int .i64 0, .int .i64 0, .int .i64 100, .int .i64 32], .agg #[.int .i64 1, .int .i64 0]] w fun e w' => e = .returned (.bool true) ∧ Since w w' := by
  have h := px_hits ⟨0, 0, 100, 32⟩ (wf_tiny16 _ _ _ _ (by decide)) 1 0 w
  rw [hx1] at h; exact h
theorem al16_h2 (w : World) : Calls Try.prog 23 #[.agg #[.int .i64 0, .int .i64 0, .int .i64 100, .int .i64 32], .agg #[.int .i64 1, .int .i64 1]] w fun e w' => e = .returned (.bool false) ∧ Since w w' := by
  have h := px_hits ⟨0, 0, 100, 32⟩ (wf_tiny16 _ _ _ _ (by decide)) 1 1 w
  rw [hx2] at h; exact h
theorem al16_h3 (w : World) : Calls Try.prog 23 #[.agg #[.int .i64 0, .int .i64 0, .int .i64 100, .int .i64 32], .agg #[.int .i64 2, .int .i64 1]] w fun e w' => e = .returned (.bool true) ∧ Since w w' := by
  have h := px_hits ⟨0, 0, 100, 32⟩ (wf_tiny16 _ _ _ _ (by decide)) 2 1 w
  rw [hx3] at h; exact h
theorem al16_same (A : Option Addr) (c : Nat) (w : World) (b : Nat) (hb : b = w.heap.size) (t : TypeId) (h : RdG 2 ptL w w.heap.size A H5) :
    Calls Try.prog 41 #[.slice A 5 c, .slice (some ⟨b, 0, none⟩) 5 5] (w.alloc (.cells #[.int .i64 0, .int .i64 0, .int .i64 0, .int .i64 2, .int .i64 1, .int .i64 1, .int .i64 2, .int .i64 0, .int .i64 2, .int .i64 2] t)) fun e w' => e = .returned (.bool true) ∧ Since w w' := by
  have h2 := rf_sameP A (some ⟨b, 0, none⟩) H5 c 5 (w.alloc (.cells #[.int .i64 0, .int .i64 0, .int .i64 0, .int .i64 2, .int .i64 1, .int .i64 1, .int .i64 2, .int .i64 0, .int .i64 2, .int .i64 2] t)) (h.on ((Since.refl w).alloc _)) (rdG_lit hb H5 (fun j s hj i hi => by
    have hi' : i = 0 ∨ i = 1 := by omega
    match j, hj with
    | 0, hj => simp only [H5, List.getElem?_cons_zero, Option.some.injEq] at hj; subst hj; rcases hi' with rfl | rfl <;> rfl
    | 1, hj => simp only [H5, List.getElem?_cons_zero, List.getElem?_cons_succ, Option.some.injEq] at hj; subst hj; rcases hi' with rfl | rfl <;> rfl
    | 2, hj => simp only [H5, List.getElem?_cons_zero, List.getElem?_cons_succ, Option.some.injEq] at hj; subst hj; rcases hi' with rfl | rfl <;> rfl
    | 3, hj => simp only [H5, List.getElem?_cons_zero, List.getElem?_cons_succ, Option.some.injEq] at hj; subst hj; rcases hi' with rfl | rfl <;> rfl
    | 4, hj => simp only [H5, List.getElem?_cons_zero, List.getElem?_cons_succ, Option.some.injEq] at hj; subst hj; rcases hi' with rfl | rfl <;> rfl
    | j + 5, hj => simp [H5] at hj)) (by decide)
  exact h2.mono fun e w' hh => ⟨hh.1, ((Since.refl w).alloc _).trans hh.2⟩
set_option maxRecDepth 100000 in
set_option maxHeartbeats 8000000 in
theorem alive16 (w : World) : Calls Try.prog 19 #[] w fun e w' => e = .returned (.bool true) ∧ Since w w' := by
  have heq := eq_pt
  have tok1 := True.intro
  have tok2 := True.intro
  have hT : Since w w := Since.refl w
  go_enter Try.func19, Try.ntmps19
  go_wp2_with (first | (go_at_call 27; (with_reducible refine (law16_line _ _ _ _ _).mono ?_); rintro e wk ⟨rfl, hSk⟩; have hT := hT.trans hSk; (try (have hR := hR.on hSk)); clear hSk) | (go_at_call 29; (with_reducible refine (al16_hot _ _ rfl _).mono ?_); rintro e wm ⟨A6, c6, rfl, hR, hSk⟩; have hT := hT.trans hSk; clear hSk) | (go_at_call 20; (with_reducible refine (al16_of1 _).mono ?_); rintro e wk ⟨rfl, hSk⟩; have hT := hT.trans hSk; have hR := hR.on hSk; clear hSk) | (go_at_call 20; (with_reducible refine (al16_of2 _).mono ?_); rintro e wk ⟨rfl, hSk⟩; have hT := hT.trans hSk; have hR := hR.on hSk; clear hSk) | (go_at_call 23; (with_reducible refine (al16_h1 _).mono ?_); rintro e wk ⟨rfl, hSk⟩; have hT := hT.trans hSk; have hR := hR.on hSk; clear hSk) | (go_at_call 23; (with_reducible refine (al16_h2 _).mono ?_); rintro e wk ⟨rfl, hSk⟩; have hT := hT.trans hSk; have hR := hR.on hSk; clear hSk) | (go_at_call 23; (with_reducible refine (al16_h3 _).mono ?_); rintro e wk ⟨rfl, hSk⟩; have hT := hT.trans hSk; have hR := hR.on hSk; clear hSk) | (go_at_call 41; (with_reducible refine (al16_same _ _ _ _ rfl _ hR).mono ?_); rintro e wk ⟨rfl, hSk⟩; have hT := hT.trans hSk; clear hSk))
  go_ret
  exact ⟨by first | rfl | simp, hT⟩
end Go.Proofs.Ytckochcocflleaa

/-
  Layer 16: the document's 'above', 'later', 'sooner', 'clip', walked.
-/
namespace Go.Proofs.Ytckochcocflleaa
open Go.RowKit
set_option linter.unusedVariables false

def Shr.v (s : Shr) : Value := .agg #[.int .i64 s.n, .int .i64 s.d, .bool s.o]
def Shr.ok (s : Shr) : Prop := (-8400000 ≤ s.n ∧ s.n ≤ 8400000) ∧ 1 ≤ s.d ∧ s.d ≤ 8400000
theorem shr_mul {n d : Int} (hn : -8400000 ≤ n ∧ n ≤ 8400000) (hd : 1 ≤ d ∧ d ≤ 8400000) : -70560000000000 ≤ n * d ∧ n * d ≤ 70560000000000 := by
  have h1 : n * d ≤ 8400000 * d := Int.mul_le_mul_of_nonneg_right hn.2 (by omega)
  have h2 : -8400000 * d ≤ n * d := Int.mul_le_mul_of_nonneg_right hn.1 (by omega)
  omega
theorem sgn_cmp (x y : Int) : sgnI (x - y) = cmpI x y := by
  unfold sgnI cmpI
  split <;> split <;> (try split) <;> (try split) <;> omega
theorem lat_ok {a b : Shr} (ha : a.ok) (hb : b.ok) : (latS a b).ok := by unfold latS; split <;> assumption
theorem soo_ok {a b : Shr} (ha : a.ok) (hb : b.ok) : (sooS a b).ok := by unfold sooS; split <;> assumption
def Sgf (s : Shr) (j : Nat) : Value := if j = 0 then .int .i64 s.n else if j = 1 then .int .i64 s.d else .bool s.o
theorem sgrow (w : World) (b : Nat) (hb : b = w.heap.size) (t : TypeId) (n d : Int) (o : Bool) : Row (w.alloc (.cells #[.int .i64 n, .int .i64 d, .bool o] t)) b 3 (Sgf ⟨n, d, o⟩) := by
  subst hb
  refine Row.of_cells fun j hj => ?_
  have h : j = 0 ∨ j = 1 ∨ j = 2 := by omega
  rcases h with rfl | rfl | rfl <;> rfl
theorem sgcells {w : World} {b : Nat} {s : Shr} (h : Row w b 3 (Sgf s)) : w.cell? ⟨b, 0, none⟩ = some (.int .i64 s.n) ∧ w.cell? ⟨b, 1, none⟩ = some (.int .i64 s.d) ∧ w.cell? ⟨b, 2, none⟩ = some (.bool s.o) ∧ b < w.heap.size := ⟨h.1 0 (by omega), h.1 1 (by omega), h.1 2 (by omega), h.2.2⟩
set_option maxHeartbeats 2000000 in
theorem rf_above (a b : Shr) (ha : a.ok) (hb : b.ok) (w : World) :
    Calls Try.prog 63 #[a.v, b.v] w fun e w' => e = .returned (.int .i64 (abvS a b)) ∧ Since w w' := by
  have h1 := shr_mul ha.1 hb.2
  have h2 := shr_mul hb.1 ha.2
  have hs := fun w => rf_sign (a.n * b.d - b.n * a.d) (by unfold In64; omega) w
  rw [sgn_cmp] at hs
  unfold abvS Shr.v
  have u1 : IntKind.i64.wrap (a.n * b.d) = a.n * b.d := IntWalk.i64_in _ (by omega)
  have u2 : IntKind.i64.wrap (b.n * a.d) = b.n * a.d := IntWalk.i64_in _ (by omega)
  have u3 : IntKind.i64.wrap (a.n * b.d - b.n * a.d) = a.n * b.d - b.n * a.d := IntWalk.i64_in _ (by omega)
  have HS := Lib.hid hs
  clear hs h1 h2 ha hb
  go_enter Try.func63, Try.ntmps63
  go_wp2_with (go_at_call 87; (with_reducible refine (HS.out _).mono ?_); rintro e w1 ⟨rfl, hS1⟩)
  go_ret
  exact ⟨rfl, by (repeat (first | with_reducible (exact Since.refl _) | with_reducible assumption | with_reducible (refine Since.drew ?_) | with_reducible (refine Since.drewN ?_ _) | with_reducible (refine Since.alloc ?_ _) | (with_reducible (refine Since.setCell ?_ ?_ _); rotate_left; focus (first | (simp; done) | (simp; omega) | omega)) | (with_reducible (refine Since.trans ?_ (by with_reducible assumption)))))⟩
set_option maxRecDepth 100000 in
set_option maxHeartbeats 4000000 in
theorem rf_later (a b : Shr) (ha : a.ok) (hb : b.ok) (w : World) :
    Calls Try.prog 85 #[a.v, b.v] w fun e w' => e = .returned (latS a b).v ∧ Since w w' := by
  have hA := fun w => rf_above a b ha hb w
  have hD : latS a b = if 0 < abvS a b ∨ (abvS a b = 0 ∧ a.o = true) then a else b := rfl
  have hcs := cmp_is (a.n * b.d) (b.n * a.d)
  change (abvS a b = -1 ∧ _) ∨ (abvS a b = 0 ∧ _) ∨ (abvS a b = 1 ∧ _) at hcs
  clear ha hb
  obtain ⟨an, ad, ao⟩ := a
  obtain ⟨bn, bd, bo⟩ := b
  rcases hcs with ⟨e, _⟩ | ⟨e, _⟩ | ⟨e, _⟩ <;> cases ao
  all_goals
    rw [e] at hA hD
    simp at hD
    rw [hD]
    unfold Shr.v at *
    simp only at hA
    have HA := Lib.hid hA
    clear hA hD e
    go_enter Try.func85, Try.ntmps85
    go_wp2_with (go_at_call 63; (with_reducible refine (HA.out _).mono ?_); rintro e w1 ⟨rfl, hS1⟩; have hA1 := (((sgrow w _ rfl _ an ad _).alloc _).alloc _).since hS1; have hB1 := ((sgrow (w.alloc _) (w.heap.size + 1) (by simp) _ bn bd bo).alloc _).since hS1; have hZ1 := (sgrow ((w.alloc _).alloc _) (w.heap.size + 1 + 1) (by simp) _ 0 0 false).since hS1; obtain ⟨c1, c2, c3, c4⟩ := sgcells hA1; obtain ⟨d1, d2, d3, d4⟩ := sgcells hB1; obtain ⟨e1, e2, e3, e4⟩ := sgcells hZ1; have eF := hZ1.2.1)
    refine bodyPost_ret (by simp only [results, Try.results85]; go_simp) rfl ⟨rfl, ?_⟩
    (repeat (first | with_reducible (exact Since.refl _) | with_reducible assumption | with_reducible (refine Since.drew ?_) | with_reducible (refine Since.drewN ?_ _) | with_reducible (refine Since.alloc ?_ _) | (with_reducible (refine Since.setCell ?_ ?_ _); rotate_left; focus (first | (simp; done) | (simp; omega) | omega)) | (with_reducible (refine Since.trans ?_ (by with_reducible assumption)))))
set_option maxRecDepth 100000 in
set_option maxHeartbeats 4000000 in
theorem rf_sooner (a b : Shr) (ha : a.ok) (hb : b.ok) (w : World) :
    Calls Try.prog 86 #[a.v, b.v] w fun e w' => e = .returned (sooS a b).v ∧ Since w w' := by
  have hA := fun w => rf_above a b ha hb w
  have hD : sooS a b = if abvS a b < 0 ∨ (abvS a b = 0 ∧ a.o = true) then a else b := rfl
  have hcs := cmp_is (a.n * b.d) (b.n * a.d)
  change (abvS a b = -1 ∧ _) ∨ (abvS a b = 0 ∧ _) ∨ (abvS a b = 1 ∧ _) at hcs
  clear ha hb
  obtain ⟨an, ad, ao⟩ := a
  obtain ⟨bn, bd, bo⟩ := b
  rcases hcs with ⟨e, _⟩ | ⟨e, _⟩ | ⟨e, _⟩ <;> cases ao
  all_goals
    rw [e] at hA hD
    simp at hD
    rw [hD]
    unfold Shr.v at *
    simp only at hA
    have HA := Lib.hid hA
    clear hA hD e
    go_enter Try.func86, Try.ntmps86
    go_wp2_with (go_at_call 63; (with_reducible refine (HA.out _).mono ?_); rintro e w1 ⟨rfl, hS1⟩; have hA1 := (((sgrow w _ rfl _ an ad _).alloc _).alloc _).since hS1; have hB1 := ((sgrow (w.alloc _) (w.heap.size + 1) (by simp) _ bn bd bo).alloc _).since hS1; have hZ1 := (sgrow ((w.alloc _).alloc _) (w.heap.size + 1 + 1) (by simp) _ 0 0 false).since hS1; obtain ⟨c1, c2, c3, c4⟩ := sgcells hA1; obtain ⟨d1, d2, d3, d4⟩ := sgcells hB1; obtain ⟨e1, e2, e3, e4⟩ := sgcells hZ1; have eF := hZ1.2.1)
    refine bodyPost_ret (by simp only [results, Try.results86]; go_simp) rfl ⟨rfl, ?_⟩
    (repeat (first | with_reducible (exact Since.refl _) | with_reducible assumption | with_reducible (refine Since.drew ?_) | with_reducible (refine Since.drewN ?_ _) | with_reducible (refine Since.alloc ?_ _) | (with_reducible (refine Since.setCell ?_ ?_ _); rotate_left; focus (first | (simp; done) | (simp; omega) | omega)) | (with_reducible (refine Since.trans ?_ (by with_reducible assumption)))))
end Go.Proofs.Ytckochcocflleaa

/-
  Layer 16: the document's 'clip', 'Hits', 'Of', 'Good', walked.
-/
namespace Go.Proofs.Ytckochcocflleaa
open Go.RowKit
set_option linter.unusedVariables false

set_option maxHeartbeats 2000000 in
theorem rf16_good (x y : Int) (w : World) : Calls Try.prog 25 #[Pt x y] w fun e w' => e = .returned (.bool (pixG x y)) ∧ Since w w' := by
  unfold Pt
  by_cases hy : y ≤ 65536
  all_goals
    go_enter Try.func25, Try.ntmps25
    go_wp2
    all_goals
      go_ret
      refine ⟨?_, by (repeat (first | with_reducible (exact Since.refl _) | with_reducible assumption | with_reducible (refine Since.drew ?_) | with_reducible (refine Since.drewN ?_ _) | with_reducible (refine Since.alloc ?_ _) | (with_reducible (refine Since.setCell ?_ ?_ _); rotate_left; focus (first | (simp; done) | (simp; omega) | omega)) | (with_reducible (refine Since.trans ?_ (by with_reducible assumption)))))⟩
      first
        | (rw [show pixG x y = true from pixG_iff.2 (by simp_all)]; simp_all; done)
        | (rw [show pixG x y = false by (unfold pixG; rw [decide_eq_false_iff_not]; simp_all; try omega)]; simp_all; done)
theorem tdiv64 (n : Int) : (0 ≤ n ∧ n.tdiv 64 = n / 64 ∧ n.tmod 64 = n % 64) ∨ (n < 0 ∧ n.tdiv 64 = -(-n / 64) ∧ n.tmod 64 = -(-n % 64)) := by
  rcases Int.lt_or_le n 0 with h | h
  · right
    refine ⟨h, ?_, ?_⟩
    · have e : n = -(-n) := by omega
      rw [e, Int.neg_tdiv, Int.tdiv_eq_ediv_of_nonneg (by omega)]; simp
    · have e : n = -(-n) := by omega
      rw [e, Int.neg_tmod, Int.tmod_eq_emod_of_nonneg (by omega)]; simp
  · left
    exact ⟨h, Int.tdiv_eq_ediv_of_nonneg h, Int.tmod_eq_emod_of_nonneg h⟩
set_option maxHeartbeats 2000000 in
theorem rf_down64 (n : Int) (hn : -9223372036854775808 ≤ n ∧ n ≤ 9223372036854775807) (w : World) : Calls Try.prog 58 #[.int .i64 n, .int .i64 64] w fun e w' => e = .returned (.int .i64 (n / 64)) ∧ Since w w' := by
  have ht := tdiv64 n
  by_cases h : n.tmod 64 < 0
  · have e : n / 64 = n.tdiv 64 - 1 := by omega
    rw [e]
    have d : decide (n.tmod 64 < 0) = true := by simp [h]
    have u1 : IntKind.i64.wrap (n.tdiv 64) = n.tdiv 64 := IntWalk.i64_in _ (by omega)
    have u2 : IntKind.i64.wrap (n.tmod 64) = n.tmod 64 := IntWalk.i64_in _ (by omega)
    have u3 : IntKind.i64.wrap (n.tdiv 64 - 1) = n.tdiv 64 - 1 := IntWalk.i64_in _ (by omega)
    have u4 : wrap64 (n.tdiv 64) = n.tdiv 64 := by unfold wrap64; omega
    clear e h ht
    go_enter Try.func58, Try.ntmps58
    go_wp2
    go_ret
    exact ⟨by first | rfl | simp, by (repeat (first | with_reducible (exact Since.refl _) | with_reducible assumption | with_reducible (refine Since.drew ?_) | with_reducible (refine Since.drewN ?_ _) | with_reducible (refine Since.alloc ?_ _) | (with_reducible (refine Since.setCell ?_ ?_ _); rotate_left; focus (first | (simp; done) | (simp; omega) | omega)) | (with_reducible (refine Since.trans ?_ (by with_reducible assumption)))))⟩
  · have e : n / 64 = n.tdiv 64 := by omega
    rw [e]
    have d : decide (n.tmod 64 < 0) = false := by simp; omega
    have u1 : IntKind.i64.wrap (n.tdiv 64) = n.tdiv 64 := IntWalk.i64_in _ (by omega)
    have u2 : IntKind.i64.wrap (n.tmod 64) = n.tmod 64 := IntWalk.i64_in _ (by omega)
    have u4 : wrap64 (n.tdiv 64) = n.tdiv 64 := by unfold wrap64; omega
    clear e h ht
    go_enter Try.func58, Try.ntmps58
    go_wp2
    go_ret
    exact ⟨by first | rfl | simp, by (repeat (first | with_reducible (exact Since.refl _) | with_reducible assumption | with_reducible (refine Since.drew ?_) | with_reducible (refine Since.drewN ?_ _) | with_reducible (refine Since.alloc ?_ _) | (with_reducible (refine Since.setCell ?_ ?_ _); rotate_left; focus (first | (simp; done) | (simp; omega) | omega)) | (with_reducible (refine Since.trans ?_ (by with_reducible assumption)))))⟩
set_option maxHeartbeats 4000000 in
theorem rf16_of (x y : Int) (hx : -9223372036854775808 ≤ x ∧ x ≤ 9223372036854775775) (hy : -9223372036854775808 ≤ y ∧ y ≤ 9223372036854775775) (w : World) :
    Calls Try.prog 21 #[Pt x y] w fun e w' => e = .returned (Pt (pxI x) (pxI y)) ∧ Since w w' := by
  have u1 : IntKind.i64.wrap (x + 32) = x + 32 := IntWalk.i64_in _ (by omega)
  have u2 : IntKind.i64.wrap (y + 32) = y + 32 := IntWalk.i64_in _ (by omega)
  have h1 := fun w => rf_down64 (x + 32) (by omega) w
  have h2 := fun w => rf_down64 (y + 32) (by omega) w
  unfold Pt pxI
  generalize (x + 32) / 64 = P at *
  generalize (y + 32) / 64 = Q at *
  have H1 := Lib.hid h1; have H2 := Lib.hid h2
  clear h1 h2
  go_enter Try.func21, Try.ntmps21
  go_upto_region 1 with fail
  (refine wp_named fun wr1 hwr1 => ?_; go_region_held3 (fun w' => (∀ b o, b < (w.heap.size + 1) → w'.cell? ⟨b, o, none⟩ = wr1.cell? ⟨b, o, none⟩) ∧ (∀ b o, b < wr1.heap.size → w'.frozen? ⟨b, o, none⟩ = wr1.frozen? ⟨b, o, none⟩) ∧ (∀ k, k < wr1.heap.size → k < w'.heap.size) ∧ Below ((w.heap.size + 1)) wr1 w' ∧ (∀ o, o < 2 → w'.cell? ⟨(w.heap.size + 1), o, none⟩ = some (cellD w' ((w.heap.size + 1)) o))) ((subst hwr1; (repeat with_reducible (refine sr_set ?_ _ _)); first | assumption | (refine sr_step (by first | assumption | omega | (simp; done) | (simp; omega)) (by assumption) ?_; first | assumption | (repeat (first | with_reducible (exact Since.refl _) | with_reducible assumption | with_reducible (refine Since.drew ?_) | with_reducible (refine Since.drewN ?_ _) | with_reducible (refine Since.alloc ?_ _) | (with_reducible (refine Since.setCell ?_ ?_ _); rotate_left; focus (first | (simp; done) | (simp; omega) | omega))))) | (refine sr_step (by first | assumption | omega | (simp; done) | (simp; omega)) (sr_start (fun o ho => by (have ho' : o = 0 ∨ o = 1 := by omega); rcases ho' with rfl | rfl <;> (first | (simp [go_sem]; done) | simp_all))) ?_; first | assumption | (repeat (first | with_reducible (exact Since.refl _) | with_reducible assumption | with_reducible (refine Since.drew ?_) | with_reducible (refine Since.drewN ?_ _) | with_reducible (refine Since.alloc ?_ _) | (with_reducible (refine Since.setCell ?_ ?_ _); rotate_left; focus (first | (simp; done) | (simp; omega) | omega))))))) (first | (go_at_call 58; (with_reducible refine (H1.out _).mono ?_); rintro e w1 ⟨rfl, hS⟩; have hZ := hS.below.size; (try simp at hZ)) | (go_at_call 58; (with_reducible refine (H2.out _).mono ?_); rintro e w1 ⟨rfl, hS⟩; have hZ := hS.below.size; (try simp at hZ))); all_goals (rename_i hHeld; obtain ⟨hcR1, hfR1, hzR1, hbR1, hoR1⟩ := hHeld; have hiR := fun o ho => there_of (hoR1 o ho); (try simp only [there_set] at hiR); clear hoR1; subst hwr1; have hR1 : Since w _ := sr_out hbR1 (by (repeat (first | with_reducible (exact Since.refl _) | with_reducible assumption | with_reducible (refine Since.drew ?_) | with_reducible (refine Since.drewN ?_ _) | with_reducible (refine Since.alloc ?_ _) | (with_reducible (refine Since.setCell ?_ ?_ _); rotate_left; focus (first | (simp; done) | (simp; omega) | omega)) | (with_reducible (refine Since.trans ?_ (by with_reducible assumption)))))) (by first | (simp; done) | (simp; omega) | omega)))
  all_goals go_wp2
  all_goals refine bodyPost_ret (by simp only [results, Try.results21]; go_simp) rfl ⟨rfl, ?_⟩
  all_goals (repeat (first | with_reducible (exact Since.refl _) | with_reducible assumption | with_reducible (refine Since.drew ?_) | with_reducible (refine Since.drewN ?_ _) | with_reducible (refine Since.alloc ?_ _) | (with_reducible (refine Since.setCell ?_ ?_ _); rotate_left; focus (first | (simp; done) | (simp; omega) | omega)) | (with_reducible (refine Since.trans ?_ (by with_reducible assumption)))))
end Go.Proofs.Ytckochcocflleaa

/-
  Layer 16: the document's 'clip' and 'Hits', walked.
-/
namespace Go.Proofs.Ytckochcocflleaa
open Go.RowKit
set_option linter.unusedVariables false

theorem clp_ok {a d row : Int} {f t : Shr} (ha : -4194304 ≤ a ∧ a ≤ 4194304) (hd : -8388608 ≤ d ∧ d ≤ 8388608) (hr : -65536 ≤ row ∧ row ≤ 65536) (hf : f.ok) (ht : t.ok) :
    (clpF a d (64 * row - 32) (64 * row + 32) f).ok ∧ (clpT a d (64 * row - 32) (64 * row + 32) t).ok := by
  unfold clpF clpT
  split
  · exact ⟨hf, ht⟩
  · split
    · exact ⟨lat_ok hf (by unfold Shr.ok; simp only; omega), soo_ok ht (by unfold Shr.ok; simp only; omega)⟩
    · exact ⟨lat_ok hf (by unfold Shr.ok; simp only; omega), soo_ok ht (by unfold Shr.ok; simp only; omega)⟩
set_option maxRecDepth 100000 in
set_option maxHeartbeats 8000000 in
theorem rf_clip (a d row : Int) (f t : Shr) (ha : -4194304 ≤ a ∧ a ≤ 4194304) (hd : -8388608 ≤ d ∧ d ≤ 8388608) (hr : -65536 ≤ row ∧ row ≤ 65536) (hf : f.ok) (ht : t.ok) (w : World) :
    Calls Try.prog 62 #[.int .i64 a, .int .i64 d, .int .i64 (64 * row - 32), .int .i64 (64 * row + 32), f.v, t.v] w fun e w' =>
      e = .returned (.tuple #[(clpF a d (64 * row - 32) (64 * row + 32) f).v, (clpT a d (64 * row - 32) (64 * row + 32) t).v, .bool (clpB a d (64 * row - 32) (64 * row + 32))]) ∧ Since w w' := by
  by_cases h0 : d = 0
  · subst h0
    have eF : clpF a 0 (64 * row - 32) (64 * row + 32) f = f := by unfold clpF; rw [if_pos rfl]
    have eT : clpT a 0 (64 * row - 32) (64 * row + 32) t = t := by unfold clpT; rw [if_pos rfl]
    have eB : clpB a 0 (64 * row - 32) (64 * row + 32) = (decide (64 * row - 32 ≤ a) && decide (a < 64 * row + 32)) := by unfold clpB; rw [if_pos rfl, Bool.decide_and]
    rw [eF, eT, eB]
    obtain ⟨fn, fd, fo⟩ := f
    obtain ⟨tn, td', to'⟩ := t
    unfold Shr.v
    simp only
    generalize 64 * row - 32 = L at *
    generalize 64 * row + 32 = H at *
    clear eF eT eB ha hd hr hf ht
    cases h1 : decide (L ≤ a)
    all_goals
      go_enter Try.func62, Try.ntmps62
      go_upto_region 2 with fail
      go_region
      all_goals (go_wp2_with fail)
      all_goals refine bodyPost_ret (by simp only [results, Try.results62]; go_simp; rfl) rfl ⟨by first | rfl | simp, ?_⟩
      all_goals (repeat (first | with_reducible (exact Since.refl _) | with_reducible assumption | with_reducible (refine Since.drew ?_) | with_reducible (refine Since.drewN ?_ _) | with_reducible (refine Since.alloc ?_ _) | (with_reducible (refine Since.setCell ?_ ?_ _); rotate_left; focus (first | (simp; done) | (simp; omega) | omega)) | (with_reducible (refine Since.trans ?_ (by with_reducible assumption)))))
  · by_cases h1 : 0 < d
    · have eF : clpF a d (64 * row - 32) (64 * row + 32) f = latS f ⟨64 * row - 32 - a, d, false⟩ := by unfold clpF; rw [if_neg h0, if_pos h1]
      have eT : clpT a d (64 * row - 32) (64 * row + 32) t = sooS t ⟨64 * row + 32 - a, d, true⟩ := by unfold clpT; rw [if_neg h0, if_pos h1]
      have eB : clpB a d (64 * row - 32) (64 * row + 32) = true := by unfold clpB; rw [if_neg h0]
      rw [eF, eT, eB]
      have hA := fun w => rf_later f ⟨64 * row - 32 - a, d, false⟩ hf (by unfold Shr.ok; simp only; omega) w
      have hB := fun w => rf_sooner t ⟨64 * row + 32 - a, d, true⟩ ht (by unfold Shr.ok; simp only; omega) w
      have u1 : IntKind.i64.wrap (64 * row - 32 - a) = 64 * row - 32 - a := IntWalk.i64_in _ (by omega)
      have u2 : IntKind.i64.wrap (64 * row + 32 - a) = 64 * row + 32 - a := IntWalk.i64_in _ (by omega)
      have u3 : IntKind.i64.wrap (-d) = -d := IntWalk.i64_in _ (by omega)
      have q0 : (d == 0) = false := by simp [h0]
      have q1 : decide (0 < d) = true := by simp; omega
      generalize latS f ⟨64 * row - 32 - a, d, false⟩ = F at *
      generalize sooS t ⟨64 * row + 32 - a, d, true⟩ = T at *
      obtain ⟨fn, fd, fo⟩ := f
      obtain ⟨tn, td', to'⟩ := t
      obtain ⟨Fn, Fd, Fo⟩ := F
      obtain ⟨Tn, Td, To⟩ := T
      unfold Shr.v at *
      simp only at hA hB ⊢
      have HA := Lib.hid hA; have HB := Lib.hid hB
      clear hA hB eF eT eB ha hd hr hf ht h0 h1
      go_enter Try.func62, Try.ntmps62
      go_upto_region 4 with fail
      refine wp_named fun wq hwq => ?_
      have rF : Row wq w.heap.size 3 (Sgf ⟨fn, fd, fo⟩) := by subst hwq; exact (((sgrow w _ rfl _ fn fd fo).alloc _).alloc _).alloc _
      have rT : Row wq (w.heap.size + 1) 3 (Sgf ⟨tn, td', to'⟩) := by subst hwq; exact ((sgrow _ (w.heap.size + 1) (by simp) _ tn td' to').alloc _).alloc _
      have r2 : Row wq (w.heap.size + 1 + 1) 3 (Sgf ⟨0, 0, false⟩) := by subst hwq; exact (sgrow _ (w.heap.size + 1 + 1) (by simp) _ 0 0 false).alloc _
      have r3 : Row wq (w.heap.size + 1 + 1 + 1) 3 (Sgf ⟨0, 0, false⟩) := by subst hwq; exact sgrow _ (w.heap.size + 1 + 1 + 1) (by simp) _ 0 0 false
      have hSq : Since w wq := by subst hwq; (repeat (first | with_reducible (exact Since.refl _) | with_reducible assumption | with_reducible (refine Since.drew ?_) | with_reducible (refine Since.drewN ?_ _) | with_reducible (refine Since.alloc ?_ _) | (with_reducible (refine Since.setCell ?_ ?_ _); rotate_left; focus (first | (simp; done) | (simp; omega) | omega)) | (with_reducible (refine Since.trans ?_ (by with_reducible assumption)))))
      clear hwq
      obtain ⟨k0_0_0, k0_0_1, k0_0_2, z0_0⟩ := sgcells rF
      obtain ⟨k0_1_0, k0_1_1, k0_1_2, z0_1⟩ := sgcells rT
      obtain ⟨k0_2_0, k0_2_1, k0_2_2, z0_2⟩ := sgcells r2
      obtain ⟨k0_3_0, k0_3_1, k0_3_2, z0_3⟩ := sgcells r3
      simp only at k0_0_0 k0_0_1 k0_0_2 k0_1_0 k0_1_1 k0_1_2 k0_2_0 k0_2_1 k0_2_2 k0_3_0 k0_3_1 k0_3_2
      have f0_2_0 := r2.2.1 0; have f0_2_1 := r2.2.1 1; have f0_2_2 := r2.2.1 2
      have f0_3_0 := r3.2.1 0; have f0_3_1 := r3.2.1 1; have f0_3_2 := r3.2.1 2
      clear rF rT r2 r3
      go_region_with (first | (go_at_call 85; (with_reducible refine (HA.out _).mono ?_); rintro e w1 ⟨rfl, hS1⟩; have hx1 := hS1.1; have hy1 := hS1.2.1; have hz1 := hS1.2.2.1; have k1_1_0 := (hx1 (w.heap.size + 1) 0 z0_1).trans k0_1_0; have k1_1_1 := (hx1 (w.heap.size + 1) 1 z0_1).trans k0_1_1; have k1_1_2 := (hx1 (w.heap.size + 1) 2 z0_1).trans k0_1_2; have z1_1 := hz1 (w.heap.size + 1) z0_1; have k1_2_0 := (hx1 (w.heap.size + 1 + 1) 0 z0_2).trans k0_2_0; have k1_2_1 := (hx1 (w.heap.size + 1 + 1) 1 z0_2).trans k0_2_1; have k1_2_2 := (hx1 (w.heap.size + 1 + 1) 2 z0_2).trans k0_2_2; have f1_2_0 := (hy1 (w.heap.size + 1 + 1) 0 z0_2).trans f0_2_0; have f1_2_1 := (hy1 (w.heap.size + 1 + 1) 1 z0_2).trans f0_2_1; have f1_2_2 := (hy1 (w.heap.size + 1 + 1) 2 z0_2).trans f0_2_2; have z1_2 := hz1 (w.heap.size + 1 + 1) z0_2; have k1_3_0 := (hx1 (w.heap.size + 1 + 1 + 1) 0 z0_3).trans k0_3_0; have k1_3_1 := (hx1 (w.heap.size + 1 + 1 + 1) 1 z0_3).trans k0_3_1; have k1_3_2 := (hx1 (w.heap.size + 1 + 1 + 1) 2 z0_3).trans k0_3_2; have f1_3_0 := (hy1 (w.heap.size + 1 + 1 + 1) 0 z0_3).trans f0_3_0; have f1_3_1 := (hy1 (w.heap.size + 1 + 1 + 1) 1 z0_3).trans f0_3_1; have f1_3_2 := (hy1 (w.heap.size + 1 + 1 + 1) 2 z0_3).trans f0_3_2; have z1_3 := hz1 (w.heap.size + 1 + 1 + 1) z0_3; clear hx1 hy1 hz1 k0_1_0 k0_1_1 k0_1_2 z0_1 k0_2_0 k0_2_1 k0_2_2 z0_2 f0_2_0 f0_2_1 f0_2_2 k0_3_0 k0_3_1 k0_3_2 z0_3 f0_3_0 f0_3_1 f0_3_2) | (go_at_call 86; (with_reducible refine (HB.out _).mono ?_); rintro e w2 ⟨rfl, hS2⟩; have hx2 := hS2.1; have hy2 := hS2.2.1; have hz2 := hS2.2.2.1; have k2_2_0 := (hx2 (w.heap.size + 1 + 1) 0 z1_2).trans k1_2_0; have k2_2_1 := (hx2 (w.heap.size + 1 + 1) 1 z1_2).trans k1_2_1; have k2_2_2 := (hx2 (w.heap.size + 1 + 1) 2 z1_2).trans k1_2_2; have f2_2_0 := (hy2 (w.heap.size + 1 + 1) 0 z1_2).trans f1_2_0; have f2_2_1 := (hy2 (w.heap.size + 1 + 1) 1 z1_2).trans f1_2_1; have f2_2_2 := (hy2 (w.heap.size + 1 + 1) 2 z1_2).trans f1_2_2; have z2_2 := hz2 (w.heap.size + 1 + 1) z1_2; have k2_3_0 := (hx2 (w.heap.size + 1 + 1 + 1) 0 z1_3).trans k1_3_0; have k2_3_1 := (hx2 (w.heap.size + 1 + 1 + 1) 1 z1_3).trans k1_3_1; have k2_3_2 := (hx2 (w.heap.size + 1 + 1 + 1) 2 z1_3).trans k1_3_2; have f2_3_0 := (hy2 (w.heap.size + 1 + 1 + 1) 0 z1_3).trans f1_3_0; have f2_3_1 := (hy2 (w.heap.size + 1 + 1 + 1) 1 z1_3).trans f1_3_1; have f2_3_2 := (hy2 (w.heap.size + 1 + 1 + 1) 2 z1_3).trans f1_3_2; have z2_3 := hz2 (w.heap.size + 1 + 1 + 1) z1_3; clear hx2 hy2 hz2 k1_2_0 k1_2_1 k1_2_2 z1_2 f1_2_0 f1_2_1 f1_2_2 k1_3_0 k1_3_1 k1_3_2 z1_3 f1_3_0 f1_3_1 f1_3_2))
      all_goals (go_wp2_with fail)
      all_goals refine bodyPost_ret (by simp only [results, Try.results62]; go_simp) rfl ⟨rfl, ?_⟩
      all_goals (repeat (first | with_reducible (exact Since.refl _) | with_reducible assumption | with_reducible (refine Since.drew ?_) | with_reducible (refine Since.drewN ?_ _) | with_reducible (refine Since.alloc ?_ _) | (with_reducible (refine Since.setCell ?_ ?_ _); rotate_left; focus (first | (simp; done) | (simp; omega) | omega)) | (with_reducible (refine Since.trans ?_ (by with_reducible assumption)))))
    · have eF : clpF a d (64 * row - 32) (64 * row + 32) f = latS f ⟨a - (64 * row + 32), -d, true⟩ := by unfold clpF; rw [if_neg h0, if_neg h1]
      have eT : clpT a d (64 * row - 32) (64 * row + 32) t = sooS t ⟨a - (64 * row - 32), -d, false⟩ := by unfold clpT; rw [if_neg h0, if_neg h1]
      have eB : clpB a d (64 * row - 32) (64 * row + 32) = true := by unfold clpB; rw [if_neg h0]
      rw [eF, eT, eB]
      have hA := fun w => rf_later f ⟨a - (64 * row + 32), -d, true⟩ hf (by unfold Shr.ok; simp only; omega) w
      have hB := fun w => rf_sooner t ⟨a - (64 * row - 32), -d, false⟩ ht (by unfold Shr.ok; simp only; omega) w
      have u1 : IntKind.i64.wrap (a - (64 * row + 32)) = a - (64 * row + 32) := IntWalk.i64_in _ (by omega)
      have u2 : IntKind.i64.wrap (a - (64 * row - 32)) = a - (64 * row - 32) := IntWalk.i64_in _ (by omega)
      have u3 : IntKind.i64.wrap (-d) = -d := IntWalk.i64_in _ (by omega)
      have q0 : (d == 0) = false := by simp [h0]
      have q1 : decide (0 < d) = false := by simp; omega
      generalize latS f ⟨a - (64 * row + 32), -d, true⟩ = F at *
      generalize sooS t ⟨a - (64 * row - 32), -d, false⟩ = T at *
      obtain ⟨fn, fd, fo⟩ := f
      obtain ⟨tn, td', to'⟩ := t
      obtain ⟨Fn, Fd, Fo⟩ := F
      obtain ⟨Tn, Td, To⟩ := T
      unfold Shr.v at *
      simp only at hA hB ⊢
      have HA := Lib.hid hA; have HB := Lib.hid hB
      clear hA hB eF eT eB ha hd hr hf ht h0 h1
      go_enter Try.func62, Try.ntmps62
      go_upto_region 5 with fail
      refine wp_named fun wq hwq => ?_
      have rF : Row wq w.heap.size 3 (Sgf ⟨fn, fd, fo⟩) := by subst hwq; exact (((sgrow w _ rfl _ fn fd fo).alloc _).alloc _).alloc _
      have rT : Row wq (w.heap.size + 1) 3 (Sgf ⟨tn, td', to'⟩) := by subst hwq; exact ((sgrow _ (w.heap.size + 1) (by simp) _ tn td' to').alloc _).alloc _
      have r2 : Row wq (w.heap.size + 1 + 1) 3 (Sgf ⟨0, 0, false⟩) := by subst hwq; exact (sgrow _ (w.heap.size + 1 + 1) (by simp) _ 0 0 false).alloc _
      have r3 : Row wq (w.heap.size + 1 + 1 + 1) 3 (Sgf ⟨0, 0, false⟩) := by subst hwq; exact sgrow _ (w.heap.size + 1 + 1 + 1) (by simp) _ 0 0 false
      have hSq : Since w wq := by subst hwq; (repeat (first | with_reducible (exact Since.refl _) | with_reducible assumption | with_reducible (refine Since.drew ?_) | with_reducible (refine Since.drewN ?_ _) | with_reducible (refine Since.alloc ?_ _) | (with_reducible (refine Since.setCell ?_ ?_ _); rotate_left; focus (first | (simp; done) | (simp; omega) | omega)) | (with_reducible (refine Since.trans ?_ (by with_reducible assumption)))))
      clear hwq
      obtain ⟨k0_0_0, k0_0_1, k0_0_2, z0_0⟩ := sgcells rF
      obtain ⟨k0_1_0, k0_1_1, k0_1_2, z0_1⟩ := sgcells rT
      obtain ⟨k0_2_0, k0_2_1, k0_2_2, z0_2⟩ := sgcells r2
      obtain ⟨k0_3_0, k0_3_1, k0_3_2, z0_3⟩ := sgcells r3
      simp only at k0_0_0 k0_0_1 k0_0_2 k0_1_0 k0_1_1 k0_1_2 k0_2_0 k0_2_1 k0_2_2 k0_3_0 k0_3_1 k0_3_2
      have f0_2_0 := r2.2.1 0; have f0_2_1 := r2.2.1 1; have f0_2_2 := r2.2.1 2
      have f0_3_0 := r3.2.1 0; have f0_3_1 := r3.2.1 1; have f0_3_2 := r3.2.1 2
      clear rF rT r2 r3
      go_region_with (first | (go_at_call 85; (with_reducible refine (HA.out _).mono ?_); rintro e w1 ⟨rfl, hS1⟩; have hx1 := hS1.1; have hy1 := hS1.2.1; have hz1 := hS1.2.2.1; have k1_1_0 := (hx1 (w.heap.size + 1) 0 z0_1).trans k0_1_0; have k1_1_1 := (hx1 (w.heap.size + 1) 1 z0_1).trans k0_1_1; have k1_1_2 := (hx1 (w.heap.size + 1) 2 z0_1).trans k0_1_2; have z1_1 := hz1 (w.heap.size + 1) z0_1; have k1_2_0 := (hx1 (w.heap.size + 1 + 1) 0 z0_2).trans k0_2_0; have k1_2_1 := (hx1 (w.heap.size + 1 + 1) 1 z0_2).trans k0_2_1; have k1_2_2 := (hx1 (w.heap.size + 1 + 1) 2 z0_2).trans k0_2_2; have f1_2_0 := (hy1 (w.heap.size + 1 + 1) 0 z0_2).trans f0_2_0; have f1_2_1 := (hy1 (w.heap.size + 1 + 1) 1 z0_2).trans f0_2_1; have f1_2_2 := (hy1 (w.heap.size + 1 + 1) 2 z0_2).trans f0_2_2; have z1_2 := hz1 (w.heap.size + 1 + 1) z0_2; have k1_3_0 := (hx1 (w.heap.size + 1 + 1 + 1) 0 z0_3).trans k0_3_0; have k1_3_1 := (hx1 (w.heap.size + 1 + 1 + 1) 1 z0_3).trans k0_3_1; have k1_3_2 := (hx1 (w.heap.size + 1 + 1 + 1) 2 z0_3).trans k0_3_2; have f1_3_0 := (hy1 (w.heap.size + 1 + 1 + 1) 0 z0_3).trans f0_3_0; have f1_3_1 := (hy1 (w.heap.size + 1 + 1 + 1) 1 z0_3).trans f0_3_1; have f1_3_2 := (hy1 (w.heap.size + 1 + 1 + 1) 2 z0_3).trans f0_3_2; have z1_3 := hz1 (w.heap.size + 1 + 1 + 1) z0_3; clear hx1 hy1 hz1 k0_1_0 k0_1_1 k0_1_2 z0_1 k0_2_0 k0_2_1 k0_2_2 z0_2 f0_2_0 f0_2_1 f0_2_2 k0_3_0 k0_3_1 k0_3_2 z0_3 f0_3_0 f0_3_1 f0_3_2) | (go_at_call 86; (with_reducible refine (HB.out _).mono ?_); rintro e w2 ⟨rfl, hS2⟩; have hx2 := hS2.1; have hy2 := hS2.2.1; have hz2 := hS2.2.2.1; have k2_2_0 := (hx2 (w.heap.size + 1 + 1) 0 z1_2).trans k1_2_0; have k2_2_1 := (hx2 (w.heap.size + 1 + 1) 1 z1_2).trans k1_2_1; have k2_2_2 := (hx2 (w.heap.size + 1 + 1) 2 z1_2).trans k1_2_2; have f2_2_0 := (hy2 (w.heap.size + 1 + 1) 0 z1_2).trans f1_2_0; have f2_2_1 := (hy2 (w.heap.size + 1 + 1) 1 z1_2).trans f1_2_1; have f2_2_2 := (hy2 (w.heap.size + 1 + 1) 2 z1_2).trans f1_2_2; have z2_2 := hz2 (w.heap.size + 1 + 1) z1_2; have k2_3_0 := (hx2 (w.heap.size + 1 + 1 + 1) 0 z1_3).trans k1_3_0; have k2_3_1 := (hx2 (w.heap.size + 1 + 1 + 1) 1 z1_3).trans k1_3_1; have k2_3_2 := (hx2 (w.heap.size + 1 + 1 + 1) 2 z1_3).trans k1_3_2; have f2_3_0 := (hy2 (w.heap.size + 1 + 1 + 1) 0 z1_3).trans f1_3_0; have f2_3_1 := (hy2 (w.heap.size + 1 + 1 + 1) 1 z1_3).trans f1_3_1; have f2_3_2 := (hy2 (w.heap.size + 1 + 1 + 1) 2 z1_3).trans f1_3_2; have z2_3 := hz2 (w.heap.size + 1 + 1 + 1) z1_3; clear hx2 hy2 hz2 k1_2_0 k1_2_1 k1_2_2 z1_2 f1_2_0 f1_2_1 f1_2_2 k1_3_0 k1_3_1 k1_3_2 z1_3 f1_3_0 f1_3_1 f1_3_2))
      all_goals (go_wp2_with fail)
      all_goals refine bodyPost_ret (by simp only [results, Try.results62]; go_simp) rfl ⟨rfl, ?_⟩
      all_goals (repeat (first | with_reducible (exact Since.refl _) | with_reducible assumption | with_reducible (refine Since.drew ?_) | with_reducible (refine Since.drewN ?_ _) | with_reducible (refine Since.alloc ?_ _) | (with_reducible (refine Since.setCell ?_ ?_ _); rotate_left; focus (first | (simp; done) | (simp; omega) | omega)) | (with_reducible (refine Since.trans ?_ (by with_reducible assumption)))))
end Go.Proofs.Ytckochcocflleaa

/-
  Layer 16: the document's 'Hits', walked.
-/
namespace Go.Proofs.Ytckochcocflleaa
open Go.RowKit
set_option linter.unusedVariables false

theorem sg_put {w : World} {b : Nat} {s : Shr} (h : Row w b 3 (Sgf s)) (n d : Int) (o : Bool) : Row (((w.setCell ⟨b, 0, none⟩ (.int .i64 n)).setCell ⟨b, 1, none⟩ (.int .i64 d)).setCell ⟨b, 2, none⟩ (.bool o)) b 3 (Sgf ⟨n, d, o⟩) := by
  refine (((h.set 0 _).set 1 _).set 2 _).congr fun j hj => ?_
  have hh : j = 0 ∨ j = 1 ∨ j = 2 := by omega
  rcases hh with rfl | rfl | rfl <;> rfl
theorem sg_two {w : World} {b c : Nat} {s u : Shr} (hbc : b ≠ c) (h : Row w b 3 (Sgf s)) (k : Row w c 3 (Sgf u)) (n d : Int) (o : Bool) (m e : Int) (r : Bool) :
    Row ((((((w.setCell ⟨b, 0, none⟩ (.int .i64 n)).setCell ⟨b, 1, none⟩ (.int .i64 d)).setCell ⟨b, 2, none⟩ (.bool o)).setCell ⟨c, 0, none⟩ (.int .i64 m)).setCell ⟨c, 1, none⟩ (.int .i64 e)).setCell ⟨c, 2, none⟩ (.bool r)) b 3 (Sgf ⟨n, d, o⟩) ∧
    Row ((((((w.setCell ⟨b, 0, none⟩ (.int .i64 n)).setCell ⟨b, 1, none⟩ (.int .i64 d)).setCell ⟨b, 2, none⟩ (.bool o)).setCell ⟨c, 0, none⟩ (.int .i64 m)).setCell ⟨c, 1, none⟩ (.int .i64 e)).setCell ⟨c, 2, none⟩ (.bool r)) c 3 (Sgf ⟨m, e, r⟩) :=
  ⟨(((sg_put h n d o).far (fun x => hbc x.symm) _ _).far (fun x => hbc x.symm) _ _).far (fun x => hbc x.symm) _ _, sg_put (((k.far hbc _ _).far hbc _ _).far hbc _ _) m e r⟩
/-- Six stores leave other blocks. -/
theorem far6 {w : World} {q b c : Nat} (hb : b ≠ q) (hc : c ≠ q) (n d : Int) (o : Bool) (m e : Int) (r : Bool) (j : Nat) :
    ((((((w.setCell ⟨b, 0, none⟩ (.int .i64 n)).setCell ⟨b, 1, none⟩ (.int .i64 d)).setCell ⟨b, 2, none⟩ (.bool o)).setCell ⟨c, 0, none⟩ (.int .i64 m)).setCell ⟨c, 1, none⟩ (.int .i64 e)).setCell ⟨c, 2, none⟩ (.bool r)).cell? ⟨q, j, none⟩ = w.cell? ⟨q, j, none⟩ := by
  rw [cell_set, if_neg (fun x => hc x.1), cell_set, if_neg (fun x => hc x.1), cell_set, if_neg (fun x => hc x.1), cell_set, if_neg (fun x => hb x.1), cell_set, if_neg (fun x => hb x.1), cell_set, if_neg (fun x => hb x.1)]
theorem size6 {w : World} {b c : Nat} (n d : Int) (o : Bool) (m e : Int) (r : Bool) :
    ((((((w.setCell ⟨b, 0, none⟩ (.int .i64 n)).setCell ⟨b, 1, none⟩ (.int .i64 d)).setCell ⟨b, 2, none⟩ (.bool o)).setCell ⟨c, 0, none⟩ (.int .i64 m)).setCell ⟨c, 1, none⟩ (.int .i64 e)).setCell ⟨c, 2, none⟩ (.bool r)).heap.size = w.heap.size := by simp [World.setCell]
theorem ln6 {w : World} {q b c : Nat} {l : Ln} (h : LnAt w q l) (hb : b ≠ q) (hc : c ≠ q) (n d : Int) (o : Bool) (m e : Int) (r : Bool) :
    LnAt ((((((w.setCell ⟨b, 0, none⟩ (.int .i64 n)).setCell ⟨b, 1, none⟩ (.int .i64 d)).setCell ⟨b, 2, none⟩ (.bool o)).setCell ⟨c, 0, none⟩ (.int .i64 m)).setCell ⟨c, 1, none⟩ (.int .i64 e)).setCell ⟨c, 2, none⟩ (.bool r)) q l := by
  obtain ⟨h1, h2, h3, h4, h5⟩ := h
  exact ⟨(far6 hb hc n d o m e r 0).trans h1, (far6 hb hc n d o m e r 1).trans h2, (far6 hb hc n d o m e r 2).trans h3, (far6 hb hc n d o m e r 3).trans h4, by rw [size6]; exact h5⟩
theorem pt6 {w : World} {q b c : Nat} {x y : Int} (h : PtAt w q x y) (hb : b ≠ q) (hc : c ≠ q) (n d : Int) (o : Bool) (m e : Int) (r : Bool) :
    PtAt ((((((w.setCell ⟨b, 0, none⟩ (.int .i64 n)).setCell ⟨b, 1, none⟩ (.int .i64 d)).setCell ⟨b, 2, none⟩ (.bool o)).setCell ⟨c, 0, none⟩ (.int .i64 m)).setCell ⟨c, 1, none⟩ (.int .i64 e)).setCell ⟨c, 2, none⟩ (.bool r)) q x y := by
  obtain ⟨h1, h2, h5⟩ := h
  exact ⟨(far6 hb hc n d o m e r 0).trans h1, (far6 hb hc n d o m e r 1).trans h2, by rw [size6]; exact h5⟩
set_option maxRecDepth 100000 in
set_option maxHeartbeats 16000000 in
theorem rf_hits (l : Ln) (x y : Int) (h : (goodB l.ax l.ay && goodB l.bx l.bz && pixG x y) = true) (w : World) :
    Calls Try.prog 26 #[l.v, Pt x y] w fun e w' => e = .returned (.bool (hitR l.ax l.ay l.bx l.bz x y)) ∧ Since w w' := by
  obtain ⟨hG, hP⟩ := Bool.and_eq_true_iff.1 h
  obtain ⟨g1, g2⟩ := Bool.and_eq_true_iff.1 hG
  have i1 := goodB_iff.1 g1
  have i2 := goodB_iff.1 g2
  have i3 := pixG_iff.1 hP
  have o0 : Shr.ok ⟨0, 1, false⟩ := by unfold Shr.ok; simp
  have o1 : Shr.ok ⟨1, 1, false⟩ := by unfold Shr.ok; simp
  have hc1 := fun w => rf_clip l.ax (l.bx - l.ax) x ⟨0, 1, false⟩ ⟨1, 1, false⟩ (by omega) (by omega) (by omega) o0 o1 w
  obtain ⟨p1, p2⟩ := clp_ok (a := l.ax) (d := l.bx - l.ax) (row := x) (by omega) (by omega) (by omega) o0 o1
  have hc2 := fun w => rf_clip l.ay (l.bz - l.ay) y _ _ (by omega) (by omega) (by omega) p1 p2 w
  obtain ⟨p3, p4⟩ := clp_ok (a := l.ay) (d := l.bz - l.ay) (row := y) (by omega) (by omega) (by omega) p1 p2
  have hab := fun w => rf_above _ _ p4 p3 w
  have u1 : IntKind.i64.wrap (l.bx - l.ax) = l.bx - l.ax := IntWalk.i64_in _ (by omega)
  have u2 : IntKind.i64.wrap (64 * x) = 64 * x := IntWalk.i64_in _ (by omega)
  have u3 : IntKind.i64.wrap (64 * x - 32) = 64 * x - 32 := IntWalk.i64_in _ (by omega)
  have u4 : IntKind.i64.wrap (64 * x + 32) = 64 * x + 32 := IntWalk.i64_in _ (by omega)
  have u5 : IntKind.i64.wrap (l.bz - l.ay) = l.bz - l.ay := IntWalk.i64_in _ (by omega)
  have u6 : IntKind.i64.wrap (64 * y) = 64 * y := IntWalk.i64_in _ (by omega)
  have u7 : IntKind.i64.wrap (64 * y - 32) = 64 * y - 32 := IntWalk.i64_in _ (by omega)
  have u8 : IntKind.i64.wrap (64 * y + 32) = 64 * y + 32 := IntWalk.i64_in _ (by omega)
  have hN := fun w b hb t => ln_new w b hb l t
  unfold hitR
  generalize clpF l.ay (l.bz - l.ay) (64 * y - 32) (64 * y + 32) (clpF l.ax (l.bx - l.ax) (64 * x - 32) (64 * x + 32) ⟨0, 1, false⟩) = F2 at *
  generalize clpT l.ay (l.bz - l.ay) (64 * y - 32) (64 * y + 32) (clpT l.ax (l.bx - l.ax) (64 * x - 32) (64 * x + 32) ⟨1, 1, false⟩) = T2 at *
  generalize clpF l.ax (l.bx - l.ax) (64 * x - 32) (64 * x + 32) ⟨0, 1, false⟩ = F1 at *
  generalize clpT l.ax (l.bx - l.ax) (64 * x - 32) (64 * x + 32) ⟨1, 1, false⟩ = T1 at *
  generalize clpB l.ax (l.bx - l.ax) (64 * x - 32) (64 * x + 32) = B1 at *
  generalize clpB l.ay (l.bz - l.ay) (64 * y - 32) (64 * y + 32) = B2 at *
  have he : endR F2 T2 = (decide (0 < abvS T2 F2) || (decide (abvS T2 F2 = 0) && (!F2.o && !T2.o))) := rfl
  rw [he]
  clear he
  generalize abvS T2 F2 = K at *
  obtain ⟨F1n, F1d, F1o⟩ := F1
  obtain ⟨T1n, T1d, T1o⟩ := T1
  obtain ⟨F2n, F2d, F2o⟩ := F2
  obtain ⟨T2n, T2d, T2o⟩ := T2
  unfold Ln.v Pt Shr.v at *
  simp only at hc1 hc2 hab ⊢
  have HC1 := Lib.hid hc1; have HC2 := Lib.hid hc2; have HAB := Lib.hid hab; have HN := Lib.hid hN
  clear hc1 hc2 hab hN h hG hP g1 g2 i1 i2 i3 o0 o1 p1 p2 p3 p4
  have hKc : (0 < K) ∨ K = 0 ∨ K < 0 := by omega
  have hbc : w.heap.size + 1 + 1 ≠ w.heap.size + 1 + 1 + 1 := by omega
  have HKC := Lib.hid hKc
  clear hKc
  generalize hZ : (B1 && (B2 && (decide (0 < K) || (decide (K = 0) && (!F2o && !T2o))))) = Z
  have HZ := Lib.hid hZ
  clear hZ
  go_enter Try.func26, Try.ntmps26
  go_upto_region 2 with fail
  refine wp_named fun wa hwa => ?_
  have rF : Row wa (w.heap.size + 1 + 1) 3 (Sgf ⟨0, 1, false⟩) := by subst hwa; exact (sgrow ((w.alloc _).alloc _) (w.heap.size + 1 + 1) (by simp) _ 0 1 false).alloc _
  have rT : Row wa (w.heap.size + 1 + 1 + 1) 3 (Sgf ⟨1, 1, false⟩) := by subst hwa; exact sgrow (((w.alloc _).alloc _).alloc _) (w.heap.size + 1 + 1 + 1) (by simp) _ 1 1 false
  have hL : LnAt wa w.heap.size l := by subst hwa; exact (((HN.out w _ rfl _).alloc _).alloc _).alloc _
  have hP : PtAt wa (w.heap.size + 1) x y := by subst hwa; exact ((pt_new (w.alloc _) _ (by simp) x y _).alloc _).alloc _
  have hS : Since w wa := by subst hwa; (repeat (first | with_reducible (exact Since.refl _) | with_reducible assumption | with_reducible (refine Since.drew ?_) | with_reducible (refine Since.drewN ?_ _) | with_reducible (refine Since.alloc ?_ _) | (with_reducible (refine Since.setCell ?_ ?_ _); rotate_left; focus (first | (simp; done) | (simp; omega) | omega)) | (with_reducible (refine Since.trans ?_ (by with_reducible assumption)))))
  clear hwa HN
  go_cut [7] (fun v wx => v = .bool B1 ∧ Since w wx ∧ Row wx (w.heap.size + 1 + 1) 3 (Sgf ⟨F1n, F1d, F1o⟩) ∧ Row wx (w.heap.size + 1 + 1 + 1) 3 (Sgf ⟨T1n, T1d, T1o⟩) ∧ LnAt wx w.heap.size l ∧ PtAt wx (w.heap.size + 1) x y)
  case first =>
    obtain ⟨k1, k2, k3, k4⟩ := sgcells rF
    obtain ⟨m1, m2, m3, m4⟩ := sgcells rT
    obtain ⟨l1, l2, l3, l4, l5⟩ := id hL
    obtain ⟨p1, p2, p3⟩ := id hP
    go_wp2_with (go_at_call 62; (with_reducible refine (HC1.out _).mono ?_); rintro e w1 ⟨rfl, hS1⟩; have hT1 := hS.trans hS1; have rF1 := rF.since hS1; have rT1 := rT.since hS1; have hL1 := hL.since hS1; have hP1 := hP.since hS1; clear k1 k2 k3 k4 m1 m2 m3 m4 l1 l2 l3 l4 l5 p1 p2 p3 rF rT hL hP hS hS1; obtain ⟨k1, k2, k3, k4⟩ := sgcells rF1; obtain ⟨m1, m2, m3, m4⟩ := sgcells rT1; have kf := rF1.2.1; have mf := rT1.2.1)
    go_meet
    refine ⟨rfl, by (repeat (first | with_reducible (exact Since.refl _) | with_reducible assumption | with_reducible (refine Since.drew ?_) | with_reducible (refine Since.drewN ?_ _) | with_reducible (refine Since.alloc ?_ _) | (with_reducible (refine Since.setCell ?_ ?_ _); rotate_left; focus (first | (simp; done) | (simp; omega) | omega)) | (with_reducible (refine Since.trans ?_ (by with_reducible assumption))))), ?_, ?_, ?_, ?_⟩
    · exact (sg_two hbc rF1 rT1 F1n F1d F1o T1n T1d T1o).1
    · exact (sg_two hbc rF1 rT1 F1n F1d F1o T1n T1d T1o).2
    · exact ln6 hL1 (by omega) (by omega) _ _ _ _ _ _
    · exact pt6 hP1 (by omega) (by omega) _ _ _ _ _ _
  clear rF rT hL hP hS
  obtain ⟨rfl, hS, rF, rT, hL, hP⟩ := hcut
  cases B1
  · have hz : Z = false := by rw [← HZ.out]; simp
    subst hz
    clear HZ
    go_wp2_with fail
    go_ret
    exact ⟨rfl, hS⟩
  go_upto_region 5 with fail
  go_cut [7] (fun v wx => v = .bool B2 ∧ Since w wx ∧ Row wx (w.heap.size + 1 + 1) 3 (Sgf ⟨F2n, F2d, F2o⟩) ∧ Row wx (w.heap.size + 1 + 1 + 1) 3 (Sgf ⟨T2n, T2d, T2o⟩) ∧ LnAt wx w.heap.size l ∧ PtAt wx (w.heap.size + 1) x y)
  case first =>
    obtain ⟨k1, k2, k3, k4⟩ := sgcells rF
    obtain ⟨m1, m2, m3, m4⟩ := sgcells rT
    obtain ⟨l1, l2, l3, l4, l5⟩ := id hL
    obtain ⟨p1, p2, p3⟩ := id hP
    go_wp2_with (go_at_call 62; (with_reducible refine (HC2.out _).mono ?_); rintro e w1 ⟨rfl, hS1⟩; have hT1 := hS.trans hS1; have rF1 := rF.since hS1; have rT1 := rT.since hS1; have hL1 := hL.since hS1; have hP1 := hP.since hS1; clear k1 k2 k3 k4 m1 m2 m3 m4 l1 l2 l3 l4 l5 p1 p2 p3 rF rT hL hP hS hS1; obtain ⟨k1, k2, k3, k4⟩ := sgcells rF1; obtain ⟨m1, m2, m3, m4⟩ := sgcells rT1; have kf := rF1.2.1; have mf := rT1.2.1)
    go_meet
    refine ⟨rfl, by (repeat (first | with_reducible (exact Since.refl _) | with_reducible assumption | with_reducible (refine Since.drew ?_) | with_reducible (refine Since.drewN ?_ _) | with_reducible (refine Since.alloc ?_ _) | (with_reducible (refine Since.setCell ?_ ?_ _); rotate_left; focus (first | (simp; done) | (simp; omega) | omega)) | (with_reducible (refine Since.trans ?_ (by with_reducible assumption))))), ?_, ?_, ?_, ?_⟩
    · exact (sg_two hbc rF1 rT1 F2n F2d F2o T2n T2d T2o).1
    · exact (sg_two hbc rF1 rT1 F2n F2d F2o T2n T2d T2o).2
    · exact ln6 hL1 (by omega) (by omega) _ _ _ _ _ _
    · exact pt6 hP1 (by omega) (by omega) _ _ _ _ _ _
  clear rF rT hL hP hS
  obtain ⟨rfl, hS, rF, rT, hL, hP⟩ := hcut
  cases B2
  · have hz : Z = false := by rw [← HZ.out]; simp
    subst hz
    clear HZ
    go_wp2_with fail
    go_ret
    exact ⟨rfl, hS⟩
  obtain ⟨k1, k2, k3, k4⟩ := sgcells rF
  obtain ⟨m1, m2, m3, m4⟩ := sgcells rT
  clear hL hP u1 u2 u3 u4 u5 u6 u7 u8 HC1 HC2 hbc
  rcases HKC.out with hK | hK | hK
  · have d1 : decide (0 < K) = true := by simp [hK]
    have hz : Z = true := by rw [← HZ.out, d1]; simp
    subst hz
    clear hK HZ HKC
    go_wp2_with (go_at_call 63; (with_reducible refine (HAB.out _).mono ?_); rintro e w3 ⟨rfl, hS3⟩; have hT3 := hS.trans hS3; have rF3 := rF.since hS3; have rT3 := rT.since hS3; clear k1 k2 k3 k4 m1 m2 m3 m4 rF rT hS hS3; obtain ⟨k1, k2, k3, k4⟩ := sgcells rF3; obtain ⟨m1, m2, m3, m4⟩ := sgcells rT3)
    go_ret
    exact ⟨by first | rfl | simp, hT3⟩
  · subst hK
    have hz : Z = (!F2o && !T2o) := by rw [← HZ.out]; simp
    subst hz
    clear HZ HKC
    cases F2o
    all_goals
      go_wp2_with (go_at_call 63; (with_reducible refine (HAB.out _).mono ?_); rintro e w3 ⟨rfl, hS3⟩; have hT3 := hS.trans hS3; have rF3 := rF.since hS3; have rT3 := rT.since hS3; clear k1 k2 k3 k4 m1 m2 m3 m4 rF rT hS hS3; obtain ⟨k1, k2, k3, k4⟩ := sgcells rF3; obtain ⟨m1, m2, m3, m4⟩ := sgcells rT3)
      go_ret
      exact ⟨by first | rfl | simp, hT3⟩
  · have d1 : decide (0 < K) = false := by simp; omega
    have d2 : (K == 0) = false := by simp; omega
    have d3 : decide (K = 0) = false := by simp; omega
    have hz : Z = false := by rw [← HZ.out, d1, d3]; simp
    subst hz
    clear hK HZ HKC
    go_wp2_with (go_at_call 63; (with_reducible refine (HAB.out _).mono ?_); rintro e w3 ⟨rfl, hS3⟩; have hT3 := hS.trans hS3; have rF3 := rF.since hS3; have rT3 := rT.since hS3; clear k1 k2 k3 k4 m1 m2 m3 m4 rF rT hS hS3; obtain ⟨k1, k2, k3, k4⟩ := sgcells rF3; obtain ⟨m1, m2, m3, m4⟩ := sgcells rT3)
    go_ret
    exact ⟨by first | rfl | simp, hT3⟩
end Go.Proofs.Ytckochcocflleaa

/-
  Layer 10: the reference's 'Turn', 'Quarter', 'All', 'Same', walked.
-/
namespace Go.Proofs.Ytckochcocflleaa
open Go.RowKit
set_option linter.unusedVariables false

def Tiny (x : Int) : Prop := -4194304 ≤ x ∧ x ≤ 4194304
theorem Tiny.near {x : Int} (h : Tiny x) : Near x := by unfold Tiny at h; unfold Near; omega
theorem Tiny.sub {x y : Int} (h : Tiny x) (k : Tiny y) : Near (x - y) := by unfold Tiny at *; unfold Near; omega
theorem tiny_of {x y : Int} (h : goodB x y = true) : Tiny x ∧ Tiny y := by have := goodB_iff.1 h; unfold Tiny; omega
theorem cross_in64 {x y u v : Int} (h1 : Near x) (h2 : Near y) (h3 : Near u) (h4 : Near v) : In64 (crossI x y u v) := by
  have b1 := near_mul h1 h4; have b2 := near_mul h2 h3
  unfold crossI In64
  omega

/-- A block holds a point, and may be written. -/
def PtW (w : World) (b : Nat) (x y : Int) : Prop := PtAt w b x y ∧ ∀ j, w.frozen? ⟨b, j, none⟩ = false
theorem ptw_new (w : World) (b : Nat) (hb : b = w.heap.size) (x y : Int) (t : TypeId) : PtW (w.alloc (.cells #[.int .i64 x, .int .i64 y] t)) b x y := by
  refine ⟨pt_new w b hb x y t, fun j => ?_⟩
  subst hb
  rw [frozen?_alloc_cells]
  simp [World.frozen?]
theorem PtW.since {w w' : World} {b : Nat} {x y : Int} (h : PtW w b x y) (k : Since w w') : PtW w' b x y := ⟨h.1.since k, fun j => (k.2.1 _ _ h.1.2.2).trans (h.2 j)⟩
theorem PtW.alloc {w : World} {b : Nat} {x y : Int} (h : PtW w b x y) (o : Obj) : PtW (w.alloc o) b x y := h.since ((Since.refl w).alloc o)
theorem PtW.put {w : World} {b : Nat} {x y : Int} (h : PtW w b x y) (u v : Int) : PtW ((w.setCell ⟨b, 0, none⟩ (.int .i64 u)).setCell ⟨b, 1, none⟩ (.int .i64 v)) b u v := by
  obtain ⟨⟨h1, h2, h3⟩, h4⟩ := h
  refine ⟨⟨?_, ?_, by simpa [World.setCell] using h3⟩, fun j => by rw [World.frozen?_setCell, World.frozen?_setCell]; exact h4 j⟩
  · rw [cell_set, if_neg (by omega), cell_set, if_pos ⟨rfl, rfl⟩, h1]; rfl
  · rw [cell_set, if_pos ⟨rfl, rfl⟩, cell_set, if_neg (by omega), h2]; rfl
theorem PtW.far {w : World} {b b' : Nat} {x y : Int} (h : PtW w b x y) (hb : b' ≠ b) (o : Nat) (v : Value) : PtW (w.setCell ⟨b', o, none⟩ v) b x y := by
  obtain ⟨⟨h1, h2, h3⟩, h4⟩ := h
  exact ⟨⟨by rw [cell_set, if_neg (fun e => hb e.1)]; exact h1, by rw [cell_set, if_neg (fun e => hb e.1)]; exact h2, by simpa [World.setCell] using h3⟩, fun j => by rw [World.frozen?_setCell]; exact h4 j⟩
theorem go_mod4 (n : Int) : (n.tmod 4 + 4).tmod 4 = n % 4 := by
  rcases Int.lt_or_le n 0 with h | h
  · have h1 : n.tmod 4 = -((-n) % 4) := by
      rw [← Int.tmod_eq_emod_of_nonneg (by omega : 0 ≤ -n), Int.neg_tmod]; omega
    rw [h1, Int.tmod_eq_emod_of_nonneg (by omega)]
    omega
  · rw [Int.tmod_eq_emod_of_nonneg h, Int.tmod_eq_emod_of_nonneg (by omega)]
    omega
set_option maxHeartbeats 8000000 in
theorem rf_quarter (x y n : Int) (h1 : Tiny x) (h2 : Tiny y) (hn : In64 n) (w : World) :
    Calls Try.prog 77 #[Pt x y, .int .i64 n] w fun e w' => e = .returned (Pt (resQ x y n).1 (resQ x y n).2) ∧ Since w w' := by
  have hm4 := go_mod4 n
  have hb := qu_near (x := x) (y := y) (B := 4194304) h1 h2
  obtain ⟨m, hm⟩ : ∃ m : Nat, (n % 4).toNat = m := ⟨_, rfl⟩
  have hmi : n % 4 = (m : Int) := by omega
  rw [hmi] at hm4
  have hr : -3 ≤ n.tmod 4 ∧ n.tmod 4 ≤ 3 := by
    have h1 := Int.tmod_lt_of_pos n (show (0 : Int) < 4 by decide)
    have h2 : -4 < n.tmod 4 := by
      have := Int.lt_tmod_of_pos n (show (0 : Int) < 4 by decide)
      exact this
    omega
  have hm3 : m < 4 := by omega
  unfold resQ
  rw [hm]
  have HB := Lib.hid hb
  generalize hz : n.tmod 4 = z at hm4 hr
  have hr1 := hr.1
  have hr2 := hr.2
  have hw1 : IntKind.i64.wrap (z + 4) = z + 4 := IntWalk.i64_in _ (by omega)
  clear hb h1 h2 hm hmi hr
  unfold Pt
  go_enter Try.func77, Try.ntmps77
  go_wp2
  go_loopw [5] (fun c wr => ∃ k : Nat, k ≤ m ∧ c = .int .i64 ((m : Int) - k) ∧ Since w wr ∧ PtW wr w.heap.size (qu x y k).1 (qu x y k).2 ∧ PtW wr (w.heap.size + 1) 0 0) (fun c _ => (intOf c).toNat)
  case atStart => exact ⟨0, by omega, by simp, by (repeat (first | with_reducible (exact Since.refl _) | with_reducible assumption | with_reducible (refine Since.drew ?_) | with_reducible (refine Since.drewN ?_ _) | with_reducible (refine Since.alloc ?_ _) | (with_reducible (refine Since.setCell ?_ ?_ _); rotate_left; focus (first | (simp; done) | (simp; omega) | omega)) | (with_reducible (refine Since.trans ?_ (by with_reducible assumption))))), (ptw_new w _ rfl x y _).alloc _, ptw_new _ _ (by simp) 0 0 _⟩
  case round =>
    obtain ⟨k, hk, rfl, hSr, hP, hZ⟩ := hrel
    by_cases hkm : k < m
    · have hpos : (0 : Int) < (m : Int) - k := by omega
      obtain ⟨⟨p1, p2, p3⟩, pF⟩ := hP
      have pF0 := pF 0
      have pF1 := pF 1
      have hbk := HB.out k
      have hPk : PtW wr w.heap.size (qu x y k).1 (qu x y k).2 := ⟨⟨p1, p2, p3⟩, pF⟩
      have HQ := Lib.hid (show (qu x y (k + 1)).1 = -(qu x y k).2 ∧ (qu x y (k + 1)).2 = (qu x y k).1 from ⟨rfl, rfl⟩)
      obtain ⟨⟨b1, b2⟩, b3, b4⟩ := hbk
      generalize (qu x y k).1 = N at *
      generalize (qu x y k).2 = M at *
      clear pF
      go_wp2
      refine ⟨⟨k + 1, by omega, by first | (congr 1; omega) | (simp; omega), ?_, by rw [HQ.out.1, HQ.out.2]; exact hPk.put _ _, (hZ.far (by omega) _ _).far (by omega) _ _⟩, by simp [intOf]; omega⟩
      (repeat (first | with_reducible (exact Since.refl _) | with_reducible assumption | with_reducible (refine Since.drew ?_) | with_reducible (refine Since.drewN ?_ _) | with_reducible (refine Since.alloc ?_ _) | (with_reducible (refine Since.setCell ?_ ?_ _); rotate_left; focus (first | (simp; done) | (simp; omega) | omega)) | (with_reducible (refine Since.trans ?_ (by with_reducible assumption)))))
    · obtain rfl : k = m := by omega
      obtain ⟨⟨p1, p2, p3⟩, pF⟩ := hP
      obtain ⟨⟨z1, z2, z3⟩, zF⟩ := hZ
      have zF0 := zF 0
      have zF1 := zF 1
      have hzz : (k : Int) - (k : Int) = 0 := by omega
      clear pF zF
      go_wp2
      refine bodyPost_ret (by simp only [results, Try.results77]; go_simp) rfl ⟨rfl, ?_⟩
      (repeat (first | with_reducible (exact Since.refl _) | with_reducible assumption | with_reducible (refine Since.drew ?_) | with_reducible (refine Since.drewN ?_ _) | with_reducible (refine Since.alloc ?_ _) | (with_reducible (refine Since.setCell ?_ ?_ _); rotate_left; focus (first | (simp; done) | (simp; omega) | omega)) | (with_reducible (refine Since.trans ?_ (by with_reducible assumption)))))
end Go.Proofs.Ytckochcocflleaa

/-
  Layer 15: the reference's On and Good, walked.
-/
namespace Go.Proofs.Ytckochcocflleaa
open Go.RowKit
set_option linter.unusedVariables false

set_option maxHeartbeats 8000000 in
theorem r15_good (l : Ln) (w : World) : Calls Try.prog 24 #[l.v] w fun e w' => e = .returned (.bool (goodB l.ax l.ay && goodB l.bx l.bz)) ∧ Since w w' := by
  have hN := fun w b hb t => ln_new w b hb l t
  have c1 := fun w => rf_good l.ax l.ay w
  have c2 := fun w => rf_good l.bx l.bz w
  unfold Pt Ln.v at *
  generalize goodB l.ax l.ay = G1 at *
  generalize goodB l.bx l.bz = G2 at *
  have HN := Lib.hid hN
  have H1 := Lib.hid c1
  have H2 := Lib.hid c2
  clear hN c1 c2
  cases G1
  all_goals
    go_enter Try.func24, Try.ntmps24
    go_wp2_with (first | (go_at_call 22; (with_reducible refine Calls.mono (H1.out _) ?_); rintro e w1 ⟨rfl, hS1⟩; have hL := (HN.out w _ rfl _).since hS1; have hS : Since w w1 := (by (repeat (first | with_reducible (exact Since.refl _) | with_reducible assumption | with_reducible (refine Since.drew ?_) | with_reducible (refine Since.drewN ?_ _) | with_reducible (refine Since.alloc ?_ _) | (with_reducible (refine Since.setCell ?_ ?_ _); rotate_left; focus (first | (simp; done) | (simp; omega) | omega)) | (with_reducible (refine Since.trans ?_ (by with_reducible assumption)))))); clear hS1; have hLL := hL; obtain ⟨l1, l2, l3, l4, l5⟩ := hLL) | (go_at_call 22; (with_reducible refine Calls.mono (H2.out _) ?_); rintro e w2 ⟨rfl, hS2⟩; have hT2 := hS.trans hS2))
    go_ret
    exact ⟨by first | rfl | simp, by (repeat (first | with_reducible (exact Since.refl _) | with_reducible assumption | with_reducible (refine Since.drew ?_) | with_reducible (refine Since.drewN ?_ _) | with_reducible (refine Since.alloc ?_ _) | (with_reducible (refine Since.setCell ?_ ?_ _); rotate_left; focus (first | (simp; done) | (simp; omega) | omega)) | (with_reducible (refine Since.trans ?_ (by with_reducible assumption)))))⟩
end Go.Proofs.Ytckochcocflleaa
