/-
  Layer 6: 'Same' of metrics; the document's examples.
-/
import Derived.Test.YtefalfdillnkfaaLoF
import Derived.Laws.StructEq
namespace Go.Proofs.Ytefalfdillnkfaa
open Go.RowKit
set_option linter.unusedVariables false

theorem eq_mt (w : World) (x y u v : Int) : (Op.equalIn 10000 52 (.agg #[.int .i64 x, .int .i64 y]) (.agg #[.int .i64 u, .int .i64 v])).run Try.prog w = .ok (x == u && y == v) w := by
  rw [run_equalIn_struct w 9999 52 _ _ (by kernel_rfl) (by kernel_rfl)]
  have heq : ∀ (d : Nat) (a b : Int) (w : World), (Op.equalIn (d + 1) 3 (.int .i64 a) (.int .i64 b)).run Try.prog w = .ok (a == b) w := fun d a b w => run_equalIn_int w d _ _ _ a b Try.underlying3
  have hc : Try.prog.cellsOf 3 = 1 := by kernel_rfl
  simp only [Program.fieldsOf, Try.underlying52]
  by_cases h0 : x = u
  · by_cases h1 : y = v
    · simp [go_sem, h0, h1]
    · simp [go_sem, h0, h1]
  · simp [go_sem, h0]
attribute [go_sem] eq_mt
set_option maxHeartbeats 8000000 in
theorem ref_msame (A B : Option Addr) (n c d : Nat) (X Y : Nat → Int) (w : World) (h1 : Rd w w.heap.size A (n * 2) (MtV X Y)) (h2 : Rd w w.heap.size B (n * 2) (MtV X Y)) (hn : n ≤ maxLen) :
    Calls Try.prog 21 #[.slice A n c, .slice B n d] w fun e w' => e = .returned (.bool true) ∧ Since w w' := by
  have hn' : (n : Int) ≤ 9223372036854775807 := by simp only [maxLen] at hn; omega
  go_enter Try.func21, Try.ntmps21
  go_wp2
  go_loopw [13] (fun y wr => ∃ j : Nat, j ≤ n ∧ y = .int .i64 (j : Int) ∧ Since w wr) (fun y _ => n - (intOf y).toNat)
  case atStart => exact ⟨0, by omega, rfl, Since.refl _⟩
  case round =>
    obtain ⟨j, hj, rfl, hSr⟩ := hrel
    by_cases hjn : j < n
    · have hjn' : (j : Int) < n := by omega
      obtain ⟨b, o, rfl, hb, hc⟩ := h1 (by omega)
      obtain ⟨b', o', rfl, hb', hc'⟩ := h2 (by omega)
      have c1 : wr.cell? ⟨b, o + j * 2, none⟩ = some (.int .i64 (X j)) := (hSr.1 _ _ hb).trans ((hc (j * 2) (by omega)).trans (by rw [mtv_even]))
      have c2 : wr.cell? ⟨b, o + j * 2 + 1, none⟩ = some (.int .i64 (Y j)) := (hSr.1 _ _ hb).trans ((hc (j * 2 + 1) (by omega)).trans (by rw [mtv_odd]))
      have e1 : wr.cell? ⟨b', o' + j * 2, none⟩ = some (.int .i64 (X j)) := (hSr.1 _ _ hb').trans ((hc' (j * 2) (by omega)).trans (by rw [mtv_even]))
      have e2 : wr.cell? ⟨b', o' + j * 2 + 1, none⟩ = some (.int .i64 (Y j)) := (hSr.1 _ _ hb').trans ((hc' (j * 2 + 1) (by omega)).trans (by rw [mtv_odd]))
      have hj0 : (0 : Int) ≤ j := by omega
      generalize X j = x at *
      generalize Y j = y at *
      clear hc hc' h1 h2
      go_wp2_with fail
      go_quiet (fail)
      go_wp2
      refine ⟨⟨j + 1, by omega, by simp, by (repeat (first | with_reducible (exact Since.refl _) | with_reducible assumption | with_reducible (refine Since.drew ?_) | with_reducible (refine Since.drewN ?_ _) | with_reducible (refine Since.alloc ?_ _) | (with_reducible (refine Since.setCell ?_ ?_ _); rotate_left; focus (first | (simp; done) | (simp; omega) | omega)) | (with_reducible (refine Since.trans ?_ (by with_reducible assumption)))))⟩, by simp [intOf]; omega⟩
    · obtain rfl : j = n := by omega
      clear h1 h2
      go_wp2
      go_ret
      exact ⟨rfl, hSr⟩

def nth (l : List Int) (j : Nat) : Int := l.getD j 0
theorem nth_bytes {l : List Int} (h : l.all (fun x => decide (0 ≤ x ∧ x ≤ 255)) = true) : ∀ j, j < l.length → 0 ≤ nth l j ∧ nth l j ≤ 255 := fun j hj => by
  have h1 := List.all_eq_true.1 h (l[j]) (List.getElem_mem hj)
  simp only [decide_eq_true_eq] at h1
  unfold nth
  rw [List.getD_eq_getElem?_getD, List.getElem?_eq_getElem hj]
  exact h1
theorem rd_bytes (w : World) (b : Nat) (hb : b = w.heap.size) (l : List Int) (n : Nat) (hn : l.length = n) (cs : Array Value) (t : TypeId) (hcs : cs = (l.map (Value.int .u8)).toArray) : Rd (w.alloc (.cells cs t)) (w.alloc (.cells cs t)).heap.size (some ⟨b, 0, none⟩) n (U8 (nth l)) := by
  subst hcs
  refine rd_lit hb (fun j hj => ?_)
  simp [U8, IntRow, nth, show j < l.length by omega]
theorem rd_ints (w : World) (b : Nat) (hb : b = w.heap.size) (l : List Int) (n : Nat) (hn : l.length = n) (cs : Array Value) (t : TypeId) (hcs : cs = (l.map (Value.int .i64)).toArray) : Rd (w.alloc (.cells cs t)) (w.alloc (.cells cs t)).heap.size (some ⟨b, 0, none⟩) n (I64 (nth l)) := by
  subst hcs
  refine rd_lit hb (fun j hj => ?_)
  simp [I64, IntRow, nth, show j < l.length by omega]
theorem al_read (w : World) (b : Nat) (hb : b = w.heap.size) (t : TypeId) : Calls Try.prog 11 #[.slice (some ⟨b, 0, none⟩) 6 6, .bool false, .int .i64 2] (w.alloc (.cells #[.int .u8 0, .int .u8 0, .int .u8 0, .int .u8 2, .int .u8 0, .int .u8 5] t)) fun e w' => ∃ A c, e = .returned (.tuple #[.slice A 3 c, .int .i64 0]) ∧ Rd w' w'.heap.size A 3 (I64 (nth [0, 4, 10])) ∧ Since (w.alloc (.cells #[.int .u8 0, .int .u8 0, .int .u8 0, .int .u8 2, .int .u8 0, .int .u8 5] t)) w' := by
  refine (lo_read2 _ 6 6 _ 2 _ (rd_bytes w b hb [0, 0, 0, 2, 0, 5] 6 rfl _ t rfl) (nth_bytes (l := [0, 0, 0, 2, 0, 5]) (by decide)) (by unfold In64; omega) (by omega)).mono ?_
  rintro e w' ⟨A, c, rfl, hc, hr, hS⟩
  have e1 : rdE (nth [0, 0, 0, 2, 0, 5]) 6 false 2 = 0 := by decide +kernel
  have e2 : rdN (nth [0, 0, 0, 2, 0, 5]) 6 false 2 = 3 := by decide +kernel
  rw [e2] at hr hc ⊢
  rw [e1]
  refine ⟨A, c, rfl, hr.congr (fun j hj => ?_), hS⟩
  have h : j = 0 ∨ j = 1 ∨ j = 2 := by omega
  rcases h with rfl | rfl | rfl <;> (simp only [I64, IntRow]; congr 1)
theorem al_metrics (w : World) (b : Nat) (hb : b = w.heap.size) (t : TypeId) : Calls Try.prog 19 #[.slice (some ⟨b, 0, none⟩) 6 6, .int .i64 1, .int .i64 2] (w.alloc (.cells #[.int .u8 1, .int .u8 244, .int .u8 0, .int .u8 10, .int .u8 255, .int .u8 254] t)) fun e w' => ∃ b o c, e = .returned (.tuple #[.slice (some ⟨b, o, none⟩) 2 c, .int .i64 0]) ∧ b < w'.heap.size ∧ w'.cell? ⟨b, o + 2, none⟩ = some (.int .i64 500) ∧ w'.cell? ⟨b, o + 3, none⟩ = some (.int .i64 (-2)) ∧ Since (w.alloc (.cells #[.int .u8 1, .int .u8 244, .int .u8 0, .int .u8 10, .int .u8 255, .int .u8 254] t)) w' := by
  refine (lo_metrics _ 6 6 _ 1 2 _ (rd_bytes w b hb [1, 244, 0, 10, 255, 254] 6 rfl _ t rfl) (nth_bytes (l := [1, 244, 0, 10, 255, 254]) (by decide)) (by unfold In64; omega) (by unfold In64; omega) (by omega)).mono ?_
  rintro e w' ⟨A, c, rfl, hc, hr, hS⟩
  have e1 : mtE 6 1 2 = 0 := by decide +kernel
  have e2 : mtN 6 1 2 = 2 := by decide +kernel
  rw [e2] at hr hc ⊢
  rw [e1]
  obtain ⟨b', o, rfl, hb', hcell⟩ := hr (by omega)
  refine ⟨b', o, c, rfl, hb', (hcell 2 (by omega)).trans ?_, (hcell 3 (by omega)).trans ?_, hS⟩
  · congr 1
  · congr 1
theorem al_long (w : World) (b : Nat) (hb : b = w.heap.size) (t : TypeId) : Calls Try.prog 17 #[.slice (some ⟨b, 0, none⟩) 3 3] (w.alloc (.cells #[.int .i64 0, .int .i64 4, .int .i64 9] t)) fun e w' => e = .returned (.bool true) ∧ Since (w.alloc (.cells #[.int .i64 0, .int .i64 4, .int .i64 9] t)) w' := by
  have h := lo_long _ 3 3 _ _ (by decide) (rd_ints w b hb [0, 4, 9] 3 rfl _ t rfl)
  have e1 : (wrE false (nth [0, 4, 9]) 3 != 0) = true := by decide +kernel
  rw [e1] at h
  exact h
set_option maxRecDepth 100000 in
set_option maxHeartbeats 8000000 in
theorem alive06 (w : World) : Calls Try.prog 9 #[] w fun e w' => e = .returned (.bool true) ∧ Since w w' := by
  go_enter Try.func9, Try.ntmps9
  go_wp2_with (first | (go_at_call 11; (with_reducible refine (al_read _ _ (by simp) _).mono ?_); rintro e w1 ⟨A1, c1, rfl, hR1, hS1⟩; have hT1 : Since w w1 := (by (repeat (first | with_reducible (exact Since.refl _) | with_reducible assumption | with_reducible (refine Since.drew ?_) | with_reducible (refine Since.drewN ?_ _) | with_reducible (refine Since.alloc ?_ _) | (with_reducible (refine Since.setCell ?_ ?_ _); rotate_left; focus (first | (simp; done) | (simp; omega) | omega)) | (with_reducible (refine Since.trans ?_ (by with_reducible assumption)))))); clear hS1) | (go_at_call 19; (with_reducible refine (al_metrics _ _ (by simp) _).mono ?_); rintro e w2 ⟨b2, o2, c2, rfl, hb2, hm1, hm2, hS2⟩; have hR2 := hR1.on ((Since.alloc (Since.refl w1) _).trans hS2); have hT2 : Since w w2 := (by (repeat (first | with_reducible (exact Since.refl _) | with_reducible assumption | with_reducible (refine Since.drew ?_) | with_reducible (refine Since.drewN ?_ _) | with_reducible (refine Since.alloc ?_ _) | (with_reducible (refine Since.setCell ?_ ?_ _); rotate_left; focus (first | (simp; done) | (simp; omega) | omega)) | (with_reducible (refine Since.trans ?_ (by with_reducible assumption)))))); clear hS2 hT1 hR1) | (go_at_call 13; refine (ref_ints A1 _ 3 c1 _ (nth [0, 4, 10]) _ (hR2.on ((Since.refl w2).alloc _)) (rd_ints w2 _ (by simp) [0, 4, 10] 3 rfl _ _ rfl) (by decide)).mono ?_; rintro e w3 ⟨rfl, hS3⟩; have hT3 : Since w2 w3 := (by (repeat (first | with_reducible (exact Since.refl _) | with_reducible assumption | with_reducible (refine Since.drew ?_) | with_reducible (refine Since.drewN ?_ _) | with_reducible (refine Since.alloc ?_ _) | (with_reducible (refine Since.setCell ?_ ?_ _); rotate_left; focus (first | (simp; done) | (simp; omega) | omega)) | (with_reducible (refine Since.trans ?_ (by with_reducible assumption)))))); clear hS3 hR2) | (go_at_call 17; (with_reducible refine (al_long _ _ (by simp) _).mono ?_); rintro e w4 ⟨rfl, hS4⟩; have hT4 : Since w2 w4 := (by (repeat (first | with_reducible (exact Since.refl _) | with_reducible assumption | with_reducible (refine Since.drew ?_) | with_reducible (refine Since.drewN ?_ _) | with_reducible (refine Since.alloc ?_ _) | (with_reducible (refine Since.setCell ?_ ?_ _); rotate_left; focus (first | (simp; done) | (simp; omega) | omega)) | (with_reducible (refine Since.trans ?_ (by with_reducible assumption)))))); have hk1 := (hT4.1 _ (o2 + 2) hb2).trans hm1; have hk2 := (hT4.1 _ (o2 + 3) hb2).trans hm2; clear hS4 hm1 hm2 hT3))
  go_ret
  exact ⟨by first | rfl | simp, hT2.trans hT4⟩
end Go.Proofs.Ytefalfdillnkfaa
