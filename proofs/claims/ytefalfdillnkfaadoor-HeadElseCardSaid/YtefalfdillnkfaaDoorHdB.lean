/-
  Layer 5: the reference's 'Head'; 'put' and 'lay'.
-/
import Derived.Test.YtefalfdillnkfaaDoorHdA
namespace Go.Proofs.YtefalfdillnkfaaDoor
open Go.RowKit
set_option linter.unusedVariables false

theorem rf_at (A : Option Addr) (n c : Nat) (f : Nat → Int) (p : Nat) (x : Int) (w : World) (h : Rd w w.heap.size A n (U8 f)) (hf : ∀ j, j < n → 0 ≤ f j ∧ f j ≤ 255) (hx : x = p) (hp : p + 2 ≤ n) (hn : n ≤ 140737488355328) :
    Calls Tryd.prog 25 #[.slice A n c, .int .i64 x] w fun e w' => e = .returned (.int .i64 (numAt f p 2)) ∧ w' = w := by
  subst hx
  have hU := ru_in A n c f p 2 p 2 w h hf rfl rfl (by omega) hp hn
  clear h
  go_enter Tryd.func25, Tryd.ntmps25
  go_wp2_with (go_at_call 31; (with_reducible refine hU.mono ?_); rintro e w1 ⟨rfl, rfl⟩)
  go_ret
  exact ⟨rfl, rfl⟩
theorem rf_signed (A : Option Addr) (n c : Nat) (f : Nat → Int) (p : Nat) (x : Int) (w : World) (h : Rd w w.heap.size A n (U8 f)) (hf : ∀ j, j < n → 0 ≤ f j ∧ f j ≤ 255) (hx : x = p) (hp : p + 2 ≤ n) (hn : n ≤ 140737488355328) :
    Calls Tryd.prog 26 #[.slice A n c, .int .i64 x] w fun e w' => e = .returned (.int .i64 (sgn 2 (numAt f p 2))) ∧ w' = w := by
  subst hx
  have hU := rs_in A n c f p 2 p 2 w h hf rfl rfl (by omega) hp hn
  clear h
  go_enter Tryd.func26, Tryd.ntmps26
  go_wp2_with (go_at_call 32; (with_reducible refine hU.mono ?_); rintro e w1 ⟨rfl, rfl⟩)
  go_ret
  exact ⟨rfl, rfl⟩
def shortB (x : Int) : Bool := decide (-32768 ≤ x) && decide (x ≤ 32767)
theorem rf_short (x : Int) (w : World) : Calls Tryd.prog 28 #[.int .i64 x] w fun e w' => e = .returned (.bool (shortB x)) ∧ w' = w := by
  by_cases h : -32768 ≤ x
  · have e : shortB x = decide (x ≤ 32767) := by unfold shortB; rw [decide_eq_true h, Bool.true_and]
    have E := Lib.hid e; clear e
    go_enter Tryd.func28, Tryd.ntmps28
    go_wp2
    go_ret
    exact ⟨by rw [E.out]; rfl, rfl⟩
  · have e : shortB x = false := by unfold shortB; rw [decide_eq_false h, Bool.false_and]
    have E := Lib.hid e; clear e
    go_enter Tryd.func28, Tryd.ntmps28
    go_wp2
    go_ret
    exact ⟨by rw [E.out]; rfl, rfl⟩

set_option maxHeartbeats 4000000 in
theorem hd_put (A : Option Addr) (n c : Nat) (f : Nat → Int) (p : Nat) (x y : Int) (w : World) (h : Rd w w.heap.size A n (U8 f)) (hx : x = p) (hy : In64 y) (hp : p + 2 ≤ n) (hn : n ≤ 140737488355328) :
    Calls Tryd.prog 27 #[.slice A n c, .int .i64 x, .int .i64 y] w fun e w' => ∃ A' c', e = .returned (.slice A' n c') ∧ n ≤ c' ∧ Nw w' w.heap.size A' n (U8 (lay2 f p y)) ∧ Since w w' := by
  subst hx
  have hP := put_in 2 y 2 w hy rfl (by omega)
  have HL := Lib.hid (fun (g : Nat) (w1 : World) (hS : Since w w1) (hR : Row w1 g 2 (U8 (byteOf y 2))) => lay_in A (some ⟨g, 0, none⟩) n c 2 2 f (byteOf y 2) p p w1 (h.on hS) (Rd.of_row hR) rfl hn hp)
  clear h
  go_enter Tryd.func27, Tryd.ntmps27
  go_wp2_with (first | (go_at_call 34; (with_reducible refine hP.mono ?_); rintro e w1 ⟨g, rfl, hg, hR, hS1⟩) | (go_at_call 33; (with_reducible refine (HL.out g _ hS1 hR).mono ?_); rintro e w2 ⟨A', c', rfl, hc', hN, hS2⟩))
  go_ret
  refine ⟨A', c', rfl, hc', ?_, hS1.trans hS2⟩
  rw [lay2_is] at hN
  exact hN.low hS1.below.size

set_option maxHeartbeats 4000000 in
theorem rf_lay (A : Option Addr) (n c : Nat) (f : Nat → Int) (p : Nat) (x y : Int) (w : World) (h : Rd w w.heap.size A n (U8 f)) (hx : x = p) (hy : In64 y) (hp : p + 2 ≤ n) (hn : n ≤ 140737488355328) :
    Calls Tryd.prog 29 #[.slice A n c, .int .i64 x, .int .i64 y] w fun e w' => ∃ A' c', e = .returned (.slice A' n c') ∧ n ≤ c' ∧ Nw w' w.heap.size A' n (U8 (lay2 f p y)) ∧ Since w w' := by
  subst hx
  have hP := rput_in 2 y 2 w hy rfl (by omega)
  have HL := Lib.hid (fun (g : Nat) (w1 : World) (hS : Since w w1) (hR : Row w1 g 2 (U8 (byteOf y 2))) => rlay_in A (some ⟨g, 0, none⟩) n c 2 2 f (byteOf y 2) p p w1 (h.on hS) (Rd.of_row hR) rfl hn hp)
  clear h
  go_enter Tryd.func29, Tryd.ntmps29
  go_wp2_with (first | (go_at_call 36; (with_reducible refine hP.mono ?_); rintro e w1 ⟨g, rfl, hg, hR, hS1⟩) | (go_at_call 35; (with_reducible refine (HL.out g _ hS1 hR).mono ?_); rintro e w2 ⟨A', c', rfl, hc', hN, hS2⟩))
  go_ret
  refine ⟨A', c', rfl, hc', ?_, hS1.trans hS2⟩
  rw [lay2_is] at hN
  exact hN.low hS1.below.size


set_option maxRecDepth 100000 in
set_option maxHeartbeats 8000000 in
theorem rf_head (A : Option Addr) (n c : Nat) (f : Nat → Int) (w : World) (h : Rd w w.heap.size A n (U8 f)) (hf : ∀ j, j < n → 0 ≤ f j ∧ f j ≤ 255) (hn : n ≤ 140737488355328) :
    Calls Tryd.prog 13 #[.slice A n c] w (HdPost f n w) := by
  have hn' : (n : Int) ≤ 140737488355328 := by omega
  by_cases h1 : n < 54
  · have E := Lib.hid (show hdE f n = 3 by unfold hdE; rw [if_pos h1])
    have h1' : (n : Int) < 54 := by omega
    clear h
    go_enter Tryd.func13, Tryd.ntmps13
    go_wp2
    refine bodyPost_ret (v := .tuple #[.agg #[.int .i64 0, .int .i64 0, .int .i64 0, .int .i64 0, .int .i64 0, .bool false], .int .i64 3]) (by simp only [results, Tryd.results13]; go_simp) rfl ?_
    exact hd_bad E.out (by decide) (by (repeat (first | with_reducible (exact Since.refl _) | with_reducible assumption | with_reducible (refine Since.drew ?_) | with_reducible (refine Since.drewN ?_ _) | with_reducible (refine Since.alloc ?_ _) | (with_reducible (refine Since.setCell ?_ ?_ _); rotate_left; focus (first | (simp; done) | (simp; omega) | omega)) | (with_reducible (refine Since.trans ?_ (by with_reducible assumption))))))
  have h1' : (54 : Int) ≤ n := by omega
  have u12 : ∀ w1, Since w w1 → Calls Tryd.prog 25 #[.slice A n c, .int .i64 12] w1 fun e w' => e = .returned (.int .i64 (numAt f 12 2)) ∧ w' = w1 := fun w1 hS => rf_at A n c f 12 12 w1 (h.on hS) hf rfl (by omega) hn
  have u14 : ∀ w1, Since w w1 → Calls Tryd.prog 25 #[.slice A n c, .int .i64 14] w1 fun e w' => e = .returned (.int .i64 (numAt f 14 2)) ∧ w' = w1 := fun w1 hS => rf_at A n c f 14 14 w1 (h.on hS) hf rfl (by omega) hn
  have u18 : ∀ w1, Since w w1 → Calls Tryd.prog 25 #[.slice A n c, .int .i64 18] w1 fun e w' => e = .returned (.int .i64 (numAt f 18 2)) ∧ w' = w1 := fun w1 hS => rf_at A n c f 18 18 w1 (h.on hS) hf rfl (by omega) hn
  have u50 : ∀ w1, Since w w1 → Calls Tryd.prog 25 #[.slice A n c, .int .i64 50] w1 fun e w' => e = .returned (.int .i64 (numAt f 50 2)) ∧ w' = w1 := fun w1 hS => rf_at A n c f 50 50 w1 (h.on hS) hf rfl (by omega) hn
  have s36 : ∀ w1, Since w w1 → Calls Tryd.prog 26 #[.slice A n c, .int .i64 36] w1 fun e w' => e = .returned (.int .i64 (sgn 2 (numAt f 36 2))) ∧ w' = w1 := fun w1 hS => rf_signed A n c f 36 36 w1 (h.on hS) hf rfl (by omega) hn
  have s38 : ∀ w1, Since w w1 → Calls Tryd.prog 26 #[.slice A n c, .int .i64 38] w1 fun e w' => e = .returned (.int .i64 (sgn 2 (numAt f 38 2))) ∧ w' = w1 := fun w1 hS => rf_signed A n c f 38 38 w1 (h.on hS) hf rfl (by omega) hn
  have s40 : ∀ w1, Since w w1 → Calls Tryd.prog 26 #[.slice A n c, .int .i64 40] w1 fun e w' => e = .returned (.int .i64 (sgn 2 (numAt f 40 2))) ∧ w' = w1 := fun w1 hS => rf_signed A n c f 40 40 w1 (h.on hS) hf rfl (by omega) hn
  have s42 : ∀ w1, Since w w1 → Calls Tryd.prog 26 #[.slice A n c, .int .i64 42] w1 fun e w' => e = .returned (.int .i64 (sgn 2 (numAt f 42 2))) ∧ w' = w1 := fun w1 hS => rf_signed A n c f 42 42 w1 (h.on hS) hf rfl (by omega) hn
  have r12 := numAt_small (f := f) (p := 12) (j := 2) (by omega) (fun i hi => hf i (by omega))
  have r14 := numAt_small (f := f) (p := 14) (j := 2) (by omega) (fun i hi => hf i (by omega))
  have q14 : numAt f 14 2 ≤ 65535 := by have := numAt_range (f := f) (p := 14) (k := 2) (fun i hi => hf i (by omega)); simp only [Int.reducePow] at this; omega
  have h4 : numAt f 12 4 = 65536 * numAt f 12 2 + numAt f 14 2 := num_four f 12
  have hE : hdE f n = if numAt f 12 4 ≠ 1594834165 ∨ numAt f 18 2 < 16 ∨ 16384 < numAt f 18 2 ∨ 1 < numAt f 50 2 then 4 else 0 := by unfold hdE; rw [if_neg h1]
  rw [h4] at hE
  have HG : ∀ (w' : World), Since w w' → hdE f n = 0 → HdPost f n w (.returned (.tuple #[HdV (numAt f 18 2) (sgn 2 (numAt f 36 2)) (sgn 2 (numAt f 38 2)) (sgn 2 (numAt f 40 2)) (sgn 2 (numAt f 42 2)) (numAt f 50 2 == 1), .int .i64 0])) w' := fun w' hS h0 => hd_good h0 rfl rfl rfl rfl rfl rfl hS
  clear h h4
  generalize numAt f 12 2 = x12 at *
  generalize numAt f 14 2 = x14 at *
  generalize numAt f 18 2 = x18 at *
  generalize numAt f 50 2 = x50 at *
  generalize sgn 2 (numAt f 36 2) = y36 at *
  generalize sgn 2 (numAt f 38 2) = y38 at *
  generalize sgn 2 (numAt f 40 2) = y40 at *
  generalize sgn 2 (numAt f 42 2) = y42 at *
  have U12 := Lib.hid u12; have U14 := Lib.hid u14; have U18 := Lib.hid u18; have U50 := Lib.hid u50
  have S36 := Lib.hid s36; have S38 := Lib.hid s38; have S40 := Lib.hid s40; have S42 := Lib.hid s42
  clear u12 u14 u18 u50 s36 s38 s40 s42
  by_cases hbad : 65536 * x12 + x14 ≠ 1594834165 ∨ x18 < 16 ∨ 16384 < x18 ∨ 1 < x50
  · have E := Lib.hid (show hdE f n = 4 by rw [hE, if_pos hbad])
    have hb : x12 ≠ 24335 ∨ (x12 = 24335 ∧ x14 ≠ 15605) ∨ (x12 = 24335 ∧ x14 = 15605 ∧ x18 < 16) ∨ (x12 = 24335 ∧ x14 = 15605 ∧ 16 ≤ x18 ∧ 16384 < x18) ∨ (x12 = 24335 ∧ x14 = 15605 ∧ 16 ≤ x18 ∧ x18 ≤ 16384 ∧ 1 < x50) := by omega
    clear hbad hE HG
    rcases hb with h0 | ⟨rfl, h0⟩ | ⟨rfl, rfl, h2⟩ | ⟨rfl, rfl, h2, h3⟩ | ⟨rfl, rfl, h2, h3, h4⟩
    · have d0 : (x12 != 24335) = true := by simpa using h0
      go_enter Tryd.func13, Tryd.ntmps13
      go_wp2_with (first | (go_at_call 25; (first | (with_reducible refine Calls.mono (U12.out _ ?_) ?_) | (with_reducible refine Calls.mono (U14.out _ ?_) ?_) | (with_reducible refine Calls.mono (U18.out _ ?_) ?_) | (with_reducible refine Calls.mono (U50.out _ ?_) ?_)); (focus (repeat (first | with_reducible (exact Since.refl _) | with_reducible assumption | with_reducible (refine Since.drew ?_) | with_reducible (refine Since.drewN ?_ _) | with_reducible (refine Since.alloc ?_ _) | (with_reducible (refine Since.setCell ?_ ?_ _); rotate_left; focus (first | (simp; done) | (simp; omega) | omega)) | (with_reducible (refine Since.trans ?_ (by with_reducible assumption)))))); rintro e w1 ⟨rfl, rfl⟩) | (go_at_call 26; (first | (with_reducible refine Calls.mono (S36.out _ ?_) ?_) | (with_reducible refine Calls.mono (S38.out _ ?_) ?_) | (with_reducible refine Calls.mono (S40.out _ ?_) ?_) | (with_reducible refine Calls.mono (S42.out _ ?_) ?_)); (focus (repeat (first | with_reducible (exact Since.refl _) | with_reducible assumption | with_reducible (refine Since.drew ?_) | with_reducible (refine Since.drewN ?_ _) | with_reducible (refine Since.alloc ?_ _) | (with_reducible (refine Since.setCell ?_ ?_ _); rotate_left; focus (first | (simp; done) | (simp; omega) | omega)) | (with_reducible (refine Since.trans ?_ (by with_reducible assumption)))))); rintro e w1 ⟨rfl, rfl⟩))
      refine bodyPost_ret (v := .tuple #[.agg #[.int .i64 0, .int .i64 0, .int .i64 0, .int .i64 0, .int .i64 0, .bool false], .int .i64 4]) (by simp only [results, Tryd.results13]; go_simp) rfl ?_
      exact hd_bad E.out (by decide) (by (repeat (first | with_reducible (exact Since.refl _) | with_reducible assumption | with_reducible (refine Since.drew ?_) | with_reducible (refine Since.drewN ?_ _) | with_reducible (refine Since.alloc ?_ _) | (with_reducible (refine Since.setCell ?_ ?_ _); rotate_left; focus (first | (simp; done) | (simp; omega) | omega)) | (with_reducible (refine Since.trans ?_ (by with_reducible assumption))))))
    · have d0 : (x14 != 15605) = true := by simpa using h0
      go_enter Tryd.func13, Tryd.ntmps13
      go_wp2_with (first | (go_at_call 25; (first | (with_reducible refine Calls.mono (U12.out _ ?_) ?_) | (with_reducible refine Calls.mono (U14.out _ ?_) ?_) | (with_reducible refine Calls.mono (U18.out _ ?_) ?_) | (with_reducible refine Calls.mono (U50.out _ ?_) ?_)); (focus (repeat (first | with_reducible (exact Since.refl _) | with_reducible assumption | with_reducible (refine Since.drew ?_) | with_reducible (refine Since.drewN ?_ _) | with_reducible (refine Since.alloc ?_ _) | (with_reducible (refine Since.setCell ?_ ?_ _); rotate_left; focus (first | (simp; done) | (simp; omega) | omega)) | (with_reducible (refine Since.trans ?_ (by with_reducible assumption)))))); rintro e w1 ⟨rfl, rfl⟩) | (go_at_call 26; (first | (with_reducible refine Calls.mono (S36.out _ ?_) ?_) | (with_reducible refine Calls.mono (S38.out _ ?_) ?_) | (with_reducible refine Calls.mono (S40.out _ ?_) ?_) | (with_reducible refine Calls.mono (S42.out _ ?_) ?_)); (focus (repeat (first | with_reducible (exact Since.refl _) | with_reducible assumption | with_reducible (refine Since.drew ?_) | with_reducible (refine Since.drewN ?_ _) | with_reducible (refine Since.alloc ?_ _) | (with_reducible (refine Since.setCell ?_ ?_ _); rotate_left; focus (first | (simp; done) | (simp; omega) | omega)) | (with_reducible (refine Since.trans ?_ (by with_reducible assumption)))))); rintro e w1 ⟨rfl, rfl⟩))
      refine bodyPost_ret (v := .tuple #[.agg #[.int .i64 0, .int .i64 0, .int .i64 0, .int .i64 0, .int .i64 0, .bool false], .int .i64 4]) (by simp only [results, Tryd.results13]; go_simp) rfl ?_
      exact hd_bad E.out (by decide) (by (repeat (first | with_reducible (exact Since.refl _) | with_reducible assumption | with_reducible (refine Since.drew ?_) | with_reducible (refine Since.drewN ?_ _) | with_reducible (refine Since.alloc ?_ _) | (with_reducible (refine Since.setCell ?_ ?_ _); rotate_left; focus (first | (simp; done) | (simp; omega) | omega)) | (with_reducible (refine Since.trans ?_ (by with_reducible assumption))))))
    · go_enter Tryd.func13, Tryd.ntmps13
      go_wp2_with (first | (go_at_call 25; (first | (with_reducible refine Calls.mono (U12.out _ ?_) ?_) | (with_reducible refine Calls.mono (U14.out _ ?_) ?_) | (with_reducible refine Calls.mono (U18.out _ ?_) ?_) | (with_reducible refine Calls.mono (U50.out _ ?_) ?_)); (focus (repeat (first | with_reducible (exact Since.refl _) | with_reducible assumption | with_reducible (refine Since.drew ?_) | with_reducible (refine Since.drewN ?_ _) | with_reducible (refine Since.alloc ?_ _) | (with_reducible (refine Since.setCell ?_ ?_ _); rotate_left; focus (first | (simp; done) | (simp; omega) | omega)) | (with_reducible (refine Since.trans ?_ (by with_reducible assumption)))))); rintro e w1 ⟨rfl, rfl⟩) | (go_at_call 26; (first | (with_reducible refine Calls.mono (S36.out _ ?_) ?_) | (with_reducible refine Calls.mono (S38.out _ ?_) ?_) | (with_reducible refine Calls.mono (S40.out _ ?_) ?_) | (with_reducible refine Calls.mono (S42.out _ ?_) ?_)); (focus (repeat (first | with_reducible (exact Since.refl _) | with_reducible assumption | with_reducible (refine Since.drew ?_) | with_reducible (refine Since.drewN ?_ _) | with_reducible (refine Since.alloc ?_ _) | (with_reducible (refine Since.setCell ?_ ?_ _); rotate_left; focus (first | (simp; done) | (simp; omega) | omega)) | (with_reducible (refine Since.trans ?_ (by with_reducible assumption)))))); rintro e w1 ⟨rfl, rfl⟩))
      refine bodyPost_ret (v := .tuple #[.agg #[.int .i64 0, .int .i64 0, .int .i64 0, .int .i64 0, .int .i64 0, .bool false], .int .i64 4]) (by simp only [results, Tryd.results13]; go_simp) rfl ?_
      exact hd_bad E.out (by decide) (by (repeat (first | with_reducible (exact Since.refl _) | with_reducible assumption | with_reducible (refine Since.drew ?_) | with_reducible (refine Since.drewN ?_ _) | with_reducible (refine Since.alloc ?_ _) | (with_reducible (refine Since.setCell ?_ ?_ _); rotate_left; focus (first | (simp; done) | (simp; omega) | omega)) | (with_reducible (refine Since.trans ?_ (by with_reducible assumption))))))
    · go_enter Tryd.func13, Tryd.ntmps13
      go_wp2_with (first | (go_at_call 25; (first | (with_reducible refine Calls.mono (U12.out _ ?_) ?_) | (with_reducible refine Calls.mono (U14.out _ ?_) ?_) | (with_reducible refine Calls.mono (U18.out _ ?_) ?_) | (with_reducible refine Calls.mono (U50.out _ ?_) ?_)); (focus (repeat (first | with_reducible (exact Since.refl _) | with_reducible assumption | with_reducible (refine Since.drew ?_) | with_reducible (refine Since.drewN ?_ _) | with_reducible (refine Since.alloc ?_ _) | (with_reducible (refine Since.setCell ?_ ?_ _); rotate_left; focus (first | (simp; done) | (simp; omega) | omega)) | (with_reducible (refine Since.trans ?_ (by with_reducible assumption)))))); rintro e w1 ⟨rfl, rfl⟩) | (go_at_call 26; (first | (with_reducible refine Calls.mono (S36.out _ ?_) ?_) | (with_reducible refine Calls.mono (S38.out _ ?_) ?_) | (with_reducible refine Calls.mono (S40.out _ ?_) ?_) | (with_reducible refine Calls.mono (S42.out _ ?_) ?_)); (focus (repeat (first | with_reducible (exact Since.refl _) | with_reducible assumption | with_reducible (refine Since.drew ?_) | with_reducible (refine Since.drewN ?_ _) | with_reducible (refine Since.alloc ?_ _) | (with_reducible (refine Since.setCell ?_ ?_ _); rotate_left; focus (first | (simp; done) | (simp; omega) | omega)) | (with_reducible (refine Since.trans ?_ (by with_reducible assumption)))))); rintro e w1 ⟨rfl, rfl⟩))
      refine bodyPost_ret (v := .tuple #[.agg #[.int .i64 0, .int .i64 0, .int .i64 0, .int .i64 0, .int .i64 0, .bool false], .int .i64 4]) (by simp only [results, Tryd.results13]; go_simp) rfl ?_
      exact hd_bad E.out (by decide) (by (repeat (first | with_reducible (exact Since.refl _) | with_reducible assumption | with_reducible (refine Since.drew ?_) | with_reducible (refine Since.drewN ?_ _) | with_reducible (refine Since.alloc ?_ _) | (with_reducible (refine Since.setCell ?_ ?_ _); rotate_left; focus (first | (simp; done) | (simp; omega) | omega)) | (with_reducible (refine Since.trans ?_ (by with_reducible assumption))))))
    · go_enter Tryd.func13, Tryd.ntmps13
      go_wp2_with (first | (go_at_call 25; (first | (with_reducible refine Calls.mono (U12.out _ ?_) ?_) | (with_reducible refine Calls.mono (U14.out _ ?_) ?_) | (with_reducible refine Calls.mono (U18.out _ ?_) ?_) | (with_reducible refine Calls.mono (U50.out _ ?_) ?_)); (focus (repeat (first | with_reducible (exact Since.refl _) | with_reducible assumption | with_reducible (refine Since.drew ?_) | with_reducible (refine Since.drewN ?_ _) | with_reducible (refine Since.alloc ?_ _) | (with_reducible (refine Since.setCell ?_ ?_ _); rotate_left; focus (first | (simp; done) | (simp; omega) | omega)) | (with_reducible (refine Since.trans ?_ (by with_reducible assumption)))))); rintro e w1 ⟨rfl, rfl⟩) | (go_at_call 26; (first | (with_reducible refine Calls.mono (S36.out _ ?_) ?_) | (with_reducible refine Calls.mono (S38.out _ ?_) ?_) | (with_reducible refine Calls.mono (S40.out _ ?_) ?_) | (with_reducible refine Calls.mono (S42.out _ ?_) ?_)); (focus (repeat (first | with_reducible (exact Since.refl _) | with_reducible assumption | with_reducible (refine Since.drew ?_) | with_reducible (refine Since.drewN ?_ _) | with_reducible (refine Since.alloc ?_ _) | (with_reducible (refine Since.setCell ?_ ?_ _); rotate_left; focus (first | (simp; done) | (simp; omega) | omega)) | (with_reducible (refine Since.trans ?_ (by with_reducible assumption)))))); rintro e w1 ⟨rfl, rfl⟩))
      refine bodyPost_ret (v := .tuple #[.agg #[.int .i64 0, .int .i64 0, .int .i64 0, .int .i64 0, .int .i64 0, .bool false], .int .i64 4]) (by simp only [results, Tryd.results13]; go_simp) rfl ?_
      exact hd_bad E.out (by decide) (by (repeat (first | with_reducible (exact Since.refl _) | with_reducible assumption | with_reducible (refine Since.drew ?_) | with_reducible (refine Since.drewN ?_ _) | with_reducible (refine Since.alloc ?_ _) | (with_reducible (refine Since.setCell ?_ ?_ _); rotate_left; focus (first | (simp; done) | (simp; omega) | omega)) | (with_reducible (refine Since.trans ?_ (by with_reducible assumption))))))
  · have G := Lib.hid (fun w' (hS : Since w w') => HG w' hS (by rw [hE, if_neg hbad]))
    obtain ⟨rfl, rfl, h2, h3, h4⟩ : x12 = 24335 ∧ x14 = 15605 ∧ 16 ≤ x18 ∧ x18 ≤ 16384 ∧ x50 ≤ 1 := by omega
    clear hbad hE HG
    go_enter Tryd.func13, Tryd.ntmps13
    go_wp2_with (first | (go_at_call 25; (first | (with_reducible refine Calls.mono (U12.out _ ?_) ?_) | (with_reducible refine Calls.mono (U14.out _ ?_) ?_) | (with_reducible refine Calls.mono (U18.out _ ?_) ?_) | (with_reducible refine Calls.mono (U50.out _ ?_) ?_)); (focus (repeat (first | with_reducible (exact Since.refl _) | with_reducible assumption | with_reducible (refine Since.drew ?_) | with_reducible (refine Since.drewN ?_ _) | with_reducible (refine Since.alloc ?_ _) | (with_reducible (refine Since.setCell ?_ ?_ _); rotate_left; focus (first | (simp; done) | (simp; omega) | omega)) | (with_reducible (refine Since.trans ?_ (by with_reducible assumption)))))); rintro e w1 ⟨rfl, rfl⟩) | (go_at_call 26; (first | (with_reducible refine Calls.mono (S36.out _ ?_) ?_) | (with_reducible refine Calls.mono (S38.out _ ?_) ?_) | (with_reducible refine Calls.mono (S40.out _ ?_) ?_) | (with_reducible refine Calls.mono (S42.out _ ?_) ?_)); (focus (repeat (first | with_reducible (exact Since.refl _) | with_reducible assumption | with_reducible (refine Since.drew ?_) | with_reducible (refine Since.drewN ?_ _) | with_reducible (refine Since.alloc ?_ _) | (with_reducible (refine Since.setCell ?_ ?_ _); rotate_left; focus (first | (simp; done) | (simp; omega) | omega)) | (with_reducible (refine Since.trans ?_ (by with_reducible assumption)))))); rintro e w1 ⟨rfl, rfl⟩))
    refine bodyPost_ret (v := .tuple #[.agg #[.int .i64 x18, .int .i64 y36, .int .i64 y38, .int .i64 y40, .int .i64 y42, .bool (x50 == 1)], .int .i64 0]) (by simp only [results, Tryd.results13]; go_simp) rfl ?_
    exact G.out _ (by (repeat (first | with_reducible (exact Since.refl _) | with_reducible assumption | with_reducible (refine Since.drew ?_) | with_reducible (refine Since.drewN ?_ _) | with_reducible (refine Since.alloc ?_ _) | (with_reducible (refine Since.setCell ?_ ?_ _); rotate_left; focus (first | (simp; done) | (simp; omega) | omega)) | (with_reducible (refine Since.trans ?_ (by with_reducible assumption))))))
end Go.Proofs.YtefalfdillnkfaaDoor
