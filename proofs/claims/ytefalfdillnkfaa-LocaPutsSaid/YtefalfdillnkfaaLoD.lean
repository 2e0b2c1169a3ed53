/-
  Layer 6: 'check', 'Long', walked.
-/
import Derived.Test.YtefalfdillnkfaaLoC
namespace Go.Proofs.Ytefalfdillnkfaa
open Go.RowKit
set_option linter.unusedVariables false

def fitB (l : Bool) (f : Nat → Int) (i : Nat) : Bool := if l then decide (f i ≤ 4294967295) else (decide (f i ≤ 131070) && decide (f i % 2 = 0))
def okB (f : Nat → Int) (i : Nat) : Bool := decide (0 ≤ f i) && ascB f i
theorem ok_nonneg {f : Nat → Int} {n : Nat} (h : allB (okB f) n = true) {j : Nat} (hj : j < n) : 0 ≤ f j := by
  have := allB_iff.1 h j hj
  unfold okB at this
  simp only [Bool.and_eq_true, decide_eq_true_eq] at this
  exact this.1
theorem ok_asc {f : Nat → Int} {n : Nat} (h : allB (okB f) n = true) : allB (ascB f) n = true := by
  rw [allB_iff] at h ⊢
  intro j hj
  have := h j hj
  unfold okB at this
  simp only [Bool.and_eq_true] at this
  exact this.2
theorem asc_up {f : Nat → Int} : ∀ {n : Nat}, allB (ascB f) n = true → ∀ j, j < n → f 0 ≤ f j
  | n, h, 0, _ => Int.le_refl _
  | n, h, j + 1, hj => by
    have h1 := asc_up h j (by omega)
    have h2 := allB_iff.1 h (j + 1) hj
    rw [asc_next] at h2
    simp only [decide_eq_true_eq] at h2
    omega
theorem ok_of {f : Nat → Int} {n : Nat} (h : allB (ascB f) n = true) (h0 : n = 0 ∨ 0 ≤ f 0) : allB (okB f) n = true := by
  rw [allB_iff]
  intro j hj
  have h1 := asc_up h j hj
  have h2 := allB_iff.1 h j hj
  unfold okB
  rw [h2, Bool.and_true, decide_eq_true_eq]
  omega
theorem ok_no {f : Nat → Int} {n : Nat} (h : allB (ascB f) n = false) : allB (okB f) n = false := by
  cases hb : allB (okB f) n with
  | false => rfl
  | true => rw [ok_asc hb] at h; cases h
theorem ok_no0 {f : Nat → Int} {n : Nat} (hn : 0 < n) (h : f 0 < 0) : allB (okB f) n = false := by
  cases hb : allB (okB f) n with
  | false => rfl
  | true => have := ok_nonneg hb hn; omega
/-- The error of writing. -/
def wrE (l : Bool) (f : Nat → Int) (n : Nat) : Int := if allB (okB f) n then (if allB (fitB l f) n then 0 else 6) else 12

set_option maxHeartbeats 4000000 in
theorem lo_fit1 (i : Nat) (q : Nat) (A : Option Addr) (n c : Nat) (f : Nat → Int) (w : World) (hi : i < n) (hn : n ≤ maxLen) (hf : 0 ≤ f i) (hq : w.cell? ⟨q, 0, none⟩ = some (.slice A n c)) (h : Rd w w.heap.size A n (I64 f)) :
    Calls Try.prog 40 #[.int .i64 i, .pointer (some ⟨q, 0, none⟩)] w fun e w' => e = .returned (.bool (fitB false f i)) ∧ Since w w' := by
  have hn' : (n : Int) ≤ 9223372036854775807 := by simp only [maxLen] at hn; omega
  obtain ⟨b, o, rfl, hb, hc⟩ := h (by omega)
  have c1 : w.cell? ⟨b, o + i, none⟩ = some (.int .i64 (f i)) := hc i hi
  have i1 : (i : Int) < n := by omega
  have hv : fitB false f i = (decide (f i ≤ 131070) && decide (f i % 2 = 0)) := rfl
  have HV := Lib.hid hv
  clear hv
  generalize hx : f i = x at *
  clear hc h hx
  by_cases h1 : x ≤ 131070
  · have d1 : decide (x ≤ 131070) = true := by simpa using h1
    have HV2 := Lib.hid (show fitB false f i = decide (x % 2 = 0) by rw [HV.out, d1, Bool.true_and])
    clear HV
    go_enter Try.func40, Try.ntmps40
    go_wp2
    go_ret
    exact ⟨by rw [HV2.out]; rfl, by (repeat (first | with_reducible (exact Since.refl _) | with_reducible assumption | with_reducible (refine Since.drew ?_) | with_reducible (refine Since.drewN ?_ _) | with_reducible (refine Since.alloc ?_ _) | (with_reducible (refine Since.setCell ?_ ?_ _); rotate_left; focus (first | (simp; done) | (simp; omega) | omega)) | (with_reducible (refine Since.trans ?_ (by with_reducible assumption)))))⟩
  · have d1 : decide (x ≤ 131070) = false := by simpa using h1
    have HV2 := Lib.hid (show fitB false f i = false by rw [HV.out, d1, Bool.false_and])
    clear HV
    go_enter Try.func40, Try.ntmps40
    go_wp2
    go_ret
    exact ⟨by rw [HV2.out]; rfl, by (repeat (first | with_reducible (exact Since.refl _) | with_reducible assumption | with_reducible (refine Since.drew ?_) | with_reducible (refine Since.drewN ?_ _) | with_reducible (refine Since.alloc ?_ _) | (with_reducible (refine Since.setCell ?_ ?_ _); rotate_left; focus (first | (simp; done) | (simp; omega) | omega)) | (with_reducible (refine Since.trans ?_ (by with_reducible assumption)))))⟩
set_option maxHeartbeats 4000000 in
theorem lo_fit2 (i : Nat) (q : Nat) (A : Option Addr) (n c : Nat) (f : Nat → Int) (w : World) (hi : i < n) (hn : n ≤ maxLen) (hq : w.cell? ⟨q, 0, none⟩ = some (.slice A n c)) (h : Rd w w.heap.size A n (I64 f)) :
    Calls Try.prog 41 #[.int .i64 i, .pointer (some ⟨q, 0, none⟩)] w fun e w' => e = .returned (.bool (fitB true f i)) ∧ Since w w' := by
  have hn' : (n : Int) ≤ 9223372036854775807 := by simp only [maxLen] at hn; omega
  obtain ⟨b, o, rfl, hb, hc⟩ := h (by omega)
  have c1 : w.cell? ⟨b, o + i, none⟩ = some (.int .i64 (f i)) := hc i hi
  have i1 : (i : Int) < n := by omega
  have hv : fitB true f i = decide (f i ≤ 4294967295) := rfl
  have HV := Lib.hid hv
  clear hv
  generalize hx : f i = x at *
  clear hc h hx
  go_enter Try.func41, Try.ntmps41
  go_wp2
  go_ret
  exact ⟨by rw [HV.out]; rfl, by (repeat (first | with_reducible (exact Since.refl _) | with_reducible assumption | with_reducible (refine Since.drew ?_) | with_reducible (refine Since.drewN ?_ _) | with_reducible (refine Since.alloc ?_ _) | (with_reducible (refine Since.setCell ?_ ?_ _); rotate_left; focus (first | (simp; done) | (simp; omega) | omega)) | (with_reducible (refine Since.trans ?_ (by with_reducible assumption)))))⟩
theorem enters40 : ∀ args w, (callFunc 40 args).run Try.prog w = .ok (.enter 40 args) w := enters_of Try.func40 (by kernel_rfl) rfl
theorem enters41 : ∀ args w, (callFunc 41 args).run Try.prog w = .ok (.enter 41 args) w := enters_of Try.func41 (by kernel_rfl) rfl


set_option maxHeartbeats 8000000 in
theorem lo_check_false (A : Option Addr) (n c : Nat) (f : Nat → Int) (w : World) (hn : n ≤ maxLen) (h : Rd w w.heap.size A n (I64 f)) :
    Calls Try.prog 28 #[.slice A n c, .bool false] w fun e w' => e = .returned (.int .i64 (wrE false f n)) ∧ Since w w' := by
  have hmf : ∀ (fn : Fn) (first cap : Array Value) (w : World), (Instr.makeFunc fn first cap).run Try.prog w = .ok (.func fn first cap) w := fun _ _ _ _ => rfl
  have hn' : (n : Int) ≤ 9223372036854775807 := by simp only [maxLen] at hn; omega
  have h1 := (h.alloc (Nat.le_refl _) (.cells #[.slice A n c] 25)).more (B' := (w.alloc (.cells #[.slice A n c] 25)).heap.size) (by simp)
  have hA := lo_asc A n c f _ hn h1
  cases ha : allB (ascB f) n with
  | false =>
    have E := Lib.hid (show wrE false f n = 12 by unfold wrE; rw [ok_no ha]; rfl)
    rw [ha] at hA
    clear ha h h1
    go_enter Try.func28, Try.ntmps28
    go_wp2_with (go_at_call 26; (with_reducible refine hA.mono ?_); rintro e w1 ⟨rfl, hS1⟩)
    go_ret
    exact ⟨by rw [E.out]; rfl, by (repeat (first | with_reducible (exact Since.refl _) | with_reducible assumption | with_reducible (refine Since.drew ?_) | with_reducible (refine Since.drewN ?_ _) | with_reducible (refine Since.alloc ?_ _) | (with_reducible (refine Since.setCell ?_ ?_ _); rotate_left; focus (first | (simp; done) | (simp; omega) | omega)) | (with_reducible (refine Since.trans ?_ (by with_reducible assumption)))))⟩
  | true =>
    rw [ha] at hA
    by_cases h0 : n = 0 ∨ 0 ≤ f 0
    · have hok := ok_of ha h0
      have hW : ∀ w1, Since (w.alloc (.cells #[.slice A n c] 25)) w1 → Calls Try.prog 33 #[.int .i64 n, .func (.func 40) #[] #[.pointer (some ⟨w.heap.size, 0, none⟩)]] w1 fun e w' => e = .returned (.bool (allB (fitB false f) n)) ∧ Since w1 w' := fun w1 hS =>
        lo_all 40 #[.pointer (some ⟨w.heap.size, 0, none⟩)] n (fitB false f) w1 hn enters40 (fun i w2 hi hS2 => by
          have hc : w2.cell? ⟨w.heap.size, 0, none⟩ = some (.slice A n c) := ((hS.trans hS2).1 _ _ (by simp)).trans (cell_box w _ _)
          have hr := h1.on (hS.trans hS2)
          first
          | exact lo_fit1 i w.heap.size A n c f w2 hi hn hc hr
          | exact lo_fit1 i w.heap.size A n c f w2 hi hn (ok_nonneg hok hi) hc hr)
      have HW := Lib.hid hW
      have hcase : n = 0 ∨ 0 < n ∧ 0 ≤ f 0 := by omega
      clear hW h0 ha
      cases hb : allB (fitB false f) n with
      | true =>
        have E := Lib.hid (show wrE false f n = 0 by unfold wrE; rw [hok, hb]; rfl)
        have HB := Lib.hid hb
        clear hb hok
        rcases hcase with h00 | ⟨hp, h0⟩
        · have hp : ¬ 0 < n := by omega
          have hp' : ¬ (0 : Int) < n := by omega
          clear h h1 h00
          go_enter Try.func28, Try.ntmps28
          go_wp2_with (first | (go_at_call 26; (with_reducible refine hA.mono ?_); rintro e w1 ⟨rfl, hS1⟩; have hW1 := HW.out w1 hS1; rw [HB.out] at hW1; have hc1 : w1.cell? ⟨w.heap.size, 0, none⟩ = some (.slice A n c) := (hS1.1 _ _ (by simp)).trans (cell_box w _ _)) | (go_at_call 33; refine (hW1.mono ?_); rintro e w3 ⟨rfl, hS3⟩))
          go_ret
          exact ⟨by rw [E.out]; rfl, by (repeat (first | with_reducible (exact Since.refl _) | with_reducible assumption | with_reducible (refine Since.drew ?_) | with_reducible (refine Since.drewN ?_ _) | with_reducible (refine Since.alloc ?_ _) | (with_reducible (refine Since.setCell ?_ ?_ _); rotate_left; focus (first | (simp; done) | (simp; omega) | omega)) | (with_reducible (refine Since.trans ?_ (by with_reducible assumption)))))⟩
        · obtain ⟨b, o, rfl, hbl, hcc⟩ := h1 hp
          have hc0 := hcc 0 hp
          rw [Nat.add_zero] at hc0
          have hp' : (0 : Int) < n := by omega
          simp only [I64, IntRow] at hc0
          generalize f 0 = x at *
          clear h h1 hcc
          go_enter Try.func28, Try.ntmps28
          go_wp2_with (first | (go_at_call 26; (with_reducible refine hA.mono ?_); rintro e w1 ⟨rfl, hS1⟩; have hW1 := HW.out w1 hS1; rw [HB.out] at hW1; have hc1 : w1.cell? ⟨w.heap.size, 0, none⟩ = some (.slice (some ⟨b, o, none⟩) n c) := (hS1.1 _ _ (by simp)).trans (cell_box w _ _); have hc2 : w1.cell? ⟨b, o, none⟩ = some (.int .i64 x) := (hS1.1 _ _ hbl).trans hc0) | (go_at_call 33; refine (hW1.mono ?_); rintro e w3 ⟨rfl, hS3⟩))
          go_ret
          exact ⟨by rw [E.out]; rfl, by (repeat (first | with_reducible (exact Since.refl _) | with_reducible assumption | with_reducible (refine Since.drew ?_) | with_reducible (refine Since.drewN ?_ _) | with_reducible (refine Since.alloc ?_ _) | (with_reducible (refine Since.setCell ?_ ?_ _); rotate_left; focus (first | (simp; done) | (simp; omega) | omega)) | (with_reducible (refine Since.trans ?_ (by with_reducible assumption)))))⟩
      | false =>
        have E := Lib.hid (show wrE false f n = 6 by unfold wrE; rw [hok, hb]; rfl)
        have HB := Lib.hid hb
        clear hb hok
        rcases hcase with h00 | ⟨hp, h0⟩
        · have hp : ¬ 0 < n := by omega
          have hp' : ¬ (0 : Int) < n := by omega
          clear h h1 h00
          go_enter Try.func28, Try.ntmps28
          go_wp2_with (first | (go_at_call 26; (with_reducible refine hA.mono ?_); rintro e w1 ⟨rfl, hS1⟩; have hW1 := HW.out w1 hS1; rw [HB.out] at hW1; have hc1 : w1.cell? ⟨w.heap.size, 0, none⟩ = some (.slice A n c) := (hS1.1 _ _ (by simp)).trans (cell_box w _ _)) | (go_at_call 33; refine (hW1.mono ?_); rintro e w3 ⟨rfl, hS3⟩))
          go_ret
          exact ⟨by rw [E.out]; rfl, by (repeat (first | with_reducible (exact Since.refl _) | with_reducible assumption | with_reducible (refine Since.drew ?_) | with_reducible (refine Since.drewN ?_ _) | with_reducible (refine Since.alloc ?_ _) | (with_reducible (refine Since.setCell ?_ ?_ _); rotate_left; focus (first | (simp; done) | (simp; omega) | omega)) | (with_reducible (refine Since.trans ?_ (by with_reducible assumption)))))⟩
        · obtain ⟨b, o, rfl, hbl, hcc⟩ := h1 hp
          have hc0 := hcc 0 hp
          rw [Nat.add_zero] at hc0
          have hp' : (0 : Int) < n := by omega
          simp only [I64, IntRow] at hc0
          generalize f 0 = x at *
          clear h h1 hcc
          go_enter Try.func28, Try.ntmps28
          go_wp2_with (first | (go_at_call 26; (with_reducible refine hA.mono ?_); rintro e w1 ⟨rfl, hS1⟩; have hW1 := HW.out w1 hS1; rw [HB.out] at hW1; have hc1 : w1.cell? ⟨w.heap.size, 0, none⟩ = some (.slice (some ⟨b, o, none⟩) n c) := (hS1.1 _ _ (by simp)).trans (cell_box w _ _); have hc2 : w1.cell? ⟨b, o, none⟩ = some (.int .i64 x) := (hS1.1 _ _ hbl).trans hc0) | (go_at_call 33; refine (hW1.mono ?_); rintro e w3 ⟨rfl, hS3⟩))
          go_ret
          exact ⟨by rw [E.out]; rfl, by (repeat (first | with_reducible (exact Since.refl _) | with_reducible assumption | with_reducible (refine Since.drew ?_) | with_reducible (refine Since.drewN ?_ _) | with_reducible (refine Since.alloc ?_ _) | (with_reducible (refine Since.setCell ?_ ?_ _); rotate_left; focus (first | (simp; done) | (simp; omega) | omega)) | (with_reducible (refine Since.trans ?_ (by with_reducible assumption)))))⟩
    · have hp : 0 < n := by omega
      have h0 : f 0 < 0 := by omega
      have E := Lib.hid (show wrE false f n = 12 by unfold wrE; rw [ok_no0 hp h0]; rfl)
      obtain ⟨b, o, rfl, hbl, hcc⟩ := h1 hp
      have hc0 := hcc 0 hp
      rw [Nat.add_zero] at hc0
      have hp' : (0 : Int) < n := by omega
      simp only [I64, IntRow] at hc0
      generalize f 0 = x at *
      clear h h1 hcc ha
      go_enter Try.func28, Try.ntmps28
      go_wp2_with (go_at_call 26; (with_reducible refine hA.mono ?_); rintro e w1 ⟨rfl, hS1⟩; have hc1 : w1.cell? ⟨w.heap.size, 0, none⟩ = some (.slice (some ⟨b, o, none⟩) n c) := (hS1.1 _ _ (by simp)).trans (cell_box w _ _); have hc2 : w1.cell? ⟨b, o, none⟩ = some (.int .i64 x) := (hS1.1 _ _ hbl).trans hc0)
      go_ret
      exact ⟨by rw [E.out]; rfl, by (repeat (first | with_reducible (exact Since.refl _) | with_reducible assumption | with_reducible (refine Since.drew ?_) | with_reducible (refine Since.drewN ?_ _) | with_reducible (refine Since.alloc ?_ _) | (with_reducible (refine Since.setCell ?_ ?_ _); rotate_left; focus (first | (simp; done) | (simp; omega) | omega)) | (with_reducible (refine Since.trans ?_ (by with_reducible assumption)))))⟩

set_option maxHeartbeats 8000000 in
theorem lo_check_true (A : Option Addr) (n c : Nat) (f : Nat → Int) (w : World) (hn : n ≤ maxLen) (h : Rd w w.heap.size A n (I64 f)) :
    Calls Try.prog 28 #[.slice A n c, .bool true] w fun e w' => e = .returned (.int .i64 (wrE true f n)) ∧ Since w w' := by
  have hmf : ∀ (fn : Fn) (first cap : Array Value) (w : World), (Instr.makeFunc fn first cap).run Try.prog w = .ok (.func fn first cap) w := fun _ _ _ _ => rfl
  have hn' : (n : Int) ≤ 9223372036854775807 := by simp only [maxLen] at hn; omega
  have h1 := (h.alloc (Nat.le_refl _) (.cells #[.slice A n c] 25)).more (B' := (w.alloc (.cells #[.slice A n c] 25)).heap.size) (by simp)
  have hA := lo_asc A n c f _ hn h1
  cases ha : allB (ascB f) n with
  | false =>
    have E := Lib.hid (show wrE true f n = 12 by unfold wrE; rw [ok_no ha]; rfl)
    rw [ha] at hA
    clear ha h h1
    go_enter Try.func28, Try.ntmps28
    go_wp2_with (go_at_call 26; (with_reducible refine hA.mono ?_); rintro e w1 ⟨rfl, hS1⟩)
    go_ret
    exact ⟨by rw [E.out]; rfl, by (repeat (first | with_reducible (exact Since.refl _) | with_reducible assumption | with_reducible (refine Since.drew ?_) | with_reducible (refine Since.drewN ?_ _) | with_reducible (refine Since.alloc ?_ _) | (with_reducible (refine Since.setCell ?_ ?_ _); rotate_left; focus (first | (simp; done) | (simp; omega) | omega)) | (with_reducible (refine Since.trans ?_ (by with_reducible assumption)))))⟩
  | true =>
    rw [ha] at hA
    by_cases h0 : n = 0 ∨ 0 ≤ f 0
    · have hok := ok_of ha h0
      have hW : ∀ w1, Since (w.alloc (.cells #[.slice A n c] 25)) w1 → Calls Try.prog 33 #[.int .i64 n, .func (.func 41) #[] #[.pointer (some ⟨w.heap.size, 0, none⟩)]] w1 fun e w' => e = .returned (.bool (allB (fitB true f) n)) ∧ Since w1 w' := fun w1 hS =>
        lo_all 41 #[.pointer (some ⟨w.heap.size, 0, none⟩)] n (fitB true f) w1 hn enters41 (fun i w2 hi hS2 => by
          have hc : w2.cell? ⟨w.heap.size, 0, none⟩ = some (.slice A n c) := ((hS.trans hS2).1 _ _ (by simp)).trans (cell_box w _ _)
          have hr := h1.on (hS.trans hS2)
          first
          | exact lo_fit2 i w.heap.size A n c f w2 hi hn hc hr
          | exact lo_fit2 i w.heap.size A n c f w2 hi hn (ok_nonneg hok hi) hc hr)
      have HW := Lib.hid hW
      have hcase : n = 0 ∨ 0 < n ∧ 0 ≤ f 0 := by omega
      clear hW h0 ha
      cases hb : allB (fitB true f) n with
      | true =>
        have E := Lib.hid (show wrE true f n = 0 by unfold wrE; rw [hok, hb]; rfl)
        have HB := Lib.hid hb
        clear hb hok
        rcases hcase with h00 | ⟨hp, h0⟩
        · have hp : ¬ 0 < n := by omega
          have hp' : ¬ (0 : Int) < n := by omega
          clear h h1 h00
          go_enter Try.func28, Try.ntmps28
          go_wp2_with (first | (go_at_call 26; (with_reducible refine hA.mono ?_); rintro e w1 ⟨rfl, hS1⟩; have hW1 := HW.out w1 hS1; rw [HB.out] at hW1; have hc1 : w1.cell? ⟨w.heap.size, 0, none⟩ = some (.slice A n c) := (hS1.1 _ _ (by simp)).trans (cell_box w _ _)) | (go_at_call 33; refine (hW1.mono ?_); rintro e w3 ⟨rfl, hS3⟩))
          go_ret
          exact ⟨by rw [E.out]; rfl, by (repeat (first | with_reducible (exact Since.refl _) | with_reducible assumption | with_reducible (refine Since.drew ?_) | with_reducible (refine Since.drewN ?_ _) | with_reducible (refine Since.alloc ?_ _) | (with_reducible (refine Since.setCell ?_ ?_ _); rotate_left; focus (first | (simp; done) | (simp; omega) | omega)) | (with_reducible (refine Since.trans ?_ (by with_reducible assumption)))))⟩
        · obtain ⟨b, o, rfl, hbl, hcc⟩ := h1 hp
          have hc0 := hcc 0 hp
          rw [Nat.add_zero] at hc0
          have hp' : (0 : Int) < n := by omega
          simp only [I64, IntRow] at hc0
          generalize f 0 = x at *
          clear h h1 hcc
          go_enter Try.func28, Try.ntmps28
          go_wp2_with (first | (go_at_call 26; (with_reducible refine hA.mono ?_); rintro e w1 ⟨rfl, hS1⟩; have hW1 := HW.out w1 hS1; rw [HB.out] at hW1; have hc1 : w1.cell? ⟨w.heap.size, 0, none⟩ = some (.slice (some ⟨b, o, none⟩) n c) := (hS1.1 _ _ (by simp)).trans (cell_box w _ _); have hc2 : w1.cell? ⟨b, o, none⟩ = some (.int .i64 x) := (hS1.1 _ _ hbl).trans hc0) | (go_at_call 33; refine (hW1.mono ?_); rintro e w3 ⟨rfl, hS3⟩))
          go_ret
          exact ⟨by rw [E.out]; rfl, by (repeat (first | with_reducible (exact Since.refl _) | with_reducible assumption | with_reducible (refine Since.drew ?_) | with_reducible (refine Since.drewN ?_ _) | with_reducible (refine Since.alloc ?_ _) | (with_reducible (refine Since.setCell ?_ ?_ _); rotate_left; focus (first | (simp; done) | (simp; omega) | omega)) | (with_reducible (refine Since.trans ?_ (by with_reducible assumption)))))⟩
      | false =>
        have E := Lib.hid (show wrE true f n = 6 by unfold wrE; rw [hok, hb]; rfl)
        have HB := Lib.hid hb
        clear hb hok
        rcases hcase with h00 | ⟨hp, h0⟩
        · have hp : ¬ 0 < n := by omega
          have hp' : ¬ (0 : Int) < n := by omega
          clear h h1 h00
          go_enter Try.func28, Try.ntmps28
          go_wp2_with (first | (go_at_call 26; (with_reducible refine hA.mono ?_); rintro e w1 ⟨rfl, hS1⟩; have hW1 := HW.out w1 hS1; rw [HB.out] at hW1; have hc1 : w1.cell? ⟨w.heap.size, 0, none⟩ = some (.slice A n c) := (hS1.1 _ _ (by simp)).trans (cell_box w _ _)) | (go_at_call 33; refine (hW1.mono ?_); rintro e w3 ⟨rfl, hS3⟩))
          go_ret
          exact ⟨by rw [E.out]; rfl, by (repeat (first | with_reducible (exact Since.refl _) | with_reducible assumption | with_reducible (refine Since.drew ?_) | with_reducible (refine Since.drewN ?_ _) | with_reducible (refine Since.alloc ?_ _) | (with_reducible (refine Since.setCell ?_ ?_ _); rotate_left; focus (first | (simp; done) | (simp; omega) | omega)) | (with_reducible (refine Since.trans ?_ (by with_reducible assumption)))))⟩
        · obtain ⟨b, o, rfl, hbl, hcc⟩ := h1 hp
          have hc0 := hcc 0 hp
          rw [Nat.add_zero] at hc0
          have hp' : (0 : Int) < n := by omega
          simp only [I64, IntRow] at hc0
          generalize f 0 = x at *
          clear h h1 hcc
          go_enter Try.func28, Try.ntmps28
          go_wp2_with (first | (go_at_call 26; (with_reducible refine hA.mono ?_); rintro e w1 ⟨rfl, hS1⟩; have hW1 := HW.out w1 hS1; rw [HB.out] at hW1; have hc1 : w1.cell? ⟨w.heap.size, 0, none⟩ = some (.slice (some ⟨b, o, none⟩) n c) := (hS1.1 _ _ (by simp)).trans (cell_box w _ _); have hc2 : w1.cell? ⟨b, o, none⟩ = some (.int .i64 x) := (hS1.1 _ _ hbl).trans hc0) | (go_at_call 33; refine (hW1.mono ?_); rintro e w3 ⟨rfl, hS3⟩))
          go_ret
          exact ⟨by rw [E.out]; rfl, by (repeat (first | with_reducible (exact Since.refl _) | with_reducible assumption | with_reducible (refine Since.drew ?_) | with_reducible (refine Since.drewN ?_ _) | with_reducible (refine Since.alloc ?_ _) | (with_reducible (refine Since.setCell ?_ ?_ _); rotate_left; focus (first | (simp; done) | (simp; omega) | omega)) | (with_reducible (refine Since.trans ?_ (by with_reducible assumption)))))⟩
    · have hp : 0 < n := by omega
      have h0 : f 0 < 0 := by omega
      have E := Lib.hid (show wrE true f n = 12 by unfold wrE; rw [ok_no0 hp h0]; rfl)
      obtain ⟨b, o, rfl, hbl, hcc⟩ := h1 hp
      have hc0 := hcc 0 hp
      rw [Nat.add_zero] at hc0
      have hp' : (0 : Int) < n := by omega
      simp only [I64, IntRow] at hc0
      generalize f 0 = x at *
      clear h h1 hcc ha
      go_enter Try.func28, Try.ntmps28
      go_wp2_with (go_at_call 26; (with_reducible refine hA.mono ?_); rintro e w1 ⟨rfl, hS1⟩; have hc1 : w1.cell? ⟨w.heap.size, 0, none⟩ = some (.slice (some ⟨b, o, none⟩) n c) := (hS1.1 _ _ (by simp)).trans (cell_box w _ _); have hc2 : w1.cell? ⟨b, o, none⟩ = some (.int .i64 x) := (hS1.1 _ _ hbl).trans hc0)
      go_ret
      exact ⟨by rw [E.out]; rfl, by (repeat (first | with_reducible (exact Since.refl _) | with_reducible assumption | with_reducible (refine Since.drew ?_) | with_reducible (refine Since.drewN ?_ _) | with_reducible (refine Since.alloc ?_ _) | (with_reducible (refine Since.setCell ?_ ?_ _); rotate_left; focus (first | (simp; done) | (simp; omega) | omega)) | (with_reducible (refine Since.trans ?_ (by with_reducible assumption)))))⟩


set_option maxHeartbeats 4000000 in
theorem lo_long (A : Option Addr) (n c : Nat) (f : Nat → Int) (w : World) (hn : n ≤ maxLen) (h : Rd w w.heap.size A n (I64 f)) :
    Calls Try.prog 17 #[.slice A n c] w fun e w' => e = .returned (.bool (wrE false f n != 0)) ∧ Since w w' := by
  have hC := lo_check_false A n c f w hn h
  have hr : wrE false f n = 0 ∨ wrE false f n = 6 ∨ wrE false f n = 12 := by unfold wrE; split <;> (try split) <;> simp
  clear h
  generalize wrE false f n = E at *
  rcases hr with rfl | rfl | rfl
  all_goals
    go_enter Try.func17, Try.ntmps17
    go_wp2_with (go_at_call 28; (with_reducible refine hC.mono ?_); rintro e w1 ⟨rfl, hS1⟩)
    go_ret
    exact ⟨rfl, hS1⟩
end Go.Proofs.Ytefalfdillnkfaa
