/-
  Layer 6: 'Ints', 'all' and its conditions, walked.
-/
import Derived.Test.YtefalfdillnkfaaBeE
import Derived.Test.YtefalfdillnkfaaKit8
namespace Go.Proofs.Ytefalfdillnkfaa
open Go.RowKit
set_option linter.unusedVariables false

def I64 (f : Nat → Int) : Nat → Value := IntRow .i64 f
set_option maxHeartbeats 4000000 in
/-- 'Ints' of the same numbers. -/
theorem ref_ints (A B : Option Addr) (n c d : Nat) (f : Nat → Int) (w : World) (h1 : Rd w w.heap.size A n (I64 f)) (h2 : Rd w w.heap.size B n (I64 f)) (hn : n ≤ maxLen) :
    Calls Try.prog 13 #[.slice A n c, .slice B n d] w fun e w' => e = .returned (.bool true) ∧ Since w w' := by
  have hn' : (n : Int) ≤ 9223372036854775807 := by simp only [maxLen] at hn; omega
  go_enter Try.func13, Try.ntmps13
  go_wp2
  go_loopw [13] (fun y wr => ∃ j : Nat, j ≤ n ∧ y = .int .i64 (j : Int) ∧ Since w wr) (fun y _ => n - (intOf y).toNat)
  case atStart => exact ⟨0, by omega, rfl, Since.refl _⟩
  case round =>
    obtain ⟨j, hj, rfl, hSr⟩ := hrel
    by_cases hjn : j < n
    · have hjn' : (j : Int) < n := by omega
      obtain ⟨b, o, rfl, hb, hc⟩ := h1 (by omega)
      obtain ⟨b', o', rfl, hb', hc'⟩ := h2 (by omega)
      have c1 : wr.cell? ⟨b, o + j, none⟩ = some (.int .i64 (f j)) := (hSr.1 _ _ hb).trans (hc j hjn)
      have e1 : wr.cell? ⟨b', o' + j, none⟩ = some (.int .i64 (f j)) := (hSr.1 _ _ hb').trans (hc' j hjn)
      have hj0 : (0 : Int) ≤ j := by omega
      generalize f j = x at *
      clear hc hc' h1 h2
      go_wp2_with fail
      go_quiet (fail)
      go_wp2
      refine ⟨⟨j + 1, by omega, by simp, by (repeat (first | with_reducible (exact Since.refl _) | with_reducible assumption | with_reducible (refine Since.drew ?_) | with_reducible (refine Since.drewN ?_ _) | with_reducible (refine Since.alloc ?_ _) | (with_reducible (refine Since.setCell ?_ ?_ _); rotate_left; focus (first | (simp; done) | (simp; omega) | omega)) | (with_reducible (refine Since.trans ?_ (by with_reducible assumption)))))⟩, by simp [intOf]; omega⟩
    · obtain rfl : j = n := by omega
      clear h1 h2
      go_wp2
      go_ret
      exact ⟨rfl, hSr⟩

/-- Does a condition hold of all numbers below n? -/
def allB (p : Nat → Bool) : Nat → Bool
  | 0 => true
  | n + 1 => allB p n && p n
theorem allB_no {p : Nat → Bool} {j : Nat} (h : p j = false) : ∀ {n : Nat}, j < n → allB p n = false
  | n + 1, hj => by
    unfold allB
    rcases Nat.lt_or_ge j n with h' | h'
    · rw [allB_no h h']; rfl
    · obtain rfl : j = n := by omega
      rw [h]; simp
theorem allB_iff {p : Nat → Bool} : ∀ {n : Nat}, allB p n = true ↔ ∀ j, j < n → p j = true
  | 0 => by simp [allB]
  | n + 1 => by
    unfold allB
    rw [Bool.and_eq_true, allB_iff]
    refine ⟨fun ⟨h1, h2⟩ j hj => ?_, fun h => ⟨fun j hj => h j (by omega), h n (by omega)⟩⟩
    rcases Nat.lt_or_ge j n with h' | h'
    · exact h1 j h'
    · obtain rfl : j = n := by omega
      exact h2
theorem allB_congr {p q : Nat → Bool} {n : Nat} (h : ∀ j, j < n → p j = q j) : allB p n = allB q n := by
  rw [Bool.eq_iff_iff, allB_iff, allB_iff]
  exact ⟨fun k j hj => (h j hj) ▸ k j hj, fun k j hj => (h j hj).symm ▸ k j hj⟩

set_option maxHeartbeats 4000000 in
theorem lo_all (k : Nat) (cap : Array Value) (n : Nat) (p : Nat → Bool) (w : World) (hn : n ≤ maxLen) (hE : ∀ args w, (callFunc k args).run Try.prog w = .ok (.enter k args) w)
    (hF : ∀ (i : Nat) (w1 : World), i < n → Since w w1 → Calls Try.prog k (#[.int .i64 i] ++ cap) w1 fun e w2 => e = .returned (.bool (p i)) ∧ Since w1 w2) :
    Calls Try.prog 33 #[.int .i64 n, .func (.func k) #[] cap] w fun e w' => e = .returned (.bool (allB p n)) ∧ Since w w' := by
  have hn' : (n : Int) ≤ 9223372036854775807 := by simp only [maxLen] at hn; omega
  go_enter Try.func33, Try.ntmps33
  go_wp2
  go_loopw [5, 7] (fun _ y wr => ∃ j : Nat, j ≤ n ∧ y = .int .i64 (j : Int) ∧ Since w wr ∧ allB p j = true) (fun _ y _ => n - (intOf y).toNat)
  case atStart => exact ⟨0, by omega, rfl, Since.refl _, rfl⟩
  case round =>
    obtain ⟨j, hj, rfl, hSr, hall⟩ := hrel
    have HA := Lib.hid hall
    clear hall
    by_cases hjn : j < n
    · have hjn' : (j : Int) < n := by omega
      have hc := hF j wr hjn hSr
      cases hp : p j with
      | true =>
        have HP := Lib.hid hp
        rw [hp] at hc
        clear hF hp
        go_wp2_with (refine (Calls.mono hc ?_); rintro e w1 ⟨rfl, hS1⟩)
        refine ⟨⟨j + 1, by omega, by simp, hSr.trans hS1, ?_⟩, by simp [intOf]; omega⟩
        unfold allB; rw [HA.out, HP.out]; rfl
      | false =>
        have HP := Lib.hid (allB_no hp hjn)
        rw [hp] at hc
        clear hF hp
        go_wp2_with (refine (Calls.mono hc ?_); rintro e w1 ⟨rfl, hS1⟩)
        go_ret
        exact ⟨by rw [HP.out]; rfl, hSr.trans hS1⟩
    · obtain rfl : j = n := by omega
      clear hF
      go_wp2
      go_ret
      exact ⟨by rw [HA.out]; rfl, hSr⟩
end Go.Proofs.Ytefalfdillnkfaa
