/-
  Layer 2: 'holds' and 'There', walked.
-/
import Derived.Test.YtbjjndficllogaaBeA
import Derived.Deep.QuietTactic
import Derived.BigQuiet
namespace Go.Proofs.Ytbjjndficllogaa
open Go.RowKit
set_option linter.unusedVariables false

def Fits (n : Nat) (i k : Int) : Prop := 0 ≤ i ∧ i ≤ n ∧ k ≤ n - i
instance (n : Nat) (i k : Int) : Decidable (Fits n i k) := by unfold Fits; infer_instance

set_option maxHeartbeats 4000000 in
theorem be_holds (A : Option Addr) (n c : Nat) (i k : Int) (w : World) (hi : In64 i) (hk : In64 k) (hn : n ≤ 140737488355328) :
    Calls Try.prog 63 #[.slice A n c, .int .i64 i, .int .i64 k] w fun e w' => e = .returned (.bool (decide (Fits n i k))) ∧ w' = w := by
  have hn1 : (n : Int) ≤ 140737488355328 := by omega
  by_cases h1 : (0 : Int) ≤ i
  · have d1 : decide ((0 : Int) ≤ i) = true := by simpa using h1
    by_cases h2 : i ≤ (n : Int)
    · have d2 : decide (i ≤ (n : Int)) = true := by simpa using h2
      have hw : IntKind.i64.wrap ((n : Int) - i) = (n : Int) - i := by rw [IntKind.wrap_i64]; unfold In64 at *; omega
      have e : decide (Fits n i k) = decide (k ≤ (n : Int) - i) := by simp [Fits, h1, h2]
      rw [e]; clear e
      go_enter Try.func63, Try.ntmps63
      go_wp2
      go_ret
      exact ⟨rfl, rfl⟩
    · have d2 : decide (i ≤ (n : Int)) = false := by simpa using h2
      have e : decide (Fits n i k) = false := by simp [Fits, h2]
      rw [e]; clear e
      go_enter Try.func63, Try.ntmps63
      go_wp2
      go_ret
      exact ⟨rfl, rfl⟩
  · have d1 : decide ((0 : Int) ≤ i) = false := by simpa using h1
    have e : decide (Fits n i k) = false := by simp [Fits, h1]
    rw [e]; clear e
    go_enter Try.func63, Try.ntmps63
    go_wp2
    go_ret
    exact ⟨rfl, rfl⟩

set_option maxHeartbeats 4000000 in
theorem ref_there (A : Option Addr) (n c : Nat) (i k : Int) (w : World) (hi : In64 i) (hk : In64 k) (hn : n ≤ 140737488355328) :
    Calls Try.prog 74 #[.slice A n c, .int .i64 i, .int .i64 k] w fun e w' => e = .returned (.bool (decide (0 ≤ k ∧ Fits n i k))) ∧ w' = w := by
  have hn1 : (n : Int) ≤ 140737488355328 := by omega
  by_cases h1 : (0 : Int) ≤ i
  · have d1 : decide ((0 : Int) ≤ i) = true := by simpa using h1
    by_cases h0 : (0 : Int) ≤ k
    · have d0 : decide ((0 : Int) ≤ k) = true := by simpa using h0
      by_cases h2 : i ≤ (n : Int)
      · have d2 : decide (i ≤ (n : Int)) = true := by simpa using h2
        have hw : IntKind.i64.wrap ((n : Int) - i) = (n : Int) - i := by rw [IntKind.wrap_i64]; unfold In64 at *; omega
        have e : decide (0 ≤ k ∧ Fits n i k) = decide (k ≤ (n : Int) - i) := by simp [Fits, h1, h2, h0]
        rw [e]; clear e
        go_enter Try.func74, Try.ntmps74
        go_wp2
        go_ret
        exact ⟨rfl, rfl⟩
      · have d2 : decide (i ≤ (n : Int)) = false := by simpa using h2
        have e : decide (0 ≤ k ∧ Fits n i k) = false := by simp [Fits, h2]
        rw [e]; clear e
        go_enter Try.func74, Try.ntmps74
        go_wp2
        go_ret
        exact ⟨rfl, rfl⟩
    · have d0 : decide ((0 : Int) ≤ k) = false := by simpa using h0
      have e : decide (0 ≤ k ∧ Fits n i k) = false := by simp [h0]
      rw [e]; clear e
      go_enter Try.func74, Try.ntmps74
      go_wp2
      go_ret
      exact ⟨rfl, rfl⟩
  · have d1 : decide ((0 : Int) ≤ i) = false := by simpa using h1
    have e : decide (0 ≤ k ∧ Fits n i k) = false := by simp [Fits, h1]
    rw [e]; clear e
    go_enter Try.func74, Try.ntmps74
    go_wp2
    go_ret
    exact ⟨rfl, rfl⟩

/-- The number of k bytes from p on, the highest first. -/
def numAt (f : Nat → Int) (p : Nat) : Nat → Int
  | 0 => 0
  | k + 1 => 256 * numAt f p k + f (p + k)
theorem numAt_range {f : Nat → Int} {p : Nat} : ∀ {k : Nat}, (∀ j, j < p + k → 0 ≤ f j ∧ f j ≤ 255) → 0 ≤ numAt f p k ∧ numAt f p k < 256 ^ k
  | 0, _ => by simp [numAt]
  | k + 1, h => by
    have h1 := numAt_range (f := f) (p := p) (k := k) (fun j hj => h j (by omega))
    have h2 := h (p + k) (by omega)
    simp only [numAt]
    rw [Int.pow_succ]
    omega
theorem numAt_small {f : Nat → Int} {p j : Nat} (hj : j ≤ 4) (h : ∀ i, i < p + j → 0 ≤ f i ∧ f i ≤ 255) : 0 ≤ numAt f p j ∧ numAt f p j < 4294967296 ∧ (j ≤ 3 → numAt f p j < 16777216) := by
  have h1 := numAt_range h
  have hh : j = 0 ∨ j = 1 ∨ j = 2 ∨ j = 3 ∨ j = 4 := by omega
  rcases hh with rfl | rfl | rfl | rfl | rfl <;> (simp only [Int.reducePow] at h1; omega)
theorem or_byte (x y : Int) (h0 : 0 ≤ x) (h1 : x < 72057594037927936 / 2) (k0 : 0 ≤ y) (k1 : y ≤ 255) : bits .or .i64 (x * 256) y = 256 * x + y := by
  obtain ⟨a, rfl⟩ := Int.eq_ofNat_of_zero_le h0
  obtain ⟨b, rfl⟩ := Int.eq_ofNat_of_zero_le k0
  show IntKind.i64.wrap ((BitVec.ofInt 64 ((a : Int) * 256) ||| BitVec.ofInt 64 (b : Int)).toNat : Int) = _
  have e1 : BitVec.ofInt 64 ((a : Int) * 256) = BitVec.ofNat 64 (a * 256) := by
    rw [← BitVec.ofInt_natCast]; congr 1
  rw [e1, BitVec.ofInt_natCast, BitVec.toNat_or, BitVec.toNat_ofNat, BitVec.toNat_ofNat, Nat.mod_eq_of_lt (by omega), Nat.mod_eq_of_lt (by omega)]
  have e2 : a * 256 ||| b = a * 256 + b := by
    have := Nat.shiftLeft_add_eq_or_of_lt (i := 8) (show b < 2 ^ 8 by omega) a
    rw [Nat.shiftLeft_eq] at this
    simp only [Nat.reducePow] at this
    exact this.symm
  rw [e2, IntKind.wrap_i64]
  omega
/-- What 'U' answers. -/
def uAns (f : Nat → Int) (n : Nat) (i k : Int) : Int × Int := if k < 1 ∨ 4 < k then (0, 2) else if Fits n i k then (numAt f i.toNat k.toNat, 0) else (0, 3)

set_option maxHeartbeats 4000000 in
theorem be_u (A : Option Addr) (n c : Nat) (f : Nat → Int) (i k : Int) (w : World) (h : Rd w w.heap.size A n (U8 f)) (hf : ∀ j, j < n → 0 ≤ f j ∧ f j ≤ 255) (hi : In64 i) (hk : In64 k) (hn : n ≤ 140737488355328) :
    Calls Try.prog 35 #[.slice A n c, .int .i64 i, .int .i64 k] w fun e w' => e = .returned (.tuple #[.int .i64 (uAns f n i k).1, .int .i64 (uAns f n i k).2]) ∧ w' = w := by
  by_cases h1 : k < 1
  · have d1 : decide (k < 1) = true := by simpa using h1
    simp only [uAns, h1, true_or, if_true]
    clear h h1
    go_enter Try.func35, Try.ntmps35
    go_wp2
    go_ret2
    exact ⟨rfl, rfl⟩
  have d1 : decide (k < 1) = false := by simpa using h1
  by_cases h2 : 4 < k
  · have d2 : decide (4 < k) = true := by simpa using h2
    simp only [uAns, h2, or_true, if_true]
    clear h h1 h2
    go_enter Try.func35, Try.ntmps35
    go_wp2
    go_ret2
    exact ⟨rfl, rfl⟩
  have d2 : decide (4 < k) = false := by simpa using h2
  by_cases h3 : Fits n i k
  · have d3 : decide (Fits n i k) = true := by simpa using h3
    obtain ⟨p, rfl⟩ : ∃ p : Nat, i = p := ⟨i.toNat, by have := h3.1; omega⟩
    obtain ⟨m, rfl⟩ : ∃ m : Nat, k = m := ⟨k.toNat, by omega⟩
    have h4 : p + m ≤ n := by have := h3.2.2; omega
    obtain ⟨b, o, rfl, hb, hc⟩ := h (by omega)
    simp only [uAns, h1, h2, or_self, if_false, h3, if_true, Int.toNat_natCast]
    have hm : m ≤ 4 := by omega
    have hm1 : 1 ≤ m := by omega
    clear h h1 h2 h3
    go_enter Try.func35, Try.ntmps35
    go_wp2_with (go_at_call 63; refine (be_holds _ n c p m w hi hk hn).mono ?_; rintro e w2 ⟨rfl, rfl⟩)
    go_loop [8, 22] (fun x y => ∃ j : Nat, j ≤ m ∧ x = .int .i64 (numAt f p j) ∧ y = .int .i64 j) (fun _ y => m - (intOf y).toNat)
    case atStart => exact ⟨0, by omega, rfl, rfl⟩
    case round =>
      obtain ⟨j, hj, rfl, rfl⟩ := hrel
      by_cases hjm : j < m
      · have hx : w2.cell? ⟨b, o + (p + j), none⟩ = some (.int .u8 (f (p + j))) := hc (p + j) (by omega)
        have hr := numAt_small (f := f) (p := p) (j := j) (by omega) (fun i hi => hf i (by omega))
        have hb8 := hf (p + j) (by omega)
        have hw8 : wrap64 (numAt f p j * 256) = numAt f p j * 256 := by unfold wrap64; omega
        have hjm' : (j : Int) < m := by omega
        clear hc
        have ho := or_byte (numAt f p j) (f (p + j)) (by omega) (by omega) (by omega) (by omega)
        go_wp2
        go_round
        case rel => exact ⟨j + 1, by omega, rfl, by simp⟩
        case measure => simp [intOf]; omega
      · obtain rfl : j = m := by omega
        go_wp2
        go_ret2
        exact ⟨rfl, rfl⟩
  · have d3 : decide (Fits n i k) = false := by simpa using h3
    simp only [uAns, h1, h2, or_self, if_false, h3]
    clear h h1 h2 h3
    go_enter Try.func35, Try.ntmps35
    go_wp2_with (go_at_call 63; refine (be_holds _ n c i k w hi hk hn).mono ?_; rintro e w2 ⟨rfl, rfl⟩)
    go_ret2
    exact ⟨rfl, rfl⟩

set_option maxHeartbeats 4000000 in
theorem ref_u (A : Option Addr) (n c : Nat) (f : Nat → Int) (i k : Int) (w : World) (h : Rd w w.heap.size A n (U8 f)) (hf : ∀ j, j < n → 0 ≤ f j ∧ f j ≤ 255) (hi : In64 i) (hk : In64 k) (hn : n ≤ 140737488355328) :
    Calls Try.prog 66 #[.slice A n c, .int .i64 i, .int .i64 k] w fun e w' => e = .returned (.tuple #[.int .i64 (uAns f n i k).1, .int .i64 (uAns f n i k).2]) ∧ w' = w := by
  by_cases h1 : k < 1
  · have d1 : decide (k < 1) = true := by simpa using h1
    simp only [uAns, h1, true_or, if_true]
    clear h h1
    go_enter Try.func66, Try.ntmps66
    go_wp2
    go_ret2
    exact ⟨rfl, rfl⟩
  have d1 : decide (k < 1) = false := by simpa using h1
  by_cases h2 : 4 < k
  · have d2 : decide (4 < k) = true := by simpa using h2
    simp only [uAns, h2, or_true, if_true]
    clear h h1 h2
    go_enter Try.func66, Try.ntmps66
    go_wp2
    go_ret2
    exact ⟨rfl, rfl⟩
  have d2 : decide (4 < k) = false := by simpa using h2
  by_cases h3 : Fits n i k
  · have d3 : decide (0 ≤ k ∧ Fits n i k) = true := by simp [h3]; omega
    obtain ⟨p, rfl⟩ : ∃ p : Nat, i = p := ⟨i.toNat, by have := h3.1; omega⟩
    obtain ⟨m, rfl⟩ : ∃ m : Nat, k = m := ⟨k.toNat, by omega⟩
    have h4 : p + m ≤ n := by have := h3.2.2; omega
    have d4 : decide (Fits n (p : Int) (m : Int)) = true := by simpa using h3
    obtain ⟨b, o, rfl, hb, hc⟩ := h (by omega)
    simp only [uAns, h1, h2, or_self, if_false, h3, if_true, Int.toNat_natCast]
    have hm : m ≤ 4 := by omega
    have hm1 : 1 ≤ m := by omega
    clear h h1 h2 h3
    go_enter Try.func66, Try.ntmps66
    go_wp2_with (go_at_call 74; refine (ref_there _ n c p m w hi hk hn).mono ?_; rintro e w2 ⟨rfl, rfl⟩)
    go_loop [8, 9] (fun x y => ∃ j : Nat, j ≤ m ∧ x = .int .i64 (numAt f p j) ∧ y = .int .i64 ((p + j : Nat) : Int)) (fun _ y => p + m - (intOf y).toNat)
    case atStart => exact ⟨0, by omega, rfl, rfl⟩
    case round =>
      obtain ⟨j, hj, rfl, rfl⟩ := hrel
      by_cases hjm : j < m
      · have hx : w2.cell? ⟨b, o + (p + j), none⟩ = some (.int .u8 (f (p + j))) := hc (p + j) (by omega)
        have hr := numAt_small (f := f) (p := p) (j := j) (by omega) (fun i hi => hf i (by omega))
        have hb8 := hf (p + j) (by omega)
        clear hc
        have hjm' : ((p + j : Nat) : Int) < p + m := by omega
        have hjn : ((p + j : Nat) : Int) < n := by omega
        go_wp2
        go_round
        case rel => exact ⟨j + 1, by omega, rfl, by simp; omega⟩
        case measure => simp [intOf]; omega
      · obtain rfl : j = m := by omega
        go_wp2
        go_ret2
        exact ⟨rfl, rfl⟩
  · have d3 : decide (0 ≤ k ∧ Fits n i k) = false := by simp [h3]
    simp only [uAns, h1, h2, or_self, if_false, h3]
    clear h h1 h2 h3
    go_enter Try.func66, Try.ntmps66
    go_wp2_with (go_at_call 74; refine (ref_there _ n c i k w hi hk hn).mono ?_; rintro e w2 ⟨rfl, rfl⟩)
    go_ret2
    exact ⟨rfl, rfl⟩
end Go.Proofs.Ytbjjndficllogaa
