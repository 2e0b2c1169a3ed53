/-
  Texts of this seat, put together: each with its own head.
-/
import Derived.Test.YtpplnapfpoloiaaKit2
import Derived.Deep.QuietTactic
import Derived.BigQuiet
import Derived.Test.YtpplnapfpoloiaaKit3

/-
  Layer 2: 'Copy' and 'Same', walked.
-/
namespace Go.Proofs.Ytpplnapfpoloiaa
open Go.RowKit
set_option linter.unusedVariables false

theorem Try.info_u8 : (Try.prog.info? 5).map (fun i => (i.zero, i.size, i.bytes)) = some (some (.int .u8 0), 1, 1) := by kernel_rfl
def U8 (f : Nat → Int) : Nat → Value := IntRow .u8 f
/-- A row of the call's own, of bytes. -/
def Own (w : World) (B g cap n : Nat) (f : Nat → Int) : Prop := w.ownsRow B 5 1 (.slice (some ⟨g, 0, none⟩) n cap) n (tab n (U8 f))
theorem Own.row {w : World} {B g cap n : Nat} {f : Nat → Int} (h : Own w B g cap n f) : Row w g n (U8 f) := row_of_own h
theorem Own.base {w : World} {B g cap n : Nat} {f : Nat → Int} (h : Own w B g cap n f) : B ≤ g := own_base h

set_option maxHeartbeats 4000000 in
theorem ref_copy (A : Option Addr) (n c : Nat) (f : Nat → Int) (w : World) (h : Rd w w.heap.size A n (U8 f)) (hn : n ≤ 140737488355328) :
    Calls Try.prog 28 #[.slice A n c] w fun e w' => ∃ g cap, e = .returned (.slice (some ⟨g, 0, none⟩) n cap) ∧ Own w' w.heap.size g cap n f ∧ Since w w' := by
  obtain ⟨i0, hi0, hz0, hz1, hz2⟩ := info_parts Try.info_u8
  have h0 : (w.alloc (.cells #[] 5)).ownsRow w.heap.size 5 1 (.slice (some ⟨w.heap.size, 0, none⟩) 0 0) 0 [] :=
    ⟨rfl, .inr ⟨_, 0, #[], rfl, Nat.le_refl _, heap_alloc_new w _, Nat.le_refl _, by simp [maxLen], rfl, rfl⟩⟩
  have q1 : Rd (w.alloc (.cells #[] 5)) w.heap.size A n (U8 f) := h.alloc (Nat.le_refl _) _
  have q2 : ∀ u ∈ tab n (U8 f), u.oneCell' = true := tab_ones
  have q3 : (0 + n) * 1 ≤ 140737488355328 := by omega
  have q4 : 0 + n ≤ maxLen := by simp only [maxLen]; omega
  have q5 : w.heap.size ≤ (w.alloc (.cells #[] 5)).heap.size := by simp
  go_enter Try.func28, Try.ntmps28
  go_wp2_with (at_builtin; refine wpList_append_rd _ (by rfl) (.tmp 3) (.tmp 4) _ (by rfl) w.heap.size 5 i0 _ 1 Try.underlying26 hi0 hz0 hz1 hz2 (by rfl) w.heap.size 0 0 [] (by rfl) h0 w.heap.size A n c (U8 f) (by rfl) q1 q2 q3 q4 q5 ?_; intro g' cap' w1 hown1 hg1 hat1; clear h q1 q2 q3 q4 q5 h0)
  go_ret
  simp only [Nat.zero_add, List.nil_append] at hown1
  exact ⟨g', cap', rfl, hown1, since_grown ((Since.refl w).alloc _) hg1 (fun k hk => by injection hk with hk; omega)⟩

def bytesOf (n : Nat) (f : Nat → Int) : List Int := (List.range n).map f
theorem Rd.conv {w : World} {B n : Nat} {A : Option Addr} {f : Nat → Int} (h : Rd w B A n (U8 f)) (c : Nat) :
    (convert 26 9 (.slice A n c)).run Try.prog w = .ok (.string (strOfNums (bytesOf n f))) w := by
  rcases Nat.eq_zero_or_pos n with h0 | h0
  · subst h0
    rcases A with _ | ad
    · exact run_convert_bytes_nil w _ _ Try.underlying26 Try.underlying5 0 c _ Try.underlying9
    · rw [run_convert_bytes_string w _ _ _ _ _ _ Try.underlying26 Try.underlying5 Try.underlying9]
      simp [Conv.bytesToString, loadCells, loadCellsFrom, bytesOf, strOfNums, Sem.run_pure]
      rfl
  · obtain ⟨b, o, rfl, _, hc⟩ := h h0
    refine run_convert_bytes_arg w _ _ Try.underlying26 Try.underlying5 b o n c (bytesOf n f) (by simp [bytesOf]) (fun i hi => ?_) _ Try.underlying9
    rw [hc i hi]
    simp [bytesOf, hi, U8, IntRow]
theorem bytesOf_congr {n : Nat} {f g : Nat → Int} (h : ∀ j, j < n → f j = g j) : bytesOf n f = bytesOf n g := by
  unfold bytesOf
  exact List.map_congr_left fun j hj => h j (by simpa using hj)
set_option maxHeartbeats 4000000 in
/-- 'Same' of the same bytes. -/
theorem ref_same (A B : Option Addr) (n c d : Nat) (f g : Nat → Int) (w : World) (h1 : Rd w w.heap.size A n (U8 f)) (h2 : Rd w w.heap.size B n (U8 g)) (hfg : ∀ j, j < n → f j = g j) :
    Calls Try.prog 22 #[.slice A n c, .slice B n d] w fun e w' => e = .returned (.bool true) ∧ w' = w := by
  have k1 := h1.conv c
  have k2 := h2.conv d
  rw [← bytesOf_congr hfg] at k2
  generalize strOfNums (bytesOf n f) = s at k1 k2
  clear h1 h2 hfg
  go_enter Try.func22, Try.ntmps22
  go_wp2
  go_ret
  exact ⟨by simp, rfl⟩
end Go.Proofs.Ytpplnapfpoloiaa

/-
  Layer 2: 'holds' and 'There', walked.
-/
namespace Go.Proofs.Ytpplnapfpoloiaa
open Go.RowKit
set_option linter.unusedVariables false

def Fits (n : Nat) (i k : Int) : Prop := 0 ≤ i ∧ i ≤ n ∧ k ≤ n - i
instance (n : Nat) (i k : Int) : Decidable (Fits n i k) := by unfold Fits; infer_instance

set_option maxHeartbeats 4000000 in
theorem be_holds (A : Option Addr) (n c : Nat) (i k : Int) (w : World) (hi : In64 i) (hk : In64 k) (hn : n ≤ 140737488355328) :
    Calls Try.prog 96 #[.slice A n c, .int .i64 i, .int .i64 k] w fun e w' => e = .returned (.bool (decide (Fits n i k))) ∧ w' = w := by
  have hn1 : (n : Int) ≤ 140737488355328 := by omega
  by_cases h1 : (0 : Int) ≤ i
  · have d1 : decide ((0 : Int) ≤ i) = true := by simpa using h1
    by_cases h2 : i ≤ (n : Int)
    · have d2 : decide (i ≤ (n : Int)) = true := by simpa using h2
      have hw : IntKind.i64.wrap ((n : Int) - i) = (n : Int) - i := by rw [IntKind.wrap_i64]; unfold In64 at *; omega
      have e : decide (Fits n i k) = decide (k ≤ (n : Int) - i) := by simp [Fits, h1, h2]
      rw [e]; clear e
      go_enter Try.func96, Try.ntmps96
      go_wp2
      go_ret
      exact ⟨rfl, rfl⟩
    · have d2 : decide (i ≤ (n : Int)) = false := by simpa using h2
      have e : decide (Fits n i k) = false := by simp [Fits, h2]
      rw [e]; clear e
      go_enter Try.func96, Try.ntmps96
      go_wp2
      go_ret
      exact ⟨rfl, rfl⟩
  · have d1 : decide ((0 : Int) ≤ i) = false := by simpa using h1
    have e : decide (Fits n i k) = false := by simp [Fits, h1]
    rw [e]; clear e
    go_enter Try.func96, Try.ntmps96
    go_wp2
    go_ret
    exact ⟨rfl, rfl⟩

set_option maxHeartbeats 4000000 in
theorem ref_there (A : Option Addr) (n c : Nat) (i k : Int) (w : World) (hi : In64 i) (hk : In64 k) (hn : n ≤ 140737488355328) :
    Calls Try.prog 95 #[.slice A n c, .int .i64 i, .int .i64 k] w fun e w' => e = .returned (.bool (decide (0 ≤ k ∧ Fits n i k))) ∧ w' = w := by
  have hn1 : (n : Int) ≤ 140737488355328 := by omega
  by_cases h1 : (0 : Int) ≤ i
  · have d1 : decide ((0 : Int) ≤ i) = true := by simpa using h1
    by_cases h0 : (0 : Int) ≤ k
    · have d0 : decide ((0 : Int) ≤ k) = true := by simpa using h0
      by_cases h2 : i ≤ (n : Int)
      · have d2 : decide (i ≤ (n : Int)) = true := by simpa using h2
        have hw : IntKind.i64.wrap ((n : Int) - i) = (n : Int) - i := by rw [IntKind.wrap_i64]; unfold In64 at *; omega
        have e : decide (0 ≤ k ∧ Fits n i k) = decide (k ≤ (n : Int) - i) := by simp [Fits, h1, h2, h0]
        rw [e]; clear e
        go_enter Try.func95, Try.ntmps95
        go_wp2
        go_ret
        exact ⟨rfl, rfl⟩
      · have d2 : decide (i ≤ (n : Int)) = false := by simpa using h2
        have e : decide (0 ≤ k ∧ Fits n i k) = false := by simp [Fits, h2]
        rw [e]; clear e
        go_enter Try.func95, Try.ntmps95
        go_wp2
        go_ret
        exact ⟨rfl, rfl⟩
    · have d0 : decide ((0 : Int) ≤ k) = false := by simpa using h0
      have e : decide (0 ≤ k ∧ Fits n i k) = false := by simp [h0]
      rw [e]; clear e
      go_enter Try.func95, Try.ntmps95
      go_wp2
      go_ret
      exact ⟨rfl, rfl⟩
  · have d1 : decide ((0 : Int) ≤ i) = false := by simpa using h1
    have e : decide (0 ≤ k ∧ Fits n i k) = false := by simp [Fits, h1]
    rw [e]; clear e
    go_enter Try.func95, Try.ntmps95
    go_wp2
    go_ret
    exact ⟨rfl, rfl⟩

/-- The number of k bytes from p on, the highest first. -/
def numAt (f : Nat → Int) (p : Nat) : Nat → Int
  | 0 => 0
  | k + 1 => 256 * numAt f p k + f (p + k)
theorem numAt_range {f : Nat → Int} {p : Nat} : ∀ {k : Nat}, (∀ j, j < p + k → 0 ≤ f j ∧ f j ≤ 255) → 0 ≤ numAt f p k ∧ numAt f p k < 256 ^ k
  | 0, _ => by simp [numAt]
  | k + 1, h => by
    have h1 := numAt_range (f := f) (p := p) (k := k) (fun j hj => h j (by omega))
    have h2 := h (p + k) (by omega)
    simp only [numAt]
    rw [Int.pow_succ]
    omega
theorem numAt_small {f : Nat → Int} {p j : Nat} (hj : j ≤ 4) (h : ∀ i, i < p + j → 0 ≤ f i ∧ f i ≤ 255) : 0 ≤ numAt f p j ∧ numAt f p j < 4294967296 ∧ (j ≤ 3 → numAt f p j < 16777216) := by
  have h1 := numAt_range h
  have hh : j = 0 ∨ j = 1 ∨ j = 2 ∨ j = 3 ∨ j = 4 := by omega
  rcases hh with rfl | rfl | rfl | rfl | rfl <;> (simp only [Int.reducePow] at h1; omega)
theorem or_byte (x y : Int) (h0 : 0 ≤ x) (h1 : x < 72057594037927936 / 2) (k0 : 0 ≤ y) (k1 : y ≤ 255) : bits .or .i64 (x * 256) y = 256 * x + y := by
  obtain ⟨a, rfl⟩ := Int.eq_ofNat_of_zero_le h0
  obtain ⟨b, rfl⟩ := Int.eq_ofNat_of_zero_le k0
  show IntKind.i64.wrap ((BitVec.ofInt 64 ((a : Int) * 256) ||| BitVec.ofInt 64 (b : Int)).toNat : Int) = _
  have e1 : BitVec.ofInt 64 ((a : Int) * 256) = BitVec.ofNat 64 (a * 256) := by
    rw [← BitVec.ofInt_natCast]; congr 1
  rw [e1, BitVec.ofInt_natCast, BitVec.toNat_or, BitVec.toNat_ofNat, BitVec.toNat_ofNat, Nat.mod_eq_of_lt (by omega), Nat.mod_eq_of_lt (by omega)]
  have e2 : a * 256 ||| b = a * 256 + b := by
    have := Nat.shiftLeft_add_eq_or_of_lt (i := 8) (show b < 2 ^ 8 by omega) a
    rw [Nat.shiftLeft_eq] at this
    simp only [Nat.reducePow] at this
    exact this.symm
  rw [e2, IntKind.wrap_i64]
  omega
/-- What 'U' answers. -/
def uAns (f : Nat → Int) (n : Nat) (i k : Int) : Int × Int := if k < 1 ∨ 4 < k then (0, 2) else if Fits n i k then (numAt f i.toNat k.toNat, 0) else (0, 3)

set_option maxHeartbeats 4000000 in
theorem be_u (A : Option Addr) (n c : Nat) (f : Nat → Int) (i k : Int) (w : World) (h : Rd w w.heap.size A n (U8 f)) (hf : ∀ j, j < n → 0 ≤ f j ∧ f j ≤ 255) (hi : In64 i) (hk : In64 k) (hn : n ≤ 140737488355328) :
    Calls Try.prog 62 #[.slice A n c, .int .i64 i, .int .i64 k] w fun e w' => e = .returned (.tuple #[.int .i64 (uAns f n i k).1, .int .i64 (uAns f n i k).2]) ∧ w' = w := by
  by_cases h1 : k < 1
  · have d1 : decide (k < 1) = true := by simpa using h1
    simp only [uAns, h1, true_or, if_true]
    clear h h1
    go_enter Try.func62, Try.ntmps62
    go_wp2
    go_ret2
    exact ⟨rfl, rfl⟩
  have d1 : decide (k < 1) = false := by simpa using h1
  by_cases h2 : 4 < k
  · have d2 : decide (4 < k) = true := by simpa using h2
    simp only [uAns, h2, or_true, if_true]
    clear h h1 h2
    go_enter Try.func62, Try.ntmps62
    go_wp2
    go_ret2
    exact ⟨rfl, rfl⟩
  have d2 : decide (4 < k) = false := by simpa using h2
  by_cases h3 : Fits n i k
  · have d3 : decide (Fits n i k) = true := by simpa using h3
    obtain ⟨p, rfl⟩ : ∃ p : Nat, i = p := ⟨i.toNat, by have := h3.1; omega⟩
    obtain ⟨m, rfl⟩ : ∃ m : Nat, k = m := ⟨k.toNat, by omega⟩
    have h4 : p + m ≤ n := by have := h3.2.2; omega
    obtain ⟨b, o, rfl, hb, hc⟩ := h (by omega)
    simp only [uAns, h1, h2, or_self, if_false, h3, if_true, Int.toNat_natCast]
    have hm : m ≤ 4 := by omega
    have hm1 : 1 ≤ m := by omega
    clear h h1 h2 h3
    go_enter Try.func62, Try.ntmps62
    go_wp2_with (go_at_call 96; refine (be_holds _ n c p m w hi hk hn).mono ?_; rintro e w2 ⟨rfl, rfl⟩)
    go_loop [8, 22] (fun x y => ∃ j : Nat, j ≤ m ∧ x = .int .i64 (numAt f p j) ∧ y = .int .i64 j) (fun _ y => m - (intOf y).toNat)
    case atStart => exact ⟨0, by omega, rfl, rfl⟩
    case round =>
      obtain ⟨j, hj, rfl, rfl⟩ := hrel
      by_cases hjm : j < m
      · have hx : w2.cell? ⟨b, o + (p + j), none⟩ = some (.int .u8 (f (p + j))) := hc (p + j) (by omega)
        have hr := numAt_small (f := f) (p := p) (j := j) (by omega) (fun i hi => hf i (by omega))
        have hb8 := hf (p + j) (by omega)
        have hw8 : wrap64 (numAt f p j * 256) = numAt f p j * 256 := by unfold wrap64; omega
        have hjm' : (j : Int) < m := by omega
        clear hc
        have ho := or_byte (numAt f p j) (f (p + j)) (by omega) (by omega) (by omega) (by omega)
        go_wp2
        go_round
        case rel => exact ⟨j + 1, by omega, rfl, by simp⟩
        case measure => simp [intOf]; omega
      · obtain rfl : j = m := by omega
        go_wp2
        go_ret2
        exact ⟨rfl, rfl⟩
  · have d3 : decide (Fits n i k) = false := by simpa using h3
    simp only [uAns, h1, h2, or_self, if_false, h3]
    clear h h1 h2 h3
    go_enter Try.func62, Try.ntmps62
    go_wp2_with (go_at_call 96; refine (be_holds _ n c i k w hi hk hn).mono ?_; rintro e w2 ⟨rfl, rfl⟩)
    go_ret2
    exact ⟨rfl, rfl⟩

set_option maxHeartbeats 4000000 in
theorem ref_u (A : Option Addr) (n c : Nat) (f : Nat → Int) (i k : Int) (w : World) (h : Rd w w.heap.size A n (U8 f)) (hf : ∀ j, j < n → 0 ≤ f j ∧ f j ≤ 255) (hi : In64 i) (hk : In64 k) (hn : n ≤ 140737488355328) :
    Calls Try.prog 101 #[.slice A n c, .int .i64 i, .int .i64 k] w fun e w' => e = .returned (.tuple #[.int .i64 (uAns f n i k).1, .int .i64 (uAns f n i k).2]) ∧ w' = w := by
  by_cases h1 : k < 1
  · have d1 : decide (k < 1) = true := by simpa using h1
    simp only [uAns, h1, true_or, if_true]
    clear h h1
    go_enter Try.func101, Try.ntmps101
    go_wp2
    go_ret2
    exact ⟨rfl, rfl⟩
  have d1 : decide (k < 1) = false := by simpa using h1
  by_cases h2 : 4 < k
  · have d2 : decide (4 < k) = true := by simpa using h2
    simp only [uAns, h2, or_true, if_true]
    clear h h1 h2
    go_enter Try.func101, Try.ntmps101
    go_wp2
    go_ret2
    exact ⟨rfl, rfl⟩
  have d2 : decide (4 < k) = false := by simpa using h2
  by_cases h3 : Fits n i k
  · have d3 : decide (0 ≤ k ∧ Fits n i k) = true := by simp [h3]; omega
    obtain ⟨p, rfl⟩ : ∃ p : Nat, i = p := ⟨i.toNat, by have := h3.1; omega⟩
    obtain ⟨m, rfl⟩ : ∃ m : Nat, k = m := ⟨k.toNat, by omega⟩
    have h4 : p + m ≤ n := by have := h3.2.2; omega
    have d4 : decide (Fits n (p : Int) (m : Int)) = true := by simpa using h3
    obtain ⟨b, o, rfl, hb, hc⟩ := h (by omega)
    simp only [uAns, h1, h2, or_self, if_false, h3, if_true, Int.toNat_natCast]
    have hm : m ≤ 4 := by omega
    have hm1 : 1 ≤ m := by omega
    clear h h1 h2 h3
    go_enter Try.func101, Try.ntmps101
    go_wp2_with (go_at_call 95; refine (ref_there _ n c p m w hi hk hn).mono ?_; rintro e w2 ⟨rfl, rfl⟩)
    go_loop [8, 9] (fun x y => ∃ j : Nat, j ≤ m ∧ x = .int .i64 (numAt f p j) ∧ y = .int .i64 ((p + j : Nat) : Int)) (fun _ y => p + m - (intOf y).toNat)
    case atStart => exact ⟨0, by omega, rfl, rfl⟩
    case round =>
      obtain ⟨j, hj, rfl, rfl⟩ := hrel
      by_cases hjm : j < m
      · have hx : w2.cell? ⟨b, o + (p + j), none⟩ = some (.int .u8 (f (p + j))) := hc (p + j) (by omega)
        have hr := numAt_small (f := f) (p := p) (j := j) (by omega) (fun i hi => hf i (by omega))
        have hb8 := hf (p + j) (by omega)
        clear hc
        have hjm' : ((p + j : Nat) : Int) < p + m := by omega
        have hjn : ((p + j : Nat) : Int) < n := by omega
        go_wp2
        go_round
        case rel => exact ⟨j + 1, by omega, rfl, by simp; omega⟩
        case measure => simp [intOf]; omega
      · obtain rfl : j = m := by omega
        go_wp2
        go_ret2
        exact ⟨rfl, rfl⟩
  · have d3 : decide (0 ≤ k ∧ Fits n i k) = false := by simp [h3]
    simp only [uAns, h1, h2, or_self, if_false, h3]
    clear h h1 h2 h3
    go_enter Try.func101, Try.ntmps101
    go_wp2_with (go_at_call 95; refine (ref_there _ n c i k w hi hk hn).mono ?_; rintro e w2 ⟨rfl, rfl⟩)
    go_ret2
    exact ⟨rfl, rfl⟩
end Go.Proofs.Ytpplnapfpoloiaa

/-
  Layer 2: 'S', walked, program and reference.
-/
namespace Go.Proofs.Ytpplnapfpoloiaa
open Go.RowKit
set_option linter.unusedVariables false

/-- A number of k bytes, with its sign. -/
def sgn (k : Nat) (x : Int) : Int := if 256 ^ k ≤ 2 * x then x - 256 ^ k else x
/-- What 'S' answers. -/
def sAns (f : Nat → Int) (n : Nat) (i k : Int) : Int × Int := if k < 1 ∨ 4 < k then (0, 2) else if Fits n i k then (sgn k.toNat (numAt f i.toNat k.toNat), 0) else (0, 3)
theorem fits_top {n : Nat} {i k : Int} (h3 : Fits n i k) (h1 : ¬ k < 1) : i.toNat + k.toNat ≤ n := by unfold Fits at h3; omega

set_option maxHeartbeats 4000000 in
theorem be_s (A : Option Addr) (n c : Nat) (f : Nat → Int) (i k : Int) (w : World) (h : Rd w w.heap.size A n (U8 f)) (hf : ∀ j, j < n → 0 ≤ f j ∧ f j ≤ 255) (hi : In64 i) (hk : In64 k) (hn : n ≤ 140737488355328) :
    Calls Try.prog 72 #[.slice A n c, .int .i64 i, .int .i64 k] w fun e w' => e = .returned (.tuple #[.int .i64 (sAns f n i k).1, .int .i64 (sAns f n i k).2]) ∧ w' = w := by
  have hu := be_u A n c f i k w h hf hi hk hn
  clear h
  by_cases h1 : k < 1 ∨ 4 < k
  · simp only [uAns, sAns, h1, if_true] at hu ⊢
    clear h1
    go_enter Try.func72, Try.ntmps72
    go_wp2_with (go_at_call 62; refine hu.mono ?_; rintro e w2 ⟨rfl, rfl⟩)
    go_ret2
    exact ⟨rfl, rfl⟩
  by_cases h3 : Fits n i k
  · simp only [uAns, sAns, h1, if_false, h3, if_true] at hu ⊢
    have hr := numAt_range (f := f) (p := i.toNat) (k := k.toNat) (fun j hj => hf j (by have := fits_top h3 (by omega); omega))
    generalize numAt f i.toNat k.toNat = x at hu hr ⊢
    have hh : k = 1 ∨ k = 2 ∨ k = 3 ∨ k = 4 := by omega
    clear h1 h3 hk hf hi hn
    rcases hh with rfl | rfl | rfl | rfl
    all_goals (simp only [sgn, Int.reduceToNat, Int.reducePow] at hr hu ⊢)
    all_goals (obtain ⟨hr1, hr2⟩ := hr)
    · by_cases hs : 128 ≤ x
      · have hd : decide (x / 128 = 1) = true := by simp; omega
        have hd' : (x / 128 == 1) = true := by simp; omega
        have e1 : wrap64 (x - 256) = x - 256 := by unfold wrap64; omega
        rw [if_pos (by omega)]
        go_enter Try.func72, Try.ntmps72
        go_wp2_with (go_at_call 62; refine hu.mono ?_; rintro e w2 ⟨rfl, rfl⟩)
        go_ret2
        exact ⟨rfl, rfl⟩
      · have hd : decide (x / 128 = 1) = false := by simp; omega
        have hd' : (x / 128 == 1) = false := by simp; omega
        rw [if_neg (by omega)]
        go_enter Try.func72, Try.ntmps72
        go_wp2_with (go_at_call 62; refine hu.mono ?_; rintro e w2 ⟨rfl, rfl⟩)
        go_ret2
        exact ⟨rfl, rfl⟩
    · by_cases hs : 32768 ≤ x
      · have hd : decide (x / 32768 = 1) = true := by simp; omega
        have hd' : (x / 32768 == 1) = true := by simp; omega
        have e1 : wrap64 (x - 65536) = x - 65536 := by unfold wrap64; omega
        rw [if_pos (by omega)]
        go_enter Try.func72, Try.ntmps72
        go_wp2_with (go_at_call 62; refine hu.mono ?_; rintro e w2 ⟨rfl, rfl⟩)
        go_ret2
        exact ⟨rfl, rfl⟩
      · have hd : decide (x / 32768 = 1) = false := by simp; omega
        have hd' : (x / 32768 == 1) = false := by simp; omega
        rw [if_neg (by omega)]
        go_enter Try.func72, Try.ntmps72
        go_wp2_with (go_at_call 62; refine hu.mono ?_; rintro e w2 ⟨rfl, rfl⟩)
        go_ret2
        exact ⟨rfl, rfl⟩
    · by_cases hs : 8388608 ≤ x
      · have hd : decide (x / 8388608 = 1) = true := by simp; omega
        have hd' : (x / 8388608 == 1) = true := by simp; omega
        have e1 : wrap64 (x - 16777216) = x - 16777216 := by unfold wrap64; omega
        rw [if_pos (by omega)]
        go_enter Try.func72, Try.ntmps72
        go_wp2_with (go_at_call 62; refine hu.mono ?_; rintro e w2 ⟨rfl, rfl⟩)
        go_ret2
        exact ⟨rfl, rfl⟩
      · have hd : decide (x / 8388608 = 1) = false := by simp; omega
        have hd' : (x / 8388608 == 1) = false := by simp; omega
        rw [if_neg (by omega)]
        go_enter Try.func72, Try.ntmps72
        go_wp2_with (go_at_call 62; refine hu.mono ?_; rintro e w2 ⟨rfl, rfl⟩)
        go_ret2
        exact ⟨rfl, rfl⟩
    · by_cases hs : 2147483648 ≤ x
      · have hd : decide (x / 2147483648 = 1) = true := by simp; omega
        have hd' : (x / 2147483648 == 1) = true := by simp; omega
        have e1 : wrap64 (x - 4294967296) = x - 4294967296 := by unfold wrap64; omega
        rw [if_pos (by omega)]
        go_enter Try.func72, Try.ntmps72
        go_wp2_with (go_at_call 62; refine hu.mono ?_; rintro e w2 ⟨rfl, rfl⟩)
        go_ret2
        exact ⟨rfl, rfl⟩
      · have hd : decide (x / 2147483648 = 1) = false := by simp; omega
        have hd' : (x / 2147483648 == 1) = false := by simp; omega
        rw [if_neg (by omega)]
        go_enter Try.func72, Try.ntmps72
        go_wp2_with (go_at_call 62; refine hu.mono ?_; rintro e w2 ⟨rfl, rfl⟩)
        go_ret2
        exact ⟨rfl, rfl⟩
  · simp only [uAns, sAns, h1, if_false, h3] at hu ⊢
    clear h1 h3
    go_enter Try.func72, Try.ntmps72
    go_wp2_with (go_at_call 62; refine hu.mono ?_; rintro e w2 ⟨rfl, rfl⟩)
    go_ret2
    exact ⟨rfl, rfl⟩

end Go.Proofs.Ytpplnapfpoloiaa

/-
  Layer 2: 'Put', walked, program and reference.
-/
namespace Go.Proofs.Ytpplnapfpoloiaa
open Go.RowKit
set_option linter.unusedVariables false

def clampW (k : Int) : Nat := if k < 0 then 0 else if 8 < k then 8 else k.toNat
theorem clampW_le (k : Int) : clampW k ≤ 8 := by unfold clampW; split <;> (try split) <;> omega
/-- The byte of n at place j of m. -/
def byteOf (n : Int) (m j : Nat) : Int := n / 2 ^ (8 * (m - 1 - j)) % 256

set_option maxHeartbeats 4000000 in
theorem be_put (n k : Int) (w : World) (hn : In64 n) (hk : In64 k) :
    Calls Try.prog 48 #[.int .i64 n, .int .i64 k] w fun e w' => ∃ g, e = .returned (.slice (some ⟨g, 0, none⟩) (clampW k) (clampW k)) ∧ w.heap.size ≤ g ∧ Row w' g (clampW k) (U8 (byteOf n (clampW k))) ∧ Since w w' := by
  obtain ⟨i0, hi0, hz0, hz1, hz2⟩ := info_parts Try.info_u8
  by_cases h1 : 0 ≤ k ∧ k ≤ 8
  · obtain ⟨m, rfl⟩ : ∃ m : Nat, k = m := ⟨k.toNat, by omega⟩
    obtain ⟨h1, h2⟩ := h1
    have hm : m ≤ 8 := by omega
    have hc : clampW m = m := by unfold clampW; rw [if_neg (by omega), if_neg (by omega)]; rfl
    rw [hc]
    have b1 : 1 * m ≤ 281474976710656 := by omega
    have b2 : m ≤ maxLen := by simp only [maxLen]; omega
    clear hc
    go_enter Try.func48, Try.ntmps48
    go_wp2_with (at_make; refine wpList_make_tab _ (by rfl) (.tmp 10) (.tmp 10) _ (by rfl) 5 i0 .u8 1 Try.underlying26 hi0 hz0 hz1 hz2 .i64 .i64 m (by rfl) (by rfl) b1 b2 ?_; intro w1 hown1 hS1)
    have hrow := row_of_own hown1
    clear hown1
    go_loopw [13] (fun y wr => ∃ j : Nat, j ≤ m ∧ y = .int .i64 j ∧ Since w wr ∧ Row wr w.heap.size m (U8 (fun q => if m ≤ q + j then byteOf n m q else 0))) (fun y _ => m - (intOf y).toNat)
    case atStart => exact ⟨0, by omega, rfl, hS1, hrow.congr (fun q hq => by simp only [U8, IntRow]; rw [if_neg (by omega)])⟩
    case round =>
      obtain ⟨j, hj, rfl, hSr, hR⟩ := hrel
      by_cases hjm : j < m
      · obtain ⟨q, hq⟩ : ∃ q : Nat, q + 1 + j = m := ⟨m - 1 - j, by omega⟩
        have hqi : (m : Int) - 1 - (j : Int) = (q : Int) := by omega
        have hqi' : (m : Int) - 1 = (q : Int) + j := by omega
        have hjm' : (j : Int) < m := by omega
        have hqm : (q : Int) < m := by omega
        have hcell := hR.1 q (by omega)
        have hfr := hR.2.1 q
        go_wp2
        refine ⟨⟨j + 1, by omega, by simp, hSr.setCell (Nat.le_refl _) _, (hR.set q _).congr (fun t ht => ?_)⟩, by simp [intOf]; omega⟩
        by_cases hqt : t = q
        · subst hqt
          simp only [U8, IntRow]
          rw [if_pos trivial, if_pos (by omega), byteOf, show m - 1 - t = j by omega]
        · simp only [U8, IntRow]
          rw [if_neg hqt]
          by_cases ht2 : m ≤ t + j
          · rw [if_pos ht2, if_pos (by omega)]
          · rw [if_neg ht2, if_neg (by omega)]
      · obtain rfl : m = j := by omega
        have hR' := hR.congr (g := U8 (byteOf n m)) (fun q hq => by simp only [U8, IntRow]; rw [if_pos (by omega)])
        clear hR
        go_wp2
        go_ret
        exact ⟨_, rfl, Nat.le_refl _, hR', hSr⟩
  by_cases h2 : k < 0
  · have hc : clampW k = 0 := by unfold clampW; rw [if_pos (by omega)]
    rw [hc]
    have b1 : 1 * 0 ≤ 281474976710656 := by omega
    have b2 : 0 ≤ maxLen := by simp only [maxLen]; omega
    clear hc
    go_enter Try.func48, Try.ntmps48
    go_wp2_with (at_make; refine wpList_make_tab _ (by rfl) (.tmp 10) (.tmp 10) _ (by rfl) 5 i0 .u8 1 Try.underlying26 hi0 hz0 hz1 hz2 .i64 .i64 0 (by rfl) (by rfl) b1 b2 ?_; intro w1 hown1 hS1)
    have hrow := row_of_own hown1
    clear hown1
    go_loopw [13] (fun y wr => ∃ j : Nat, j ≤ 0 ∧ y = .int .i64 j ∧ Since w wr ∧ Row wr w.heap.size 0 (U8 (fun q => if 0 ≤ q + j then byteOf n 0 q else 0))) (fun y _ => 0 - (intOf y).toNat)
    case atStart => exact ⟨0, by omega, rfl, hS1, hrow.congr (fun q hq => by simp only [U8, IntRow]; rw [if_neg (by omega)])⟩
    case round =>
      obtain ⟨j, hj, rfl, hSr, hR⟩ := hrel
      by_cases hjm : j < 0
      · exact absurd hjm (by omega)
      · obtain rfl : 0 = j := by omega
        have hR' := hR.congr (g := U8 (byteOf n 0)) (fun q hq => by simp only [U8, IntRow]; rw [if_pos (by omega)])
        clear hR
        go_wp2
        go_ret
        exact ⟨_, rfl, Nat.le_refl _, hR', hSr⟩
  · have h2' : 8 < k := by omega
    have hc : clampW k = 8 := by unfold clampW; rw [if_neg (by omega), if_pos (by omega)]
    rw [hc]
    have b1 : 1 * 8 ≤ 281474976710656 := by omega
    have b2 : 8 ≤ maxLen := by simp only [maxLen]; omega
    clear hc
    go_enter Try.func48, Try.ntmps48
    go_wp2_with (at_make; refine wpList_make_tab _ (by rfl) (.tmp 10) (.tmp 10) _ (by rfl) 5 i0 .u8 1 Try.underlying26 hi0 hz0 hz1 hz2 .i64 .i64 8 (by rfl) (by rfl) b1 b2 ?_; intro w1 hown1 hS1)
    have hrow := row_of_own hown1
    clear hown1
    go_loopw [13] (fun y wr => ∃ j : Nat, j ≤ 8 ∧ y = .int .i64 j ∧ Since w wr ∧ Row wr w.heap.size 8 (U8 (fun q => if 8 ≤ q + j then byteOf n 8 q else 0))) (fun y _ => 8 - (intOf y).toNat)
    case atStart => exact ⟨0, by omega, rfl, hS1, hrow.congr (fun q hq => by simp only [U8, IntRow]; rw [if_neg (by omega)])⟩
    case round =>
      obtain ⟨j, hj, rfl, hSr, hR⟩ := hrel
      by_cases hjm : j < 8
      · obtain ⟨q, hq⟩ : ∃ q : Nat, q + 1 + j = 8 := ⟨8 - 1 - j, by omega⟩
        have hqi : (8 : Int) - 1 - (j : Int) = (q : Int) := by omega
        have hqi' : (8 : Int) - 1 = (q : Int) + j := by omega
        have hjm' : (j : Int) < 8 := by omega
        have hqm : (q : Int) < 8 := by omega
        have hcell := hR.1 q (by omega)
        have hfr := hR.2.1 q
        go_wp2
        refine ⟨⟨j + 1, by omega, by simp, hSr.setCell (Nat.le_refl _) _, (hR.set q _).congr (fun t ht => ?_)⟩, by simp [intOf]; omega⟩
        by_cases hqt : t = q
        · subst hqt
          simp only [U8, IntRow]
          rw [if_pos trivial, if_pos (by omega), byteOf, show 8 - 1 - t = j by omega]
        · simp only [U8, IntRow]
          rw [if_neg hqt]
          by_cases ht2 : 8 ≤ t + j
          · rw [if_pos ht2, if_pos (by omega)]
          · rw [if_neg ht2, if_neg (by omega)]
      · obtain rfl : 8 = j := by omega
        have hR' := hR.congr (g := U8 (byteOf n 8)) (fun q hq => by simp only [U8, IntRow]; rw [if_pos (by omega)])
        clear hR
        go_wp2
        go_ret
        exact ⟨_, rfl, Nat.le_refl _, hR', hSr⟩
end Go.Proofs.Ytpplnapfpoloiaa

/-
  Layer 2: the reference's 'Put', walked.
-/
namespace Go.Proofs.Ytpplnapfpoloiaa
open Go.RowKit
set_option linter.unusedVariables false


def low64 (n : Int) : Int := n % 18446744073709551616
def at256 (n : Int) (j : Nat) : Int := low64 n / 256 ^ j
theorem at256_bd (n : Int) (j : Nat) : 0 ≤ at256 n j ∧ at256 n j < 18446744073709551616 := by
  have h0 : 0 ≤ low64 n := by unfold low64; omega
  have h1 : low64 n < 18446744073709551616 := by unfold low64; omega
  unfold at256
  have hp : (0 : Int) < 256 ^ j := Int.pow_pos (by decide)
  exact ⟨Int.ediv_nonneg h0 (by omega), Int.lt_of_le_of_lt (Int.ediv_le_self _ h0) h1⟩
theorem at256_next (n : Int) (j : Nat) : at256 n j / 256 = at256 n (j + 1) := by
  unfold at256
  rw [Int.ediv_ediv_of_nonneg (Int.le_of_lt (Int.pow_pos (by decide))), Int.pow_succ]
theorem at256_byte (n : Int) {m j : Nat} (hj : j < m) (hm : m ≤ 8) : at256 n j % 256 = byteOf n m (m - 1 - j) := by
  unfold byteOf
  rw [show m - 1 - (m - 1 - j) = j by omega]
  have hh : j = 0 ∨ j = 1 ∨ j = 2 ∨ j = 3 ∨ j = 4 ∨ j = 5 ∨ j = 6 ∨ j = 7 := by omega
  unfold at256 low64
  rcases hh with rfl | rfl | rfl | rfl | rfl | rfl | rfl | rfl <;> (simp only [Int.reducePow, Nat.reduceMul]; omega)

set_option maxRecDepth 100000 in
set_option maxHeartbeats 4000000 in
theorem ref_put (n k : Int) (w : World) (hn : In64 n) (hk : In64 k) :
    Calls Try.prog 60 #[.int .i64 n, .int .i64 k] w fun e w' => ∃ g, e = .returned (.slice (some ⟨g, 0, none⟩) (clampW k) (clampW k)) ∧ w.heap.size ≤ g ∧ Row w' g (clampW k) (U8 (byteOf n (clampW k))) ∧ Since w w' := by
  obtain ⟨i0, hi0, hz0, hz1, hz2⟩ := info_parts Try.info_u8
  by_cases h1 : 1 ≤ k ∧ k ≤ 8
  · obtain ⟨m, rfl⟩ : ∃ m : Nat, k = m := ⟨k.toNat, by omega⟩
    obtain ⟨h1, h2⟩ := h1
    have hm : m ≤ 8 := by omega
    have hm0 : 0 < m := by omega
    have hc : clampW m = m := by unfold clampW; rw [if_neg (by omega), if_neg (by omega)]; rfl
    rw [hc]
    have b1 : 1 * m ≤ 281474976710656 := by omega
    have b2 : m ≤ maxLen := by simp only [maxLen]; omega
    clear hc
    go_enter Try.func60, Try.ntmps60
    go_wp2_with (at_make; refine wpList_make_tab _ (by rfl) (.tmp 12) (.tmp 12) _ (by rfl) 5 i0 .u8 1 Try.underlying26 hi0 hz0 hz1 hz2 .i64 .i64 m (by rfl) (by rfl) b1 b2 ?_; intro w1 hown1 hS1)
    have hrow := row_of_own hown1
    clear hown1
    go_loopw [7, 8] (fun x y wr => ∃ j : Nat, j ≤ m ∧ x = .int .u64 (at256 n j) ∧ y = .int .i64 ((m : Nat) - 1 - (j : Int)) ∧ Since w wr ∧ Row wr w.heap.size m (U8 (fun q => if m ≤ q + j then byteOf n m q else 0))) (fun _ y _ => (intOf y + 1).toNat)
    case atStart => exact ⟨0, by omega, by simp [at256, low64, IntKind.wrap_u64], by simp, hS1, hrow.congr (fun q hq => by simp only [U8, IntRow]; rw [if_neg (by omega)])⟩
    case round =>
      obtain ⟨j, hj, rfl, rfl, hSr, hR⟩ := hrel
      by_cases hjm : j < m
      · obtain ⟨q, hq⟩ : ∃ q : Nat, q + 1 + j = m := ⟨m - 1 - j, by omega⟩
        have hqi : ((m : Nat) : Int) - 1 - (j : Int) = (q : Int) := by omega
        have hqm : (q : Int) < m := by omega
        have hcell := hR.1 q (by omega)
        have hfr := hR.2.1 q
        have hx := at256_bd n j
        have hnx := at256_next n j
        have hby := at256_byte n hjm (by omega)
        rw [show m - 1 - j = q by omega] at hby
        rw [hqi]
        go_wp2
        rw [hnx]
        refine ⟨⟨j + 1, by omega, rfl, by congr 1 <;> omega, hSr.setCell (Nat.le_refl _) _, (hR.set q _).congr (fun t ht => ?_)⟩, by simp [intOf] <;> omega⟩
        by_cases hqt : t = q
        · subst hqt
          simp only [U8, IntRow]
          rw [if_pos trivial, if_pos (by omega)]
        · simp only [U8, IntRow]
          rw [if_neg hqt]
          by_cases ht2 : m ≤ t + j
          · rw [if_pos ht2, if_pos (by omega)]
          · rw [if_neg ht2, if_neg (by omega)]
      · obtain rfl : m = j := by omega
        have hR' := hR.congr (g := U8 (byteOf n m)) (fun q hq => by simp only [U8, IntRow]; rw [if_pos (by omega)])
        clear hR
        go_wp2
        go_ret
        exact ⟨_, rfl, Nat.le_refl _, hR', hSr⟩
  by_cases h2 : k ≤ 0
  · have hc : clampW k = 0 := by unfold clampW; split <;> (try split) <;> omega
    rw [hc]
    have b1 : 1 * 0 ≤ 281474976710656 := by omega
    have b2 : 0 ≤ maxLen := by simp only [maxLen]; omega
    clear hc
    go_enter Try.func60, Try.ntmps60
    go_wp2_with (at_make; refine wpList_make_tab _ (by rfl) (.tmp 12) (.tmp 12) _ (by rfl) 5 i0 .u8 1 Try.underlying26 hi0 hz0 hz1 hz2 .i64 .i64 0 (by rfl) (by rfl) b1 b2 ?_; intro w1 hown1 hS1)
    have hrow := row_of_own hown1
    clear hown1
    go_loopw [7, 8] (fun x y wr => ∃ j : Nat, j ≤ 0 ∧ x = .int .u64 (at256 n j) ∧ y = .int .i64 ((0 : Nat) - 1 - (j : Int)) ∧ Since w wr ∧ Row wr w.heap.size 0 (U8 (fun q => if 0 ≤ q + j then byteOf n 0 q else 0))) (fun _ y _ => (intOf y + 1).toNat)
    case atStart => exact ⟨0, by omega, by simp [at256, low64, IntKind.wrap_u64], by simp, hS1, hrow.congr (fun q hq => by simp only [U8, IntRow]; rw [if_neg (by omega)])⟩
    case round =>
      obtain ⟨j, hj, rfl, rfl, hSr, hR⟩ := hrel
      by_cases hjm : j < 0
      · exact absurd hjm (by omega)
      · obtain rfl : 0 = j := by omega
        have hR' := hR.congr (g := U8 (byteOf n 0)) (fun q hq => by simp only [U8, IntRow]; rw [if_pos (by omega)])
        clear hR
        go_wp2
        go_ret
        exact ⟨_, rfl, Nat.le_refl _, hR', hSr⟩
  · have h2' : 8 < k := by omega
    have hc : clampW k = 8 := by unfold clampW; rw [if_neg (by omega), if_pos (by omega)]
    rw [hc]
    have b1 : 1 * 8 ≤ 281474976710656 := by omega
    have b2 : 8 ≤ maxLen := by simp only [maxLen]; omega
    clear hc
    go_enter Try.func60, Try.ntmps60
    go_wp2_with (at_make; refine wpList_make_tab _ (by rfl) (.tmp 12) (.tmp 12) _ (by rfl) 5 i0 .u8 1 Try.underlying26 hi0 hz0 hz1 hz2 .i64 .i64 8 (by rfl) (by rfl) b1 b2 ?_; intro w1 hown1 hS1)
    have hrow := row_of_own hown1
    clear hown1
    go_loopw [7, 8] (fun x y wr => ∃ j : Nat, j ≤ 8 ∧ x = .int .u64 (at256 n j) ∧ y = .int .i64 ((8 : Nat) - 1 - (j : Int)) ∧ Since w wr ∧ Row wr w.heap.size 8 (U8 (fun q => if 8 ≤ q + j then byteOf n 8 q else 0))) (fun _ y _ => (intOf y + 1).toNat)
    case atStart => exact ⟨0, by omega, by simp [at256, low64, IntKind.wrap_u64], by simp, hS1, hrow.congr (fun q hq => by simp only [U8, IntRow]; rw [if_neg (by omega)])⟩
    case round =>
      obtain ⟨j, hj, rfl, rfl, hSr, hR⟩ := hrel
      by_cases hjm : j < 8
      · obtain ⟨q, hq⟩ : ∃ q : Nat, q + 1 + j = 8 := ⟨8 - 1 - j, by omega⟩
        have hqi : ((8 : Nat) : Int) - 1 - (j : Int) = (q : Int) := by omega
        have hqm : (q : Int) < 8 := by omega
        have hcell := hR.1 q (by omega)
        have hfr := hR.2.1 q
        have hx := at256_bd n j
        have hnx := at256_next n j
        have hby := at256_byte n hjm (by omega)
        rw [show 8 - 1 - j = q by omega] at hby
        rw [hqi]
        go_wp2
        rw [hnx]
        refine ⟨⟨j + 1, by omega, rfl, by congr 1 <;> omega, hSr.setCell (Nat.le_refl _) _, (hR.set q _).congr (fun t ht => ?_)⟩, by simp [intOf] <;> omega⟩
        by_cases hqt : t = q
        · subst hqt
          simp only [U8, IntRow]
          rw [if_pos trivial, if_pos (by omega)]
        · simp only [U8, IntRow]
          rw [if_neg hqt]
          by_cases ht2 : 8 ≤ t + j
          · rw [if_pos ht2, if_pos (by omega)]
          · rw [if_neg ht2, if_neg (by omega)]
      · obtain rfl : 8 = j := by omega
        have hR' := hR.congr (g := U8 (byteOf n 8)) (fun q hq => by simp only [U8, IntRow]; rw [if_pos (by omega)])
        clear hR
        go_wp2
        go_ret
        exact ⟨_, rfl, Nat.le_refl _, hR', hSr⟩
end Go.Proofs.Ytpplnapfpoloiaa

/-
  Layer 2: 'Lay', walked, program and reference; a slice that is new, to be written.
-/
namespace Go.Proofs.Ytpplnapfpoloiaa
open Go.RowKit
set_option linter.unusedVariables false

/-- A slice that is new since B, to be written: its n elements read as V. -/
def Nw (w : World) (B : Nat) (A : Option Addr) (n : Nat) (V : Nat → Value) : Prop := 0 < n → ∃ g, A = some ⟨g, 0, none⟩ ∧ B ≤ g ∧ Row w g n V
section
variable {w w' : World} {B n : Nat} {A : Option Addr} {V U : Nat → Value}
theorem Nw.zero : Nw w B A 0 V := fun h => absurd h (by omega)
theorem Nw.rd (h : Nw w B A n V) : Rd w w.heap.size A n V := fun hn => by
  obtain ⟨g, rfl, hb, hr⟩ := h hn
  exact Rd.of_row hr hn
theorem Nw.since (h : Nw w B A n V) (k : Since w w') : Nw w' B A n V := fun hn => by
  obtain ⟨g, rfl, hb, hr⟩ := h hn
  exact ⟨g, rfl, hb, hr.since k⟩
theorem Nw.congr (h : Nw w B A n V) (e : ∀ j, j < n → V j = U j) : Nw w B A n U := fun hn => by
  obtain ⟨g, rfl, hb, hr⟩ := h hn
  exact ⟨g, rfl, hb, hr.congr e⟩
end
theorem Try.size_u8' : (Try.prog.info? 5).map (·.size) = some 1 := by kernel_rfl
theorem Own.cap {w : World} {B g cap n : Nat} {f : Nat → Int} (h : Own w B g cap n f) : n ≤ cap := by
  rcases h.2 with ⟨e1, _⟩ | ⟨_, _, _, e1, _, _, hnc, _⟩
  · cases e1
  · injection e1 with _ _ e3; omega
def layE (n m : Nat) (i : Int) : Int := if Fits n i m then 0 else 3
def layN (n m : Nat) (i : Int) : Nat := if Fits n i m then n else 0
def layF (f o : Nat → Int) (m : Nat) (i : Int) (j : Nat) : Int := if i.toNat ≤ j ∧ j < i.toNat + m then o (j - i.toNat) else f j
theorem lay_no {n m : Nat} {i : Int} (h : ¬ Fits n i m) : layE n m i = 3 ∧ layN n m i = 0 := by simp [layE, layN, h]
theorem lay_yes {n m : Nat} {i : Int} (h : Fits n i m) : layE n m i = 0 ∧ layN n m i = n := by simp [layE, layN, h]
/-- What 'Lay' leaves. -/
def LayPost (f o : Nat → Int) (n m : Nat) (i : Int) (w : World) (e : Ending) (w' : World) : Prop := ∃ A' l cap, e = .returned (.tuple #[.slice A' l cap, .int .i64 (layE n m i)]) ∧ l = layN n m i ∧ l ≤ cap ∧ Nw w' w.heap.size A' l (U8 (layF f o m i)) ∧ Since w w'

set_option maxHeartbeats 4000000 in
theorem ref_lay (A B : Option Addr) (n c m d : Nat) (f o : Nat → Int) (i : Int) (w : World) (h : Rd w w.heap.size A n (U8 f)) (hB : Rd w w.heap.size B m (U8 o)) (hi : In64 i) (hn : n ≤ 140737488355328) (hm : m ≤ 140737488355328) :
    Calls Try.prog 59 #[.slice A n c, .int .i64 i, .slice B m d] w (LayPost f o n m i w) := by
  have hk : In64 (m : Int) := by unfold In64; omega
  by_cases h3 : Fits n i m
  · have d3 : decide (0 ≤ (m : Int) ∧ Fits n i m) = true := by simp [h3]
    obtain ⟨p, rfl⟩ : ∃ p : Nat, i = p := ⟨i.toNat, by have := h3.1; omega⟩
    have d4 : decide (Fits n (p : Int) (m : Int)) = true := by simpa using h3
    have h4 : p + m ≤ n := by have := h3.2.2; omega
    obtain ⟨e1, e2⟩ := lay_yes (n := n) (i := p) (m := m) h3
    have E1 := Lib.hid e1; have E2 := Lib.hid e2; clear e1 e2
    clear h3
    go_enter Try.func59, Try.ntmps59
    go_wp2_with (first | (go_at_call 95; refine (ref_there _ n c p m w hi hk hn).mono ?_; rintro e w2 ⟨rfl, rfl⟩) | (go_at_call 28; refine (ref_copy _ n _ f w2 h (by omega)).mono ?_; rintro e w3 ⟨g, cap, rfl, hown, hS⟩))
    have hB1 := hB.since (Nat.le_refl _) hS
    have hcap := hown.cap
    have hg := hown.base
    have hR0 := hown.row
    clear hown h hB
    go_loopw [9, 20] (fun _ y wr => ∃ j : Nat, j ≤ m ∧ y = .int .i64 j ∧ Since w2 wr ∧ Row wr g n (U8 (layF f o j p))) (fun _ y _ => m - (intOf y).toNat)
    case atStart => exact ⟨0, by omega, rfl, hS, hR0.congr (fun q hq => by simp only [U8, IntRow, layF]; rw [if_neg (by omega)])⟩
    case round =>
      obtain ⟨j, hj, rfl, hSr, hR⟩ := hrel
      by_cases hjm : j < m
      · have hjm' : (j : Int) < m := by omega
        obtain ⟨b, ob, rfl, hb, hc⟩ := hB1 (by omega)
        have hx : wr.cell? ⟨b, ob + j, none⟩ = some (.int .u8 (o j)) := by rw [hSr.1 b _ hb, ← hS.1 b _ hb]; exact hc j hjm
        have hcell := hR.1 (p + j) (by omega)
        have hfr := hR.2.1 (p + j)
        have hpj : (p : Int) + j < n := by omega
        clear hc hR0 hB1
        go_wp2
        refine ⟨⟨j + 1, by omega, by simp, hSr.setCell hg _, (hR.set (p + j) _).congr (fun t ht => ?_)⟩, by simp [intOf]; omega⟩
        simp only [U8, IntRow, layF, Int.toNat_natCast]
        by_cases e : t = p + j
        · subst e
          rw [if_pos rfl, if_pos (by omega), show p + j - p = j by omega]
        · rw [if_neg e]
          by_cases e2 : p ≤ t ∧ t < p + j
          · rw [if_pos e2, if_pos (by omega)]
          · rw [if_neg e2, if_neg (by omega)]
      · obtain rfl : m = j := by omega
        clear hB1 hR0
        go_wp2
        go_ret2
        exact ⟨_, _, _, by rw [E1.out]; rfl, E2.out.symm, hcap, fun _ => ⟨_, rfl, hg, hR⟩, hSr⟩
  · have d3 : decide (0 ≤ (m : Int) ∧ Fits n i m) = false := by simp [h3]
    have d4 : decide (Fits n i m) = false := by simpa using h3
    obtain ⟨e1, e2⟩ := lay_no h3
    have E1 := Lib.hid e1; have E2 := Lib.hid e2; clear e1 e2 h h3
    go_enter Try.func59, Try.ntmps59
    go_wp2_with (go_at_call 95; refine (ref_there _ n c i m w hi hk hn).mono ?_; rintro e w2 ⟨rfl, rfl⟩)
    go_ret2
    exact ⟨none, 0, 0, by rw [E1.out]; rfl, E2.out.symm, Nat.le_refl _, Nw.zero, Since.refl _⟩
end Go.Proofs.Ytpplnapfpoloiaa

/-
  Layer 2: reading and putting inside of the bytes; numbers laid over.
-/
namespace Go.Proofs.Ytpplnapfpoloiaa
open Go.RowKit
set_option linter.unusedVariables false


theorem u_in (A : Option Addr) (n c : Nat) (f : Nat → Int) (p m : Nat) (x y : Int) (w : World) (h : Rd w w.heap.size A n (U8 f)) (hf : ∀ j, j < n → 0 ≤ f j ∧ f j ≤ 255) (hx : x = p) (hy : y = m) (hm : 1 ≤ m ∧ m ≤ 4) (hp : p + m ≤ n) (hn : n ≤ 140737488355328) :
    Calls Try.prog 62 #[.slice A n c, .int .i64 x, .int .i64 y] w fun e w' => e = .returned (.tuple #[.int .i64 (numAt f p m), .int .i64 0]) ∧ w' = w := by
  subst hx; subst hy
  have h' := be_u A n c f p m w h hf (by unfold In64; omega) (by unfold In64; omega) hn
  unfold uAns at h'
  rw [if_neg (by omega), if_pos (by unfold Fits; omega)] at h'
  simpa using h'

theorem ru_in (A : Option Addr) (n c : Nat) (f : Nat → Int) (p m : Nat) (x y : Int) (w : World) (h : Rd w w.heap.size A n (U8 f)) (hf : ∀ j, j < n → 0 ≤ f j ∧ f j ≤ 255) (hx : x = p) (hy : y = m) (hm : 1 ≤ m ∧ m ≤ 4) (hp : p + m ≤ n) (hn : n ≤ 140737488355328) :
    Calls Try.prog 101 #[.slice A n c, .int .i64 x, .int .i64 y] w fun e w' => e = .returned (.tuple #[.int .i64 (numAt f p m), .int .i64 0]) ∧ w' = w := by
  subst hx; subst hy
  have h' := ref_u A n c f p m w h hf (by unfold In64; omega) (by unfold In64; omega) hn
  unfold uAns at h'
  rw [if_neg (by omega), if_pos (by unfold Fits; omega)] at h'
  simpa using h'


theorem s_in (A : Option Addr) (n c : Nat) (f : Nat → Int) (p m : Nat) (x y : Int) (w : World) (h : Rd w w.heap.size A n (U8 f)) (hf : ∀ j, j < n → 0 ≤ f j ∧ f j ≤ 255) (hx : x = p) (hy : y = m) (hm : 1 ≤ m ∧ m ≤ 4) (hp : p + m ≤ n) (hn : n ≤ 140737488355328) :
    Calls Try.prog 72 #[.slice A n c, .int .i64 x, .int .i64 y] w fun e w' => e = .returned (.tuple #[.int .i64 (sgn m (numAt f p m)), .int .i64 0]) ∧ w' = w := by
  subst hx; subst hy
  have h' := be_s A n c f p m w h hf (by unfold In64; omega) (by unfold In64; omega) hn
  unfold sAns at h'
  rw [if_neg (by omega), if_pos (by unfold Fits; omega)] at h'
  simpa using h'

theorem put_in (m : Nat) (x y : Int) (w : World) (hx : In64 x) (hy : y = m) (hm : m ≤ 8) : Calls Try.prog 48 #[.int .i64 x, .int .i64 y] w fun e w' => ∃ g, e = .returned (.slice (some ⟨g, 0, none⟩) m m) ∧ w.heap.size ≤ g ∧ Row w' g m (U8 (byteOf x m)) ∧ Since w w' := by
  subst hy
  have hc : clampW m = m := by unfold clampW; split <;> (try split) <;> omega
  have h := be_put x m w hx (by unfold In64; omega)
  rw [hc] at h
  exact h

theorem rput_in (m : Nat) (x y : Int) (w : World) (hx : In64 x) (hy : y = m) (hm : m ≤ 8) : Calls Try.prog 60 #[.int .i64 x, .int .i64 y] w fun e w' => ∃ g, e = .returned (.slice (some ⟨g, 0, none⟩) m m) ∧ w.heap.size ≤ g ∧ Row w' g m (U8 (byteOf x m)) ∧ Since w w' := by
  subst hy
  have hc : clampW m = m := by unfold clampW; split <;> (try split) <;> omega
  have h := ref_put x m w hx (by unfold In64; omega)
  rw [hc] at h
  exact h


theorem rlay_in (A B : Option Addr) (n c m d : Nat) (f o : Nat → Int) (p : Nat) (x : Int) (w : World) (h : Rd w w.heap.size A n (U8 f)) (hB : Rd w w.heap.size B m (U8 o)) (hx : x = p) (hn : n ≤ 140737488355328) (hf : p + m ≤ n) :
    Calls Try.prog 59 #[.slice A n c, .int .i64 x, .slice B m d] w fun e w' => ∃ A' cap, e = .returned (.tuple #[.slice A' n cap, .int .i64 0]) ∧ n ≤ cap ∧ Nw w' w.heap.size A' n (U8 (layF f o m p)) ∧ Since w w' := by
  subst hx
  refine (ref_lay A B n c m d f o p w h hB (by unfold In64; omega) hn (by omega)).mono ?_
  rintro e w' ⟨A', l, cap, rfl, hl, hc, hN, hS⟩
  obtain ⟨e1, e2⟩ := lay_yes (n := n) (m := m) (i := p) (by unfold Fits; omega)
  rw [e2] at hl
  subst hl
  exact ⟨A', cap, by rw [e1], hc, hN, hS⟩

theorem Nw.low {w : World} {B B' n : Nat} {A : Option Addr} {V : Nat → Value} (h : Nw w B A n V) (hB : B' ≤ B) : Nw w B' A n V := fun hn => by
  obtain ⟨g, rfl, hb, hr⟩ := h hn
  exact ⟨g, rfl, Nat.le_trans hB hb, hr⟩
theorem byte_range (n : Int) (m j : Nat) : 0 ≤ byteOf n m j ∧ byteOf n m j ≤ 255 := by
  unfold byteOf
  have h1 := Int.emod_nonneg (n / 2 ^ (8 * (m - 1 - j))) (show (256 : Int) ≠ 0 by decide)
  have h2 := Int.emod_lt_of_pos (n / 2 ^ (8 * (m - 1 - j))) (show (0 : Int) < 256 by decide)
  omega
/-- A number of two bytes laid at a place. -/
def lay2 (f : Nat → Int) (p : Nat) (x : Int) (j : Nat) : Int := if p ≤ j ∧ j < p + 2 then byteOf x 2 (j - p) else f j
theorem lay2_is (f : Nat → Int) (p : Nat) (x : Int) : layF f (byteOf x 2) 2 p = lay2 f p x := by
  funext j
  unfold layF lay2
  simp only [Int.toNat_natCast]
theorem lay2_comm (f : Nat → Int) (p q : Nat) (x y : Int) (h : p + 2 ≤ q ∨ q + 2 ≤ p) : lay2 (lay2 f p x) q y = lay2 (lay2 f q y) p x := by
  funext j
  unfold lay2
  by_cases h1 : q ≤ j ∧ j < q + 2
  · rw [if_pos h1, if_neg (by omega), if_pos h1]
  · rw [if_neg h1]
    by_cases h2 : p ≤ j ∧ j < p + 2
    · rw [if_pos h2, if_pos h2]
    · rw [if_neg h2, if_neg h2, if_neg h1]
theorem lay2_range {f : Nat → Int} {n p : Nat} {x : Int} (h : ∀ j, j < n → 0 ≤ f j ∧ f j ≤ 255) : ∀ j, j < n → 0 ≤ lay2 f p x j ∧ lay2 f p x j ≤ 255 := fun j hj => by
  unfold lay2
  split
  · exact byte_range _ _ _
  · exact h j hj
theorem num_lay2 (f : Nat → Int) (p : Nat) (x : Int) : numAt (lay2 f p x) p 2 = x % 65536 := by
  have e0 : lay2 f p x p = byteOf x 2 0 := by unfold lay2; rw [if_pos (by omega), Nat.sub_self]
  have e1 : lay2 f p x (p + 1) = byteOf x 2 1 := by unfold lay2; rw [if_pos (by omega), show p + 1 - p = 1 by omega]
  simp only [numAt, Nat.add_zero, e0, e1, byteOf, Nat.reduceSub, Nat.reduceMul, Int.reducePow]
  omega
theorem num_far (f : Nat → Int) (p q k : Nat) (x : Int) (h : p + 2 ≤ q ∨ q + k ≤ p) : numAt (lay2 f p x) q k = numAt f q k := by
  induction k with
  | zero => rfl
  | succ k ih =>
    simp only [numAt]
    rw [ih (by omega)]
    congr 1
    unfold lay2
    rw [if_neg (by omega)]
theorem sgn_mod {x : Int} (h : -32768 ≤ x ∧ x ≤ 32767) : sgn 2 (x % 65536) = x := by
  unfold sgn
  simp only [Int.reducePow]
  split <;> omega
theorem num_four (f : Nat → Int) (p : Nat) : numAt f p 4 = 65536 * numAt f p 2 + numAt f (p + 2) 2 := by
  simp only [numAt, Nat.add_zero]
  rw [show p + 2 + 1 = p + 3 by omega]
  omega
end Go.Proofs.Ytpplnapfpoloiaa

/-
  Layer 2: 'Put', walked again: the block that it answers, whole.
-/
namespace Go.Proofs.Ytpplnapfpoloiaa
open Go.RowKit
set_option linter.unusedVariables false
theorem All.set {w : World} {g n i : Nat} {e : TypeId} {V : Nat → Value} (h : All w g e n V) (hi : i < n) (v : Value) : All (w.setCell ⟨g, i, none⟩ v) g e n (fun j => if j = i then v else V j) := by
  unfold All at h ⊢
  have hl : i < (tab n V).length := by rw [tab_len]; exact hi
  have e1 : ((tab n V).toArray.set! i v) = (tab n (fun j => if j = i then v else V j)).toArray := by
    apply Array.ext'
    rw [Array.set!_eq_setIfInBounds, Array.toList_setIfInBounds]
    apply List.ext_getElem?
    intro j
    rw [List.getElem?_set, tab_get, tab_get, tab_len]
    by_cases hj : i = j
    · subst hj; rw [if_pos rfl, if_pos hi, if_pos hi, if_pos rfl]
    · rw [if_neg hj, show (if j = i then v else V j) = V j from if_neg (fun x => hj x.symm)]
  rw [← e1]
  simp [World.setCell, Array.getElem?_modify, h]
set_option maxRecDepth 100000 in
set_option maxHeartbeats 4000000 in
theorem be_putA (n k : Int) (w : World) (hn : In64 n) (hk : In64 k) :
    Calls Try.prog 48 #[.int .i64 n, .int .i64 k] w fun e w' => ∃ g, e = .returned (.slice (some ⟨g, 0, none⟩) (clampW k) (clampW k)) ∧ w.heap.size ≤ g ∧ All w' g 5 (clampW k) (U8 (byteOf n (clampW k))) ∧ Since w w' := by
  obtain ⟨i0, hi0, hz0, hz1, hz2⟩ := info_parts Try.info_u8
  by_cases h1 : 0 ≤ k ∧ k ≤ 8
  · obtain ⟨m, rfl⟩ : ∃ m : Nat, k = m := ⟨k.toNat, by omega⟩
    obtain ⟨h1, h2⟩ := h1
    have hm : m ≤ 8 := by omega
    have hc : clampW m = m := by unfold clampW; rw [if_neg (by omega), if_neg (by omega)]; rfl
    rw [hc]
    have b1 : 1 * m ≤ 281474976710656 := by omega
    have b2 : m ≤ maxLen := by simp only [maxLen]; omega
    clear hc
    go_enter Try.func48, Try.ntmps48
    go_wp2_with (at_make; refine wpList_make_tab _ (by rfl) (.tmp 10) (.tmp 10) _ (by rfl) 5 i0 .u8 1 Try.underlying26 hi0 hz0 hz1 hz2 .i64 .i64 m (by rfl) (by rfl) b1 b2 ?_; intro w1 hown1 hS1)
    have hrow := All.of_own hown1
    clear hown1
    go_loopw [13] (fun y wr => ∃ j : Nat, j ≤ m ∧ y = .int .i64 j ∧ Since w wr ∧ All wr w.heap.size 5 m (U8 (fun q => if m ≤ q + j then byteOf n m q else 0))) (fun y _ => m - (intOf y).toNat)
    case atStart => exact ⟨0, by omega, rfl, hS1, hrow.congr (fun q hq => by simp only [U8, IntRow]; rw [if_neg (by omega)])⟩
    case round =>
      obtain ⟨j, hj, rfl, hSr, hR⟩ := hrel
      by_cases hjm : j < m
      · obtain ⟨q, hq⟩ : ∃ q : Nat, q + 1 + j = m := ⟨m - 1 - j, by omega⟩
        have hqi : (m : Int) - 1 - (j : Int) = (q : Int) := by omega
        have hqi' : (m : Int) - 1 = (q : Int) + j := by omega
        have hjm' : (j : Int) < m := by omega
        have hqm : (q : Int) < m := by omega
        have hcell := hR.row.1 q (by omega)
        have hfr := hR.row.2.1 q
        go_wp2
        refine ⟨⟨j + 1, by omega, by simp, hSr.setCell (Nat.le_refl _) _, (hR.set (i := q) (by omega) _).congr (fun t ht => ?_)⟩, by simp [intOf]; omega⟩
        by_cases hqt : t = q
        · subst hqt
          simp only [U8, IntRow]
          rw [if_pos trivial, if_pos (by omega), byteOf, show m - 1 - t = j by omega]
        · simp only [U8, IntRow]
          rw [if_neg hqt]
          by_cases ht2 : m ≤ t + j
          · rw [if_pos ht2, if_pos (by omega)]
          · rw [if_neg ht2, if_neg (by omega)]
      · obtain rfl : m = j := by omega
        have hR' := hR.congr (U := U8 (byteOf n m)) (fun q hq => by simp only [U8, IntRow]; rw [if_pos (by omega)])
        clear hR
        go_wp2
        go_ret
        exact ⟨_, rfl, Nat.le_refl _, hR', hSr⟩
  by_cases h2 : k < 0
  · have hc : clampW k = 0 := by unfold clampW; rw [if_pos (by omega)]
    rw [hc]
    have b1 : 1 * 0 ≤ 281474976710656 := by omega
    have b2 : 0 ≤ maxLen := by simp only [maxLen]; omega
    clear hc
    go_enter Try.func48, Try.ntmps48
    go_wp2_with (at_make; refine wpList_make_tab _ (by rfl) (.tmp 10) (.tmp 10) _ (by rfl) 5 i0 .u8 1 Try.underlying26 hi0 hz0 hz1 hz2 .i64 .i64 0 (by rfl) (by rfl) b1 b2 ?_; intro w1 hown1 hS1)
    have hrow := All.of_own hown1
    clear hown1
    go_loopw [13] (fun y wr => ∃ j : Nat, j ≤ 0 ∧ y = .int .i64 j ∧ Since w wr ∧ All wr w.heap.size 5 0 (U8 (fun q => if 0 ≤ q + j then byteOf n 0 q else 0))) (fun y _ => 0 - (intOf y).toNat)
    case atStart => exact ⟨0, by omega, rfl, hS1, hrow.congr (fun q hq => by simp only [U8, IntRow]; rw [if_neg (by omega)])⟩
    case round =>
      obtain ⟨j, hj, rfl, hSr, hR⟩ := hrel
      by_cases hjm : j < 0
      · exact absurd hjm (by omega)
      · obtain rfl : 0 = j := by omega
        have hR' := hR.congr (U := U8 (byteOf n 0)) (fun q hq => by simp only [U8, IntRow]; rw [if_pos (by omega)])
        clear hR
        go_wp2
        go_ret
        exact ⟨_, rfl, Nat.le_refl _, hR', hSr⟩
  · have h2' : 8 < k := by omega
    have hc : clampW k = 8 := by unfold clampW; rw [if_neg (by omega), if_pos (by omega)]
    rw [hc]
    have b1 : 1 * 8 ≤ 281474976710656 := by omega
    have b2 : 8 ≤ maxLen := by simp only [maxLen]; omega
    clear hc
    go_enter Try.func48, Try.ntmps48
    go_wp2_with (at_make; refine wpList_make_tab _ (by rfl) (.tmp 10) (.tmp 10) _ (by rfl) 5 i0 .u8 1 Try.underlying26 hi0 hz0 hz1 hz2 .i64 .i64 8 (by rfl) (by rfl) b1 b2 ?_; intro w1 hown1 hS1)
    have hrow := All.of_own hown1
    clear hown1
    go_loopw [13] (fun y wr => ∃ j : Nat, j ≤ 8 ∧ y = .int .i64 j ∧ Since w wr ∧ All wr w.heap.size 5 8 (U8 (fun q => if 8 ≤ q + j then byteOf n 8 q else 0))) (fun y _ => 8 - (intOf y).toNat)
    case atStart => exact ⟨0, by omega, rfl, hS1, hrow.congr (fun q hq => by simp only [U8, IntRow]; rw [if_neg (by omega)])⟩
    case round =>
      obtain ⟨j, hj, rfl, hSr, hR⟩ := hrel
      by_cases hjm : j < 8
      · obtain ⟨q, hq⟩ : ∃ q : Nat, q + 1 + j = 8 := ⟨8 - 1 - j, by omega⟩
        have hqi : (8 : Int) - 1 - (j : Int) = (q : Int) := by omega
        have hqi' : (8 : Int) - 1 = (q : Int) + j := by omega
        have hjm' : (j : Int) < 8 := by omega
        have hqm : (q : Int) < 8 := by omega
        have hcell := hR.row.1 q (by omega)
        have hfr := hR.row.2.1 q
        go_wp2
        refine ⟨⟨j + 1, by omega, by simp, hSr.setCell (Nat.le_refl _) _, (hR.set (i := q) (by omega) _).congr (fun t ht => ?_)⟩, by simp [intOf]; omega⟩
        by_cases hqt : t = q
        · subst hqt
          simp only [U8, IntRow]
          rw [if_pos trivial, if_pos (by omega), byteOf, show 8 - 1 - t = j by omega]
        · simp only [U8, IntRow]
          rw [if_neg hqt]
          by_cases ht2 : 8 ≤ t + j
          · rw [if_pos ht2, if_pos (by omega)]
          · rw [if_neg ht2, if_neg (by omega)]
      · obtain rfl : 8 = j := by omega
        have hR' := hR.congr (U := U8 (byteOf n 8)) (fun q hq => by simp only [U8, IntRow]; rw [if_pos (by omega)])
        clear hR
        go_wp2
        go_ret
        exact ⟨_, rfl, Nat.le_refl _, hR', hSr⟩
end Go.Proofs.Ytpplnapfpoloiaa

/-
  Layer 2: 'Put', walked again: the block that it answers, whole.
-/
namespace Go.Proofs.Ytpplnapfpoloiaa
open Go.RowKit
set_option linter.unusedVariables false
set_option maxRecDepth 100000 in
set_option maxHeartbeats 4000000 in
theorem ref_putA (n k : Int) (w : World) (hn : In64 n) (hk : In64 k) :
    Calls Try.prog 60 #[.int .i64 n, .int .i64 k] w fun e w' => ∃ g, e = .returned (.slice (some ⟨g, 0, none⟩) (clampW k) (clampW k)) ∧ w.heap.size ≤ g ∧ All w' g 5 (clampW k) (U8 (byteOf n (clampW k))) ∧ Since w w' := by
  obtain ⟨i0, hi0, hz0, hz1, hz2⟩ := info_parts Try.info_u8
  by_cases h1 : 1 ≤ k ∧ k ≤ 8
  · obtain ⟨m, rfl⟩ : ∃ m : Nat, k = m := ⟨k.toNat, by omega⟩
    obtain ⟨h1, h2⟩ := h1
    have hm : m ≤ 8 := by omega
    have hm0 : 0 < m := by omega
    have hc : clampW m = m := by unfold clampW; rw [if_neg (by omega), if_neg (by omega)]; rfl
    rw [hc]
    have b1 : 1 * m ≤ 281474976710656 := by omega
    have b2 : m ≤ maxLen := by simp only [maxLen]; omega
    clear hc
    go_enter Try.func60, Try.ntmps60
    go_wp2_with (at_make; refine wpList_make_tab _ (by rfl) (.tmp 12) (.tmp 12) _ (by rfl) 5 i0 .u8 1 Try.underlying26 hi0 hz0 hz1 hz2 .i64 .i64 m (by rfl) (by rfl) b1 b2 ?_; intro w1 hown1 hS1)
    have hrow := All.of_own hown1
    clear hown1
    go_loopw [7, 8] (fun x y wr => ∃ j : Nat, j ≤ m ∧ x = .int .u64 (at256 n j) ∧ y = .int .i64 ((m : Nat) - 1 - (j : Int)) ∧ Since w wr ∧ All wr w.heap.size 5 m (U8 (fun q => if m ≤ q + j then byteOf n m q else 0))) (fun _ y _ => (intOf y + 1).toNat)
    case atStart => exact ⟨0, by omega, by simp [at256, low64, IntKind.wrap_u64], by simp, hS1, hrow.congr (fun q hq => by simp only [U8, IntRow]; rw [if_neg (by omega)])⟩
    case round =>
      obtain ⟨j, hj, rfl, rfl, hSr, hR⟩ := hrel
      by_cases hjm : j < m
      · obtain ⟨q, hq⟩ : ∃ q : Nat, q + 1 + j = m := ⟨m - 1 - j, by omega⟩
        have hqi : ((m : Nat) : Int) - 1 - (j : Int) = (q : Int) := by omega
        have hqm : (q : Int) < m := by omega
        have hcell := hR.row.1 q (by omega)
        have hfr := hR.row.2.1 q
        have hx := at256_bd n j
        have hnx := at256_next n j
        have hby := at256_byte n hjm (by omega)
        rw [show m - 1 - j = q by omega] at hby
        rw [hqi]
        go_wp2
        rw [hnx]
        refine ⟨⟨j + 1, by omega, rfl, by congr 1 <;> omega, hSr.setCell (Nat.le_refl _) _, (hR.set (i := q) (by omega) _).congr (fun t ht => ?_)⟩, by simp [intOf] <;> omega⟩
        by_cases hqt : t = q
        · subst hqt
          simp only [U8, IntRow]
          rw [if_pos trivial, if_pos (by omega)]
        · simp only [U8, IntRow]
          rw [if_neg hqt]
          by_cases ht2 : m ≤ t + j
          · rw [if_pos ht2, if_pos (by omega)]
          · rw [if_neg ht2, if_neg (by omega)]
      · obtain rfl : m = j := by omega
        have hR' := hR.congr (U := U8 (byteOf n m)) (fun q hq => by simp only [U8, IntRow]; rw [if_pos (by omega)])
        clear hR
        go_wp2
        go_ret
        exact ⟨_, rfl, Nat.le_refl _, hR', hSr⟩
  by_cases h2 : k ≤ 0
  · have hc : clampW k = 0 := by unfold clampW; split <;> (try split) <;> omega
    rw [hc]
    have b1 : 1 * 0 ≤ 281474976710656 := by omega
    have b2 : 0 ≤ maxLen := by simp only [maxLen]; omega
    clear hc
    go_enter Try.func60, Try.ntmps60
    go_wp2_with (at_make; refine wpList_make_tab _ (by rfl) (.tmp 12) (.tmp 12) _ (by rfl) 5 i0 .u8 1 Try.underlying26 hi0 hz0 hz1 hz2 .i64 .i64 0 (by rfl) (by rfl) b1 b2 ?_; intro w1 hown1 hS1)
    have hrow := All.of_own hown1
    clear hown1
    go_loopw [7, 8] (fun x y wr => ∃ j : Nat, j ≤ 0 ∧ x = .int .u64 (at256 n j) ∧ y = .int .i64 ((0 : Nat) - 1 - (j : Int)) ∧ Since w wr ∧ All wr w.heap.size 5 0 (U8 (fun q => if 0 ≤ q + j then byteOf n 0 q else 0))) (fun _ y _ => (intOf y + 1).toNat)
    case atStart => exact ⟨0, by omega, by simp [at256, low64, IntKind.wrap_u64], by simp, hS1, hrow.congr (fun q hq => by simp only [U8, IntRow]; rw [if_neg (by omega)])⟩
    case round =>
      obtain ⟨j, hj, rfl, rfl, hSr, hR⟩ := hrel
      by_cases hjm : j < 0
      · exact absurd hjm (by omega)
      · obtain rfl : 0 = j := by omega
        have hR' := hR.congr (U := U8 (byteOf n 0)) (fun q hq => by simp only [U8, IntRow]; rw [if_pos (by omega)])
        clear hR
        go_wp2
        go_ret
        exact ⟨_, rfl, Nat.le_refl _, hR', hSr⟩
  · have h2' : 8 < k := by omega
    have hc : clampW k = 8 := by unfold clampW; rw [if_neg (by omega), if_pos (by omega)]
    rw [hc]
    have b1 : 1 * 8 ≤ 281474976710656 := by omega
    have b2 : 8 ≤ maxLen := by simp only [maxLen]; omega
    clear hc
    go_enter Try.func60, Try.ntmps60
    go_wp2_with (at_make; refine wpList_make_tab _ (by rfl) (.tmp 12) (.tmp 12) _ (by rfl) 5 i0 .u8 1 Try.underlying26 hi0 hz0 hz1 hz2 .i64 .i64 8 (by rfl) (by rfl) b1 b2 ?_; intro w1 hown1 hS1)
    have hrow := All.of_own hown1
    clear hown1
    go_loopw [7, 8] (fun x y wr => ∃ j : Nat, j ≤ 8 ∧ x = .int .u64 (at256 n j) ∧ y = .int .i64 ((8 : Nat) - 1 - (j : Int)) ∧ Since w wr ∧ All wr w.heap.size 5 8 (U8 (fun q => if 8 ≤ q + j then byteOf n 8 q else 0))) (fun _ y _ => (intOf y + 1).toNat)
    case atStart => exact ⟨0, by omega, by simp [at256, low64, IntKind.wrap_u64], by simp, hS1, hrow.congr (fun q hq => by simp only [U8, IntRow]; rw [if_neg (by omega)])⟩
    case round =>
      obtain ⟨j, hj, rfl, rfl, hSr, hR⟩ := hrel
      by_cases hjm : j < 8
      · obtain ⟨q, hq⟩ : ∃ q : Nat, q + 1 + j = 8 := ⟨8 - 1 - j, by omega⟩
        have hqi : ((8 : Nat) : Int) - 1 - (j : Int) = (q : Int) := by omega
        have hqm : (q : Int) < 8 := by omega
        have hcell := hR.row.1 q (by omega)
        have hfr := hR.row.2.1 q
        have hx := at256_bd n j
        have hnx := at256_next n j
        have hby := at256_byte n hjm (by omega)
        rw [show 8 - 1 - j = q by omega] at hby
        rw [hqi]
        go_wp2
        rw [hnx]
        refine ⟨⟨j + 1, by omega, rfl, by congr 1 <;> omega, hSr.setCell (Nat.le_refl _) _, (hR.set (i := q) (by omega) _).congr (fun t ht => ?_)⟩, by simp [intOf] <;> omega⟩
        by_cases hqt : t = q
        · subst hqt
          simp only [U8, IntRow]
          rw [if_pos trivial, if_pos (by omega)]
        · simp only [U8, IntRow]
          rw [if_neg hqt]
          by_cases ht2 : 8 ≤ t + j
          · rw [if_pos ht2, if_pos (by omega)]
          · rw [if_neg ht2, if_neg (by omega)]
      · obtain rfl : 8 = j := by omega
        have hR' := hR.congr (U := U8 (byteOf n 8)) (fun q hq => by simp only [U8, IntRow]; rw [if_pos (by omega)])
        clear hR
        go_wp2
        go_ret
        exact ⟨_, rfl, Nat.le_refl _, hR', hSr⟩
end Go.Proofs.Ytpplnapfpoloiaa

/-
  Layer 2: 'Cut', walked, program and reference.
-/
namespace Go.Proofs.Ytpplnapfpoloiaa
open Go.RowKit
set_option linter.unusedVariables false

def cutE (n : Nat) (i k : Int) : Int := if 0 ≤ k ∧ Fits n i k then 0 else 3
def cutN (n : Nat) (i k : Int) : Nat := if 0 ≤ k ∧ Fits n i k then k.toNat else 0
theorem cut_no {n : Nat} {i k : Int} (h : ¬ (0 ≤ k ∧ Fits n i k)) : cutE n i k = 3 ∧ cutN n i k = 0 := by simp [cutE, cutN, h]
theorem cut_yes {n : Nat} {i k : Int} (h : 0 ≤ k ∧ Fits n i k) : cutE n i k = 0 ∧ cutN n i k = k.toNat := by simp [cutE, cutN, h]
/-- What a cut leaves. -/
def CutPost (f : Nat → Int) (n : Nat) (i k : Int) (w : World) (e : Ending) (w' : World) : Prop := ∃ A' m cap, e = .returned (.tuple #[.slice A' m cap, .int .i64 (cutE n i k)]) ∧ m = cutN n i k ∧ m ≤ cap ∧ Nw w' w.heap.size A' m (U8 (fun j => f (i.toNat + j))) ∧ Since w w'

set_option maxRecDepth 100000 in
set_option maxHeartbeats 4000000 in
theorem be_cut (A : Option Addr) (n c : Nat) (f : Nat → Int) (i k : Int) (w : World) (h : Rd w w.heap.size A n (U8 f)) (hi : In64 i) (hk : In64 k) (hn : n ≤ 140737488355328) (hnc : n ≤ c) :
    Calls Try.prog 74 #[.slice A n c, .int .i64 i, .int .i64 k] w (CutPost f n i k w) := by
  obtain ⟨i0, hi0, hz0, hz1, hz2⟩ := info_parts Try.info_u8
  by_cases h0 : k < 0
  · have d1 : decide (k < 0) = true := by simpa using h0
    obtain ⟨e1, e2⟩ := cut_no (n := n) (i := i) (k := k) (by omega)
    have E1 := Lib.hid e1; have E2 := Lib.hid e2; clear e1 e2 h h0
    go_enter Try.func74, Try.ntmps74
    go_wp2
    go_ret2
    exact ⟨none, 0, 0, by rw [E1.out]; rfl, E2.out.symm, Nat.le_refl _, Nw.zero, Since.refl _⟩
  have d0 : decide (k < 0) = false := by simpa using h0
  by_cases h3 : Fits n i k
  · have d3 : decide (Fits n i k) = true := by simpa using h3
    obtain ⟨p, rfl⟩ : ∃ p : Nat, i = p := ⟨i.toNat, by have := h3.1; omega⟩
    obtain ⟨m, rfl⟩ : ∃ m : Nat, k = m := ⟨k.toNat, by omega⟩
    have h4 : p + m ≤ n := by have := h3.2.2; omega
    obtain ⟨e1, e2⟩ := cut_yes (n := n) (i := p) (k := m) ⟨by omega, h3⟩
    have E1 := Lib.hid e1; have E2 := Lib.hid e2; clear e1 e2 h0
    have hp : (p : Int) ≤ n := by omega
    have hmn : (m : Int) ≤ n := by omega
    have b1 : 1 * m ≤ 281474976710656 := by omega
    have b2 : m ≤ maxLen := by simp only [maxLen]; omega
    have hD := h.drop (k := p) (cap := c) (m := n - p) (by omega) hnc
    have hmin : m = Nat.min (n - p) m := (Nat.min_eq_right (by omega)).symm
    have HM := Lib.hid hmin; clear hmin
    clear h3 h
    go_enter Try.func74, Try.ntmps74
    go_wp2_with (first | (go_at_call 96; refine (be_holds _ n c p m w hi hk hn).mono ?_; rintro e w2 ⟨rfl, rfl⟩) | (at_make; refine wpList_make_tab _ (by rfl) _ _ _ (by rfl) 5 i0 .u8 1 Try.underlying26 hi0 hz0 hz1 hz2 .i64 .i64 m (by rfl) (by rfl) b1 b2 ?_; intro w1 hown1 hS1; have hall1 := All.of_own hown1; have hA1 := hD.since (Nat.le_refl _) hS1; clear hown1) | (refine wpList_copy_all (by rfl) _ _ _ _ (by rfl) 5 Try.underlying26 Try.size_u8' _ _ m m _ _ (by rfl) (by rfl) w2.heap.size 0 m m 5 _ _ hall1 w2.heap.size hA1 HM.out (fun _ => rfl) (by omega) tab_ones w2 hS1 (Nat.le_refl _) ?_; intro w3 hall3 hS3; clear hall1 hA1 hS1))
    all_goals
      go_ret2
      refine ⟨_, m, m, by rw [E1.out]; rfl, E2.out.symm, Nat.le_refl _, fun _ => ⟨_, rfl, Nat.le_refl _, (hall3.congr (fun j hj => ?_)).row⟩, hS3⟩
      simp only [U8, IntRow, Nat.zero_le, true_and, Nat.zero_add, Nat.sub_zero, if_pos hj]
      rfl
  · have d3 : decide (Fits n i k) = false := by simpa using h3
    obtain ⟨e1, e2⟩ := cut_no (n := n) (i := i) (k := k) (by simp [h3])
    have E1 := Lib.hid e1; have E2 := Lib.hid e2; clear e1 e2 h h0 h3
    go_enter Try.func74, Try.ntmps74
    go_wp2_with (go_at_call 96; refine (be_holds _ n c i k w hi hk hn).mono ?_; rintro e w2 ⟨rfl, rfl⟩)
    go_ret2
    exact ⟨none, 0, 0, by rw [E1.out]; rfl, E2.out.symm, Nat.le_refl _, Nw.zero, Since.refl _⟩

end Go.Proofs.Ytpplnapfpoloiaa
