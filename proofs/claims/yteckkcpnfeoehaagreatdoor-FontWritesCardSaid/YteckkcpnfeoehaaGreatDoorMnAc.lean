/-
  Texts of this seat, put together: each with its own head.
-/
import Derived.Test.YteckkcpnfeoehaaGreatDoorMnAa
import Derived.Deep.QuietTactic
import Derived.BigQuiet

/-
  Layer 2: 'Copy' and 'Same', walked.
-/
namespace Go.Proofs.YteckkcpnfeoehaaGreatDoor
set_option maxRecDepth 100000
open Go.RowKit
set_option linter.unusedVariables false

theorem Tryz.info_u8 : (Tryz.prog.info? 5).map (fun i => (i.zero, i.size, i.bytes)) = some (some (.int .u8 0), 1, 1) := by kernel_rfl
def U8 (f : Nat → Int) : Nat → Value := IntRow .u8 f
/-- A row of the call's own, of bytes. -/
def Own (w : World) (B g cap n : Nat) (f : Nat → Int) : Prop := w.ownsRow B 5 1 (.slice (some ⟨g, 0, none⟩) n cap) n (tab n (U8 f))
theorem Own.row {w : World} {B g cap n : Nat} {f : Nat → Int} (h : Own w B g cap n f) : Row w g n (U8 f) := row_of_own h
theorem Own.base {w : World} {B g cap n : Nat} {f : Nat → Int} (h : Own w B g cap n f) : B ≤ g := own_base h

set_option maxHeartbeats 4000000 in
theorem ref_copy (A : Option Addr) (n c : Nat) (f : Nat → Int) (w : World) (h : Rd w w.heap.size A n (U8 f)) (hn : n ≤ 140737488355328) :
    Calls Tryz.prog 24 #[.slice A n c] w fun e w' => ∃ g cap, e = .returned (.slice (some ⟨g, 0, none⟩) n cap) ∧ Own w' w.heap.size g cap n f ∧ Since w w' := by
  obtain ⟨i0, hi0, hz0, hz1, hz2⟩ := info_parts Tryz.info_u8
  have h0 : (w.alloc (.cells #[] 5)).ownsRow w.heap.size 5 1 (.slice (some ⟨w.heap.size, 0, none⟩) 0 0) 0 [] :=
    ⟨rfl, .inr ⟨_, 0, #[], rfl, Nat.le_refl _, heap_alloc_new w _, Nat.le_refl _, by simp [maxLen], rfl, rfl⟩⟩
  have q1 : Rd (w.alloc (.cells #[] 5)) w.heap.size A n (U8 f) := h.alloc (Nat.le_refl _) _
  have q2 : ∀ u ∈ tab n (U8 f), u.oneCell' = true := tab_ones
  have q3 : (0 + n) * 1 ≤ 140737488355328 := by omega
  have q4 : 0 + n ≤ maxLen := by simp only [maxLen]; omega
  have q5 : w.heap.size ≤ (w.alloc (.cells #[] 5)).heap.size := by simp
  go_enter Tryz.func24, Tryz.ntmps24
  go_wp2_with (at_builtin; refine wpList_append_rd _ (by rfl) (.tmp 3) (.tmp 4) _ (by rfl) w.heap.size 5 i0 _ 1 Tryz.underlying34 hi0 hz0 hz1 hz2 (by rfl) w.heap.size 0 0 [] (by rfl) h0 w.heap.size A n c (U8 f) (by rfl) q1 q2 q3 q4 q5 ?_; intro g' cap' w1 hown1 hg1 hat1; clear h q1 q2 q3 q4 q5 h0)
  go_ret
  simp only [Nat.zero_add, List.nil_append] at hown1
  exact ⟨g', cap', rfl, hown1, since_grown ((Since.refl w).alloc _) hg1 (fun k hk => by injection hk with hk; omega)⟩

def bytesOf (n : Nat) (f : Nat → Int) : List Int := (List.range n).map f
theorem Rd.conv {w : World} {B n : Nat} {A : Option Addr} {f : Nat → Int} (h : Rd w B A n (U8 f)) (c : Nat) :
    (convert 34 9 (.slice A n c)).run Tryz.prog w = .ok (.string (strOfNums (bytesOf n f))) w := by
  rcases Nat.eq_zero_or_pos n with h0 | h0
  · subst h0
    rcases A with _ | ad
    · exact run_convert_bytes_nil w _ _ Tryz.underlying34 Tryz.underlying5 0 c _ Tryz.underlying9
    · rw [run_convert_bytes_string w _ _ _ _ _ _ Tryz.underlying34 Tryz.underlying5 Tryz.underlying9]
      simp [Conv.bytesToString, loadCells, loadCellsFrom, bytesOf, strOfNums, Sem.run_pure]
      rfl
  · obtain ⟨b, o, rfl, _, hc⟩ := h h0
    refine run_convert_bytes_arg w _ _ Tryz.underlying34 Tryz.underlying5 b o n c (bytesOf n f) (by simp [bytesOf]) (fun i hi => ?_) _ Tryz.underlying9
    rw [hc i hi]
    simp [bytesOf, hi, U8, IntRow]
theorem bytesOf_congr {n : Nat} {f g : Nat → Int} (h : ∀ j, j < n → f j = g j) : bytesOf n f = bytesOf n g := by
  unfold bytesOf
  exact List.map_congr_left fun j hj => h j (by simpa using hj)
set_option maxHeartbeats 4000000 in
/-- 'Same' of the same bytes. -/
theorem ref_same (A B : Option Addr) (n c d : Nat) (f g : Nat → Int) (w : World) (h1 : Rd w w.heap.size A n (U8 f)) (h2 : Rd w w.heap.size B n (U8 g)) (hfg : ∀ j, j < n → f j = g j) :
    Calls Tryz.prog 15 #[.slice A n c, .slice B n d] w fun e w' => e = .returned (.bool true) ∧ w' = w := by
  have k1 := h1.conv c
  have k2 := h2.conv d
  rw [← bytesOf_congr hfg] at k2
  generalize strOfNums (bytesOf n f) = s at k1 k2
  clear h1 h2 hfg
  go_enter Tryz.func15, Tryz.ntmps15
  go_wp2
  go_ret
  exact ⟨by simp, rfl⟩
end Go.Proofs.YteckkcpnfeoehaaGreatDoor

/-
  Layer 2: 'holds' and 'There', walked.
-/
namespace Go.Proofs.YteckkcpnfeoehaaGreatDoor
set_option maxRecDepth 100000
open Go.RowKit
set_option linter.unusedVariables false

def Fits (n : Nat) (i k : Int) : Prop := 0 ≤ i ∧ i ≤ n ∧ k ≤ n - i
instance (n : Nat) (i k : Int) : Decidable (Fits n i k) := by unfold Fits; infer_instance

set_option maxHeartbeats 4000000 in
theorem be_holds (A : Option Addr) (n c : Nat) (i k : Int) (w : World) (hi : In64 i) (hk : In64 k) (hn : n ≤ 140737488355328) :
    Calls Tryz.prog 122 #[.slice A n c, .int .i64 i, .int .i64 k] w fun e w' => e = .returned (.bool (decide (Fits n i k))) ∧ w' = w := by
  have hn1 : (n : Int) ≤ 140737488355328 := by omega
  by_cases h1 : (0 : Int) ≤ i
  · have d1 : decide ((0 : Int) ≤ i) = true := by simpa using h1
    by_cases h2 : i ≤ (n : Int)
    · have d2 : decide (i ≤ (n : Int)) = true := by simpa using h2
      have hw : IntKind.i64.wrap ((n : Int) - i) = (n : Int) - i := by rw [IntKind.wrap_i64]; unfold In64 at *; omega
      have e : decide (Fits n i k) = decide (k ≤ (n : Int) - i) := by simp [Fits, h1, h2]
      rw [e]; clear e
      go_enter Tryz.func122, Tryz.ntmps122
      go_wp2
      go_ret
      exact ⟨rfl, rfl⟩
    · have d2 : decide (i ≤ (n : Int)) = false := by simpa using h2
      have e : decide (Fits n i k) = false := by simp [Fits, h2]
      rw [e]; clear e
      go_enter Tryz.func122, Tryz.ntmps122
      go_wp2
      go_ret
      exact ⟨rfl, rfl⟩
  · have d1 : decide ((0 : Int) ≤ i) = false := by simpa using h1
    have e : decide (Fits n i k) = false := by simp [Fits, h1]
    rw [e]; clear e
    go_enter Tryz.func122, Tryz.ntmps122
    go_wp2
    go_ret
    exact ⟨rfl, rfl⟩

set_option maxHeartbeats 4000000 in
theorem ref_there (A : Option Addr) (n c : Nat) (i k : Int) (w : World) (hi : In64 i) (hk : In64 k) (hn : n ≤ 140737488355328) :
    Calls Tryz.prog 114 #[.slice A n c, .int .i64 i, .int .i64 k] w fun e w' => e = .returned (.bool (decide (0 ≤ k ∧ Fits n i k))) ∧ w' = w := by
  have hn1 : (n : Int) ≤ 140737488355328 := by omega
  by_cases h1 : (0 : Int) ≤ i
  · have d1 : decide ((0 : Int) ≤ i) = true := by simpa using h1
    by_cases h0 : (0 : Int) ≤ k
    · have d0 : decide ((0 : Int) ≤ k) = true := by simpa using h0
      by_cases h2 : i ≤ (n : Int)
      · have d2 : decide (i ≤ (n : Int)) = true := by simpa using h2
        have hw : IntKind.i64.wrap ((n : Int) - i) = (n : Int) - i := by rw [IntKind.wrap_i64]; unfold In64 at *; omega
        have e : decide (0 ≤ k ∧ Fits n i k) = decide (k ≤ (n : Int) - i) := by simp [Fits, h1, h2, h0]
        rw [e]; clear e
        go_enter Tryz.func114, Tryz.ntmps114
        go_wp2
        go_ret
        exact ⟨rfl, rfl⟩
      · have d2 : decide (i ≤ (n : Int)) = false := by simpa using h2
        have e : decide (0 ≤ k ∧ Fits n i k) = false := by simp [Fits, h2]
        rw [e]; clear e
        go_enter Tryz.func114, Tryz.ntmps114
        go_wp2
        go_ret
        exact ⟨rfl, rfl⟩
    · have d0 : decide ((0 : Int) ≤ k) = false := by simpa using h0
      have e : decide (0 ≤ k ∧ Fits n i k) = false := by simp [h0]
      rw [e]; clear e
      go_enter Tryz.func114, Tryz.ntmps114
      go_wp2
      go_ret
      exact ⟨rfl, rfl⟩
  · have d1 : decide ((0 : Int) ≤ i) = false := by simpa using h1
    have e : decide (0 ≤ k ∧ Fits n i k) = false := by simp [Fits, h1]
    rw [e]; clear e
    go_enter Tryz.func114, Tryz.ntmps114
    go_wp2
    go_ret
    exact ⟨rfl, rfl⟩

/-- The number of k bytes from p on, the highest first. -/
def numAt (f : Nat → Int) (p : Nat) : Nat → Int
  | 0 => 0
  | k + 1 => 256 * numAt f p k + f (p + k)
theorem numAt_range {f : Nat → Int} {p : Nat} : ∀ {k : Nat}, (∀ j, j < p + k → 0 ≤ f j ∧ f j ≤ 255) → 0 ≤ numAt f p k ∧ numAt f p k < 256 ^ k
  | 0, _ => by simp [numAt]
  | k + 1, h => by
    have h1 := numAt_range (f := f) (p := p) (k := k) (fun j hj => h j (by omega))
    have h2 := h (p + k) (by omega)
    simp only [numAt]
    rw [Int.pow_succ]
    omega
theorem numAt_small {f : Nat → Int} {p j : Nat} (hj : j ≤ 4) (h : ∀ i, i < p + j → 0 ≤ f i ∧ f i ≤ 255) : 0 ≤ numAt f p j ∧ numAt f p j < 4294967296 ∧ (j ≤ 3 → numAt f p j < 16777216) := by
  have h1 := numAt_range h
  have hh : j = 0 ∨ j = 1 ∨ j = 2 ∨ j = 3 ∨ j = 4 := by omega
  rcases hh with rfl | rfl | rfl | rfl | rfl <;> (simp only [Int.reducePow] at h1; omega)
theorem or_byte (x y : Int) (h0 : 0 ≤ x) (h1 : x < 72057594037927936 / 2) (k0 : 0 ≤ y) (k1 : y ≤ 255) : bits .or .i64 (x * 256) y = 256 * x + y := by
  obtain ⟨a, rfl⟩ := Int.eq_ofNat_of_zero_le h0
  obtain ⟨b, rfl⟩ := Int.eq_ofNat_of_zero_le k0
  show IntKind.i64.wrap ((BitVec.ofInt 64 ((a : Int) * 256) ||| BitVec.ofInt 64 (b : Int)).toNat : Int) = _
  have e1 : BitVec.ofInt 64 ((a : Int) * 256) = BitVec.ofNat 64 (a * 256) := by
    rw [← BitVec.ofInt_natCast]; congr 1
  rw [e1, BitVec.ofInt_natCast, BitVec.toNat_or, BitVec.toNat_ofNat, BitVec.toNat_ofNat, Nat.mod_eq_of_lt (by omega), Nat.mod_eq_of_lt (by omega)]
  have e2 : a * 256 ||| b = a * 256 + b := by
    have := Nat.shiftLeft_add_eq_or_of_lt (i := 8) (show b < 2 ^ 8 by omega) a
    rw [Nat.shiftLeft_eq] at this
    simp only [Nat.reducePow] at this
    exact this.symm
  rw [e2, IntKind.wrap_i64]
  omega
/-- What 'U' answers. -/
def uAns (f : Nat → Int) (n : Nat) (i k : Int) : Int × Int := if k < 1 ∨ 4 < k then (0, 2) else if Fits n i k then (numAt f i.toNat k.toNat, 0) else (0, 3)

set_option maxHeartbeats 4000000 in
theorem be_u (A : Option Addr) (n c : Nat) (f : Nat → Int) (i k : Int) (w : World) (h : Rd w w.heap.size A n (U8 f)) (hf : ∀ j, j < n → 0 ≤ f j ∧ f j ≤ 255) (hi : In64 i) (hk : In64 k) (hn : n ≤ 140737488355328) :
    Calls Tryz.prog 97 #[.slice A n c, .int .i64 i, .int .i64 k] w fun e w' => e = .returned (.tuple #[.int .i64 (uAns f n i k).1, .int .i64 (uAns f n i k).2]) ∧ w' = w := by
  by_cases h1 : k < 1
  · have d1 : decide (k < 1) = true := by simpa using h1
    simp only [uAns, h1, true_or, if_true]
    clear h h1
    go_enter Tryz.func97, Tryz.ntmps97
    go_wp2
    go_ret2
    exact ⟨rfl, rfl⟩
  have d1 : decide (k < 1) = false := by simpa using h1
  by_cases h2 : 4 < k
  · have d2 : decide (4 < k) = true := by simpa using h2
    simp only [uAns, h2, or_true, if_true]
    clear h h1 h2
    go_enter Tryz.func97, Tryz.ntmps97
    go_wp2
    go_ret2
    exact ⟨rfl, rfl⟩
  have d2 : decide (4 < k) = false := by simpa using h2
  by_cases h3 : Fits n i k
  · have d3 : decide (Fits n i k) = true := by simpa using h3
    obtain ⟨p, rfl⟩ : ∃ p : Nat, i = p := ⟨i.toNat, by have := h3.1; omega⟩
    obtain ⟨m, rfl⟩ : ∃ m : Nat, k = m := ⟨k.toNat, by omega⟩
    have h4 : p + m ≤ n := by have := h3.2.2; omega
    obtain ⟨b, o, rfl, hb, hc⟩ := h (by omega)
    simp only [uAns, h1, h2, or_self, if_false, h3, if_true, Int.toNat_natCast]
    have hm : m ≤ 4 := by omega
    have hm1 : 1 ≤ m := by omega
    clear h h1 h2 h3
    go_enter Tryz.func97, Tryz.ntmps97
    go_wp2_with (go_at_call 122; refine (be_holds _ n c p m w hi hk hn).mono ?_; rintro e w2 ⟨rfl, rfl⟩)
    go_loop [8, 22] (fun x y => ∃ j : Nat, j ≤ m ∧ x = .int .i64 (numAt f p j) ∧ y = .int .i64 j) (fun _ y => m - (intOf y).toNat)
    case atStart => exact ⟨0, by omega, rfl, rfl⟩
    case round =>
      obtain ⟨j, hj, rfl, rfl⟩ := hrel
      by_cases hjm : j < m
      · have hx : w2.cell? ⟨b, o + (p + j), none⟩ = some (.int .u8 (f (p + j))) := hc (p + j) (by omega)
        have hr := numAt_small (f := f) (p := p) (j := j) (by omega) (fun i hi => hf i (by omega))
        have hb8 := hf (p + j) (by omega)
        have hw8 : wrap64 (numAt f p j * 256) = numAt f p j * 256 := by unfold wrap64; omega
        have hjm' : (j : Int) < m := by omega
        clear hc
        have ho := or_byte (numAt f p j) (f (p + j)) (by omega) (by omega) (by omega) (by omega)
        go_wp2
        go_round
        case rel => exact ⟨j + 1, by omega, rfl, by simp⟩
        case measure => simp [intOf]; omega
      · obtain rfl : j = m := by omega
        go_wp2
        go_ret2
        exact ⟨rfl, rfl⟩
  · have d3 : decide (Fits n i k) = false := by simpa using h3
    simp only [uAns, h1, h2, or_self, if_false, h3]
    clear h h1 h2 h3
    go_enter Tryz.func97, Tryz.ntmps97
    go_wp2_with (go_at_call 122; refine (be_holds _ n c i k w hi hk hn).mono ?_; rintro e w2 ⟨rfl, rfl⟩)
    go_ret2
    exact ⟨rfl, rfl⟩

set_option maxHeartbeats 4000000 in
theorem ref_u (A : Option Addr) (n c : Nat) (f : Nat → Int) (i k : Int) (w : World) (h : Rd w w.heap.size A n (U8 f)) (hf : ∀ j, j < n → 0 ≤ f j ∧ f j ≤ 255) (hi : In64 i) (hk : In64 k) (hn : n ≤ 140737488355328) :
    Calls Tryz.prog 112 #[.slice A n c, .int .i64 i, .int .i64 k] w fun e w' => e = .returned (.tuple #[.int .i64 (uAns f n i k).1, .int .i64 (uAns f n i k).2]) ∧ w' = w := by
  by_cases h1 : k < 1
  · have d1 : decide (k < 1) = true := by simpa using h1
    simp only [uAns, h1, true_or, if_true]
    clear h h1
    go_enter Tryz.func112, Tryz.ntmps112
    go_wp2
    go_ret2
    exact ⟨rfl, rfl⟩
  have d1 : decide (k < 1) = false := by simpa using h1
  by_cases h2 : 4 < k
  · have d2 : decide (4 < k) = true := by simpa using h2
    simp only [uAns, h2, or_true, if_true]
    clear h h1 h2
    go_enter Tryz.func112, Tryz.ntmps112
    go_wp2
    go_ret2
    exact ⟨rfl, rfl⟩
  have d2 : decide (4 < k) = false := by simpa using h2
  by_cases h3 : Fits n i k
  · have d3 : decide (0 ≤ k ∧ Fits n i k) = true := by simp [h3]; omega
    obtain ⟨p, rfl⟩ : ∃ p : Nat, i = p := ⟨i.toNat, by have := h3.1; omega⟩
    obtain ⟨m, rfl⟩ : ∃ m : Nat, k = m := ⟨k.toNat, by omega⟩
    have h4 : p + m ≤ n := by have := h3.2.2; omega
    have d4 : decide (Fits n (p : Int) (m : Int)) = true := by simpa using h3
    obtain ⟨b, o, rfl, hb, hc⟩ := h (by omega)
    simp only [uAns, h1, h2, or_self, if_false, h3, if_true, Int.toNat_natCast]
    have hm : m ≤ 4 := by omega
    have hm1 : 1 ≤ m := by omega
    clear h h1 h2 h3
    go_enter Tryz.func112, Tryz.ntmps112
    go_wp2_with (go_at_call 114; refine (ref_there _ n c p m w hi hk hn).mono ?_; rintro e w2 ⟨rfl, rfl⟩)
    go_loop [8, 9] (fun x y => ∃ j : Nat, j ≤ m ∧ x = .int .i64 (numAt f p j) ∧ y = .int .i64 ((p + j : Nat) : Int)) (fun _ y => p + m - (intOf y).toNat)
    case atStart => exact ⟨0, by omega, rfl, rfl⟩
    case round =>
      obtain ⟨j, hj, rfl, rfl⟩ := hrel
      by_cases hjm : j < m
      · have hx : w2.cell? ⟨b, o + (p + j), none⟩ = some (.int .u8 (f (p + j))) := hc (p + j) (by omega)
        have hr := numAt_small (f := f) (p := p) (j := j) (by omega) (fun i hi => hf i (by omega))
        have hb8 := hf (p + j) (by omega)
        clear hc
        have hjm' : ((p + j : Nat) : Int) < p + m := by omega
        have hjn : ((p + j : Nat) : Int) < n := by omega
        go_wp2
        go_round
        case rel => exact ⟨j + 1, by omega, rfl, by simp; omega⟩
        case measure => simp [intOf]; omega
      · obtain rfl : j = m := by omega
        go_wp2
        go_ret2
        exact ⟨rfl, rfl⟩
  · have d3 : decide (0 ≤ k ∧ Fits n i k) = false := by simp [h3]
    simp only [uAns, h1, h2, or_self, if_false, h3]
    clear h h1 h2 h3
    go_enter Tryz.func112, Tryz.ntmps112
    go_wp2_with (go_at_call 114; refine (ref_there _ n c i k w hi hk hn).mono ?_; rintro e w2 ⟨rfl, rfl⟩)
    go_ret2
    exact ⟨rfl, rfl⟩
end Go.Proofs.YteckkcpnfeoehaaGreatDoor

/-
  Layer 2: 'S', walked, program and reference.
-/
namespace Go.Proofs.YteckkcpnfeoehaaGreatDoor
set_option maxRecDepth 100000
open Go.RowKit
set_option linter.unusedVariables false

/-- A number of k bytes, with its sign. -/
def sgn (k : Nat) (x : Int) : Int := if 256 ^ k ≤ 2 * x then x - 256 ^ k else x
/-- What 'S' answers. -/
def sAns (f : Nat → Int) (n : Nat) (i k : Int) : Int × Int := if k < 1 ∨ 4 < k then (0, 2) else if Fits n i k then (sgn k.toNat (numAt f i.toNat k.toNat), 0) else (0, 3)
theorem fits_top {n : Nat} {i k : Int} (h3 : Fits n i k) (h1 : ¬ k < 1) : i.toNat + k.toNat ≤ n := by unfold Fits at h3; omega

set_option maxHeartbeats 4000000 in
theorem be_s (A : Option Addr) (n c : Nat) (f : Nat → Int) (i k : Int) (w : World) (h : Rd w w.heap.size A n (U8 f)) (hf : ∀ j, j < n → 0 ≤ f j ∧ f j ≤ 255) (hi : In64 i) (hk : In64 k) (hn : n ≤ 140737488355328) :
    Calls Tryz.prog 103 #[.slice A n c, .int .i64 i, .int .i64 k] w fun e w' => e = .returned (.tuple #[.int .i64 (sAns f n i k).1, .int .i64 (sAns f n i k).2]) ∧ w' = w := by
  have hu := be_u A n c f i k w h hf hi hk hn
  clear h
  by_cases h1 : k < 1 ∨ 4 < k
  · simp only [uAns, sAns, h1, if_true] at hu ⊢
    clear h1
    go_enter Tryz.func103, Tryz.ntmps103
    go_wp2_with (go_at_call 97; refine hu.mono ?_; rintro e w2 ⟨rfl, rfl⟩)
    go_ret2
    exact ⟨rfl, rfl⟩
  by_cases h3 : Fits n i k
  · simp only [uAns, sAns, h1, if_false, h3, if_true] at hu ⊢
    have hr := numAt_range (f := f) (p := i.toNat) (k := k.toNat) (fun j hj => hf j (by have := fits_top h3 (by omega); omega))
    generalize numAt f i.toNat k.toNat = x at hu hr ⊢
    have hh : k = 1 ∨ k = 2 ∨ k = 3 ∨ k = 4 := by omega
    clear h1 h3 hk hf hi hn
    rcases hh with rfl | rfl | rfl | rfl
    all_goals (simp only [sgn, Int.reduceToNat, Int.reducePow] at hr hu ⊢)
    all_goals (obtain ⟨hr1, hr2⟩ := hr)
    · by_cases hs : 128 ≤ x
      · have hd : decide (x / 128 = 1) = true := by simp; omega
        have hd' : (x / 128 == 1) = true := by simp; omega
        have e1 : wrap64 (x - 256) = x - 256 := by unfold wrap64; omega
        rw [if_pos (by omega)]
        go_enter Tryz.func103, Tryz.ntmps103
        go_wp2_with (go_at_call 97; refine hu.mono ?_; rintro e w2 ⟨rfl, rfl⟩)
        go_ret2
        exact ⟨rfl, rfl⟩
      · have hd : decide (x / 128 = 1) = false := by simp; omega
        have hd' : (x / 128 == 1) = false := by simp; omega
        rw [if_neg (by omega)]
        go_enter Tryz.func103, Tryz.ntmps103
        go_wp2_with (go_at_call 97; refine hu.mono ?_; rintro e w2 ⟨rfl, rfl⟩)
        go_ret2
        exact ⟨rfl, rfl⟩
    · by_cases hs : 32768 ≤ x
      · have hd : decide (x / 32768 = 1) = true := by simp; omega
        have hd' : (x / 32768 == 1) = true := by simp; omega
        have e1 : wrap64 (x - 65536) = x - 65536 := by unfold wrap64; omega
        rw [if_pos (by omega)]
        go_enter Tryz.func103, Tryz.ntmps103
        go_wp2_with (go_at_call 97; refine hu.mono ?_; rintro e w2 ⟨rfl, rfl⟩)
        go_ret2
        exact ⟨rfl, rfl⟩
      · have hd : decide (x / 32768 = 1) = false := by simp; omega
        have hd' : (x / 32768 == 1) = false := by simp; omega
        rw [if_neg (by omega)]
        go_enter Tryz.func103, Tryz.ntmps103
        go_wp2_with (go_at_call 97; refine hu.mono ?_; rintro e w2 ⟨rfl, rfl⟩)
        go_ret2
        exact ⟨rfl, rfl⟩
    · by_cases hs : 8388608 ≤ x
      · have hd : decide (x / 8388608 = 1) = true := by simp; omega
        have hd' : (x / 8388608 == 1) = true := by simp; omega
        have e1 : wrap64 (x - 16777216) = x - 16777216 := by unfold wrap64; omega
        rw [if_pos (by omega)]
        go_enter Tryz.func103, Tryz.ntmps103
        go_wp2_with (go_at_call 97; refine hu.mono ?_; rintro e w2 ⟨rfl, rfl⟩)
        go_ret2
        exact ⟨rfl, rfl⟩
      · have hd : decide (x / 8388608 = 1) = false := by simp; omega
        have hd' : (x / 8388608 == 1) = false := by simp; omega
        rw [if_neg (by omega)]
        go_enter Tryz.func103, Tryz.ntmps103
        go_wp2_with (go_at_call 97; refine hu.mono ?_; rintro e w2 ⟨rfl, rfl⟩)
        go_ret2
        exact ⟨rfl, rfl⟩
    · by_cases hs : 2147483648 ≤ x
      · have hd : decide (x / 2147483648 = 1) = true := by simp; omega
        have hd' : (x / 2147483648 == 1) = true := by simp; omega
        have e1 : wrap64 (x - 4294967296) = x - 4294967296 := by unfold wrap64; omega
        rw [if_pos (by omega)]
        go_enter Tryz.func103, Tryz.ntmps103
        go_wp2_with (go_at_call 97; refine hu.mono ?_; rintro e w2 ⟨rfl, rfl⟩)
        go_ret2
        exact ⟨rfl, rfl⟩
      · have hd : decide (x / 2147483648 = 1) = false := by simp; omega
        have hd' : (x / 2147483648 == 1) = false := by simp; omega
        rw [if_neg (by omega)]
        go_enter Tryz.func103, Tryz.ntmps103
        go_wp2_with (go_at_call 97; refine hu.mono ?_; rintro e w2 ⟨rfl, rfl⟩)
        go_ret2
        exact ⟨rfl, rfl⟩
  · simp only [uAns, sAns, h1, if_false, h3] at hu ⊢
    clear h1 h3
    go_enter Tryz.func103, Tryz.ntmps103
    go_wp2_with (go_at_call 97; refine hu.mono ?_; rintro e w2 ⟨rfl, rfl⟩)
    go_ret2
    exact ⟨rfl, rfl⟩

set_option maxHeartbeats 4000000 in
theorem ref_s (A : Option Addr) (n c : Nat) (f : Nat → Int) (i k : Int) (w : World) (h : Rd w w.heap.size A n (U8 f)) (hf : ∀ j, j < n → 0 ≤ f j ∧ f j ≤ 255) (hi : In64 i) (hk : In64 k) (hn : n ≤ 140737488355328) :
    Calls Tryz.prog 113 #[.slice A n c, .int .i64 i, .int .i64 k] w fun e w' => e = .returned (.tuple #[.int .i64 (sAns f n i k).1, .int .i64 (sAns f n i k).2]) ∧ w' = w := by
  have hu := ref_u A n c f i k w h hf hi hk hn
  clear h
  by_cases h1 : k < 1 ∨ 4 < k
  · simp only [uAns, sAns, h1, if_true] at hu ⊢
    clear h1
    go_enter Tryz.func113, Tryz.ntmps113
    go_wp2_with (go_at_call 112; refine hu.mono ?_; rintro e w2 ⟨rfl, rfl⟩)
    go_ret2
    exact ⟨rfl, rfl⟩
  by_cases h3 : Fits n i k
  · simp only [uAns, sAns, h1, if_false, h3, if_true] at hu ⊢
    have hr := numAt_range (f := f) (p := i.toNat) (k := k.toNat) (fun j hj => hf j (by have := fits_top h3 (by omega); omega))
    generalize numAt f i.toNat k.toNat = x at hu hr ⊢
    obtain ⟨m, rfl⟩ : ∃ m : Nat, k = m := ⟨k.toNat, by omega⟩
    simp only [Int.toNat_natCast] at hr hu ⊢
    have hm : m ≤ 4 := by omega
    have hp : ∀ j : Nat, j ≤ 4 → 1 ≤ (256 : Int) ^ j ∧ (256 : Int) ^ j ≤ 4294967296 := by
      intro j hj
      have hh : j = 0 ∨ j = 1 ∨ j = 2 ∨ j = 3 ∨ j = 4 := by omega
      rcases hh with rfl | rfl | rfl | rfl | rfl <;> decide
    have hpm := hp m hm
    clear h1 h3 hk hf hi hn
    go_enter Tryz.func113, Tryz.ntmps113
    go_wp2_with (go_at_call 112; refine hu.mono ?_; rintro e w2 ⟨rfl, rfl⟩)
    go_loop [10, 11] (fun x y => ∃ j : Nat, j ≤ m ∧ x = .int .i64 (256 ^ j) ∧ y = .int .i64 j) (fun _ y => m - (intOf y).toNat)
    case atStart => exact ⟨0, by omega, rfl, rfl⟩
    case round =>
      obtain ⟨j, hj, rfl, rfl⟩ := hrel
      by_cases hjm : j < m
      · have hpj := hp j (by omega)
        have hpk := hp (j + 1) (by omega)
        have hpe : (256 : Int) ^ (j + 1) = 256 ^ j * 256 := Int.pow_succ _ _
        have hwe : wrap64 ((256 : Int) ^ j * 256) = 256 ^ j * 256 := by rw [← hpe]; unfold wrap64; omega
        clear hpe
        go_wp2
        go_round
        case rel => exact ⟨j + 1, by omega, by rw [Int.pow_succ], by simp⟩
        case measure => simp [intOf]; omega
      · obtain rfl : j = m := by omega
        obtain ⟨hr1, hr2⟩ := hr
        by_cases hs : (256 : Int) ^ j ≤ 2 * x
        · have he := Lib.hid (show sgn j x = x - 256 ^ j from if_pos hs)
          go_wp2
          go_ret2
          rw [he.out]
          exact ⟨rfl, rfl⟩
        · have he := Lib.hid (show sgn j x = x from if_neg hs)
          go_wp2
          go_ret2
          rw [he.out]
          exact ⟨rfl, rfl⟩
  · simp only [uAns, sAns, h1, if_false, h3] at hu ⊢
    clear h1 h3
    go_enter Tryz.func113, Tryz.ntmps113
    go_wp2_with (go_at_call 112; refine hu.mono ?_; rintro e w2 ⟨rfl, rfl⟩)
    go_ret2
    exact ⟨rfl, rfl⟩
end Go.Proofs.YteckkcpnfeoehaaGreatDoor

/-
  Layer 2: 'Put', walked, program and reference.
-/
namespace Go.Proofs.YteckkcpnfeoehaaGreatDoor
set_option maxRecDepth 100000
open Go.RowKit
set_option linter.unusedVariables false

def clampW (k : Int) : Nat := if k < 0 then 0 else if 8 < k then 8 else k.toNat
/-- The byte of n at place j of m. -/
def byteOf (n : Int) (m j : Nat) : Int := n / 2 ^ (8 * (m - 1 - j)) % 256

set_option maxHeartbeats 4000000 in
theorem be_put (n k : Int) (w : World) (hn : In64 n) (hk : In64 k) :
    Calls Tryz.prog 64 #[.int .i64 n, .int .i64 k] w fun e w' => ∃ g, e = .returned (.slice (some ⟨g, 0, none⟩) (clampW k) (clampW k)) ∧ w.heap.size ≤ g ∧ Row w' g (clampW k) (U8 (byteOf n (clampW k))) ∧ Since w w' := by
  obtain ⟨i0, hi0, hz0, hz1, hz2⟩ := info_parts Tryz.info_u8
  by_cases h1 : 0 ≤ k ∧ k ≤ 8
  · obtain ⟨m, rfl⟩ : ∃ m : Nat, k = m := ⟨k.toNat, by omega⟩
    obtain ⟨h1, h2⟩ := h1
    have hm : m ≤ 8 := by omega
    have hc : clampW m = m := by unfold clampW; rw [if_neg (by omega), if_neg (by omega)]; rfl
    rw [hc]
    have b1 : 1 * m ≤ 281474976710656 := by omega
    have b2 : m ≤ maxLen := by simp only [maxLen]; omega
    clear hc
    go_enter Tryz.func64, Tryz.ntmps64
    go_wp2_with (at_make; refine wpList_make_tab _ (by rfl) (.tmp 10) (.tmp 10) _ (by rfl) 5 i0 .u8 1 Tryz.underlying34 hi0 hz0 hz1 hz2 .i64 .i64 m (by rfl) (by rfl) b1 b2 ?_; intro w1 hown1 hS1)
    have hrow := row_of_own hown1
    clear hown1
    go_loopw [13] (fun y wr => ∃ j : Nat, j ≤ m ∧ y = .int .i64 j ∧ Since w wr ∧ Row wr w.heap.size m (U8 (fun q => if m ≤ q + j then byteOf n m q else 0))) (fun y _ => m - (intOf y).toNat)
    case atStart => exact ⟨0, by omega, rfl, hS1, hrow.congr (fun q hq => by simp only [U8, IntRow]; rw [if_neg (by omega)])⟩
    case round =>
      obtain ⟨j, hj, rfl, hSr, hR⟩ := hrel
      by_cases hjm : j < m
      · obtain ⟨q, hq⟩ : ∃ q : Nat, q + 1 + j = m := ⟨m - 1 - j, by omega⟩
        have hqi : (m : Int) - 1 - (j : Int) = (q : Int) := by omega
        have hqi' : (m : Int) - 1 = (q : Int) + j := by omega
        have hjm' : (j : Int) < m := by omega
        have hqm : (q : Int) < m := by omega
        have hcell := hR.1 q (by omega)
        have hfr := hR.2.1 q
        go_wp2
        refine ⟨⟨j + 1, by omega, by simp, hSr.setCell (Nat.le_refl _) _, (hR.set q _).congr (fun t ht => ?_)⟩, by simp [intOf]; omega⟩
        by_cases hqt : t = q
        · subst hqt
          simp only [U8, IntRow]
          rw [if_pos trivial, if_pos (by omega), byteOf, show m - 1 - t = j by omega]
        · simp only [U8, IntRow]
          rw [if_neg hqt]
          by_cases ht2 : m ≤ t + j
          · rw [if_pos ht2, if_pos (by omega)]
          · rw [if_neg ht2, if_neg (by omega)]
      · obtain rfl : m = j := by omega
        have hR' := hR.congr (g := U8 (byteOf n m)) (fun q hq => by simp only [U8, IntRow]; rw [if_pos (by omega)])
        clear hR
        go_wp2
        go_ret
        exact ⟨_, rfl, Nat.le_refl _, hR', hSr⟩
  by_cases h2 : k < 0
  · have hc : clampW k = 0 := by unfold clampW; rw [if_pos (by omega)]
    rw [hc]
    have b1 : 1 * 0 ≤ 281474976710656 := by omega
    have b2 : 0 ≤ maxLen := by simp only [maxLen]; omega
    clear hc
    go_enter Tryz.func64, Tryz.ntmps64
    go_wp2_with (at_make; refine wpList_make_tab _ (by rfl) (.tmp 10) (.tmp 10) _ (by rfl) 5 i0 .u8 1 Tryz.underlying34 hi0 hz0 hz1 hz2 .i64 .i64 0 (by rfl) (by rfl) b1 b2 ?_; intro w1 hown1 hS1)
    have hrow := row_of_own hown1
    clear hown1
    go_loopw [13] (fun y wr => ∃ j : Nat, j ≤ 0 ∧ y = .int .i64 j ∧ Since w wr ∧ Row wr w.heap.size 0 (U8 (fun q => if 0 ≤ q + j then byteOf n 0 q else 0))) (fun y _ => 0 - (intOf y).toNat)
    case atStart => exact ⟨0, by omega, rfl, hS1, hrow.congr (fun q hq => by simp only [U8, IntRow]; rw [if_neg (by omega)])⟩
    case round =>
      obtain ⟨j, hj, rfl, hSr, hR⟩ := hrel
      by_cases hjm : j < 0
      · exact absurd hjm (by omega)
      · obtain rfl : 0 = j := by omega
        have hR' := hR.congr (g := U8 (byteOf n 0)) (fun q hq => by simp only [U8, IntRow]; rw [if_pos (by omega)])
        clear hR
        go_wp2
        go_ret
        exact ⟨_, rfl, Nat.le_refl _, hR', hSr⟩
  · have h2' : 8 < k := by omega
    have hc : clampW k = 8 := by unfold clampW; rw [if_neg (by omega), if_pos (by omega)]
    rw [hc]
    have b1 : 1 * 8 ≤ 281474976710656 := by omega
    have b2 : 8 ≤ maxLen := by simp only [maxLen]; omega
    clear hc
    go_enter Tryz.func64, Tryz.ntmps64
    go_wp2_with (at_make; refine wpList_make_tab _ (by rfl) (.tmp 10) (.tmp 10) _ (by rfl) 5 i0 .u8 1 Tryz.underlying34 hi0 hz0 hz1 hz2 .i64 .i64 8 (by rfl) (by rfl) b1 b2 ?_; intro w1 hown1 hS1)
    have hrow := row_of_own hown1
    clear hown1
    go_loopw [13] (fun y wr => ∃ j : Nat, j ≤ 8 ∧ y = .int .i64 j ∧ Since w wr ∧ Row wr w.heap.size 8 (U8 (fun q => if 8 ≤ q + j then byteOf n 8 q else 0))) (fun y _ => 8 - (intOf y).toNat)
    case atStart => exact ⟨0, by omega, rfl, hS1, hrow.congr (fun q hq => by simp only [U8, IntRow]; rw [if_neg (by omega)])⟩
    case round =>
      obtain ⟨j, hj, rfl, hSr, hR⟩ := hrel
      by_cases hjm : j < 8
      · obtain ⟨q, hq⟩ : ∃ q : Nat, q + 1 + j = 8 := ⟨8 - 1 - j, by omega⟩
        have hqi : (8 : Int) - 1 - (j : Int) = (q : Int) := by omega
        have hqi' : (8 : Int) - 1 = (q : Int) + j := by omega
        have hjm' : (j : Int) < 8 := by omega
        have hqm : (q : Int) < 8 := by omega
        have hcell := hR.1 q (by omega)
        have hfr := hR.2.1 q
        go_wp2
        refine ⟨⟨j + 1, by omega, by simp, hSr.setCell (Nat.le_refl _) _, (hR.set q _).congr (fun t ht => ?_)⟩, by simp [intOf]; omega⟩
        by_cases hqt : t = q
        · subst hqt
          simp only [U8, IntRow]
          rw [if_pos trivial, if_pos (by omega), byteOf, show 8 - 1 - t = j by omega]
        · simp only [U8, IntRow]
          rw [if_neg hqt]
          by_cases ht2 : 8 ≤ t + j
          · rw [if_pos ht2, if_pos (by omega)]
          · rw [if_neg ht2, if_neg (by omega)]
      · obtain rfl : 8 = j := by omega
        have hR' := hR.congr (g := U8 (byteOf n 8)) (fun q hq => by simp only [U8, IntRow]; rw [if_pos (by omega)])
        clear hR
        go_wp2
        go_ret
        exact ⟨_, rfl, Nat.le_refl _, hR', hSr⟩
end Go.Proofs.YteckkcpnfeoehaaGreatDoor
