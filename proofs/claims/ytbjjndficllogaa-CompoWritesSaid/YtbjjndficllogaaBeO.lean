/-
  Layer 2: reading and putting inside of the bytes; numbers laid over.
-/
import Derived.Test.YtbjjndficllogaaBeE
import Derived.Test.YtbjjndficllogaaBeN
namespace Go.Proofs.Ytbjjndficllogaa
open Go.RowKit
set_option linter.unusedVariables false


theorem u_in (A : Option Addr) (n c : Nat) (f : Nat → Int) (p m : Nat) (x y : Int) (w : World) (h : Rd w w.heap.size A n (U8 f)) (hf : ∀ j, j < n → 0 ≤ f j ∧ f j ≤ 255) (hx : x = p) (hy : y = m) (hm : 1 ≤ m ∧ m ≤ 4) (hp : p + m ≤ n) (hn : n ≤ 140737488355328) :
    Calls Try.prog 35 #[.slice A n c, .int .i64 x, .int .i64 y] w fun e w' => e = .returned (.tuple #[.int .i64 (numAt f p m), .int .i64 0]) ∧ w' = w := by
  subst hx; subst hy
  have h' := be_u A n c f p m w h hf (by unfold In64; omega) (by unfold In64; omega) hn
  unfold uAns at h'
  rw [if_neg (by omega), if_pos (by unfold Fits; omega)] at h'
  simpa using h'

theorem ru_in (A : Option Addr) (n c : Nat) (f : Nat → Int) (p m : Nat) (x y : Int) (w : World) (h : Rd w w.heap.size A n (U8 f)) (hf : ∀ j, j < n → 0 ≤ f j ∧ f j ≤ 255) (hx : x = p) (hy : y = m) (hm : 1 ≤ m ∧ m ≤ 4) (hp : p + m ≤ n) (hn : n ≤ 140737488355328) :
    Calls Try.prog 66 #[.slice A n c, .int .i64 x, .int .i64 y] w fun e w' => e = .returned (.tuple #[.int .i64 (numAt f p m), .int .i64 0]) ∧ w' = w := by
  subst hx; subst hy
  have h' := ref_u A n c f p m w h hf (by unfold In64; omega) (by unfold In64; omega) hn
  unfold uAns at h'
  rw [if_neg (by omega), if_pos (by unfold Fits; omega)] at h'
  simpa using h'


theorem s_in (A : Option Addr) (n c : Nat) (f : Nat → Int) (p m : Nat) (x y : Int) (w : World) (h : Rd w w.heap.size A n (U8 f)) (hf : ∀ j, j < n → 0 ≤ f j ∧ f j ≤ 255) (hx : x = p) (hy : y = m) (hm : 1 ≤ m ∧ m ≤ 4) (hp : p + m ≤ n) (hn : n ≤ 140737488355328) :
    Calls Try.prog 33 #[.slice A n c, .int .i64 x, .int .i64 y] w fun e w' => e = .returned (.tuple #[.int .i64 (sgn m (numAt f p m)), .int .i64 0]) ∧ w' = w := by
  subst hx; subst hy
  have h' := be_s A n c f p m w h hf (by unfold In64; omega) (by unfold In64; omega) hn
  unfold sAns at h'
  rw [if_neg (by omega), if_pos (by unfold Fits; omega)] at h'
  simpa using h'

theorem rs_in (A : Option Addr) (n c : Nat) (f : Nat → Int) (p m : Nat) (x y : Int) (w : World) (h : Rd w w.heap.size A n (U8 f)) (hf : ∀ j, j < n → 0 ≤ f j ∧ f j ≤ 255) (hx : x = p) (hy : y = m) (hm : 1 ≤ m ∧ m ≤ 4) (hp : p + m ≤ n) (hn : n ≤ 140737488355328) :
    Calls Try.prog 73 #[.slice A n c, .int .i64 x, .int .i64 y] w fun e w' => e = .returned (.tuple #[.int .i64 (sgn m (numAt f p m)), .int .i64 0]) ∧ w' = w := by
  subst hx; subst hy
  have h' := ref_s A n c f p m w h hf (by unfold In64; omega) (by unfold In64; omega) hn
  unfold sAns at h'
  rw [if_neg (by omega), if_pos (by unfold Fits; omega)] at h'
  simpa using h'


theorem put_in (m : Nat) (x y : Int) (w : World) (hx : In64 x) (hy : y = m) (hm : m ≤ 8) : Calls Try.prog 44 #[.int .i64 x, .int .i64 y] w fun e w' => ∃ g, e = .returned (.slice (some ⟨g, 0, none⟩) m m) ∧ w.heap.size ≤ g ∧ Row w' g m (U8 (byteOf x m)) ∧ Since w w' := by
  subst hy
  have hc : clampW m = m := by unfold clampW; split <;> (try split) <;> omega
  have h := be_put x m w hx (by unfold In64; omega)
  rw [hc] at h
  exact h

theorem rput_in (m : Nat) (x y : Int) (w : World) (hx : In64 x) (hy : y = m) (hm : m ≤ 8) : Calls Try.prog 48 #[.int .i64 x, .int .i64 y] w fun e w' => ∃ g, e = .returned (.slice (some ⟨g, 0, none⟩) m m) ∧ w.heap.size ≤ g ∧ Row w' g m (U8 (byteOf x m)) ∧ Since w w' := by
  subst hy
  have hc : clampW m = m := by unfold clampW; split <;> (try split) <;> omega
  have h := ref_put x m w hx (by unfold In64; omega)
  rw [hc] at h
  exact h


theorem Nw.low {w : World} {B B' n : Nat} {A : Option Addr} {V : Nat → Value} (h : Nw w B A n V) (hB : B' ≤ B) : Nw w B' A n V := fun hn => by
  obtain ⟨g, rfl, hb, hr⟩ := h hn
  exact ⟨g, rfl, Nat.le_trans hB hb, hr⟩
theorem byte_range (n : Int) (m j : Nat) : 0 ≤ byteOf n m j ∧ byteOf n m j ≤ 255 := by
  unfold byteOf
  have h1 := Int.emod_nonneg (n / 2 ^ (8 * (m - 1 - j))) (show (256 : Int) ≠ 0 by decide)
  have h2 := Int.emod_lt_of_pos (n / 2 ^ (8 * (m - 1 - j))) (show (0 : Int) < 256 by decide)
  omega
/-- A number of two bytes laid at a place. -/
def lay2 (f : Nat → Int) (p : Nat) (x : Int) (j : Nat) : Int := if p ≤ j ∧ j < p + 2 then byteOf x 2 (j - p) else f j
theorem lay2_is (f : Nat → Int) (p : Nat) (x : Int) : layF f (byteOf x 2) 2 p = lay2 f p x := by
  funext j
  unfold layF lay2
  simp only [Int.toNat_natCast]
theorem lay2_comm (f : Nat → Int) (p q : Nat) (x y : Int) (h : p + 2 ≤ q ∨ q + 2 ≤ p) : lay2 (lay2 f p x) q y = lay2 (lay2 f q y) p x := by
  funext j
  unfold lay2
  by_cases h1 : q ≤ j ∧ j < q + 2
  · rw [if_pos h1, if_neg (by omega), if_pos h1]
  · rw [if_neg h1]
    by_cases h2 : p ≤ j ∧ j < p + 2
    · rw [if_pos h2, if_pos h2]
    · rw [if_neg h2, if_neg h2, if_neg h1]
theorem lay2_range {f : Nat → Int} {n p : Nat} {x : Int} (h : ∀ j, j < n → 0 ≤ f j ∧ f j ≤ 255) : ∀ j, j < n → 0 ≤ lay2 f p x j ∧ lay2 f p x j ≤ 255 := fun j hj => by
  unfold lay2
  split
  · exact byte_range _ _ _
  · exact h j hj
theorem num_lay2 (f : Nat → Int) (p : Nat) (x : Int) : numAt (lay2 f p x) p 2 = x % 65536 := by
  have e0 : lay2 f p x p = byteOf x 2 0 := by unfold lay2; rw [if_pos (by omega), Nat.sub_self]
  have e1 : lay2 f p x (p + 1) = byteOf x 2 1 := by unfold lay2; rw [if_pos (by omega), show p + 1 - p = 1 by omega]
  simp only [numAt, Nat.add_zero, e0, e1, byteOf, Nat.reduceSub, Nat.reduceMul, Int.reducePow]
  omega
theorem num_far (f : Nat → Int) (p q k : Nat) (x : Int) (h : p + 2 ≤ q ∨ q + k ≤ p) : numAt (lay2 f p x) q k = numAt f q k := by
  induction k with
  | zero => rfl
  | succ k ih =>
    simp only [numAt]
    rw [ih (by omega)]
    congr 1
    unfold lay2
    rw [if_neg (by omega)]
theorem sgn_mod {x : Int} (h : -32768 ≤ x ∧ x ≤ 32767) : sgn 2 (x % 65536) = x := by
  unfold sgn
  simp only [Int.reducePow]
  split <;> omega
theorem num_four (f : Nat → Int) (p : Nat) : numAt f p 4 = 65536 * numAt f p 2 + numAt f (p + 2) 2 := by
  simp only [numAt, Nat.add_zero]
  rw [show p + 2 + 1 = p + 3 by omega]
  omega
end Go.Proofs.Ytbjjndficllogaa
