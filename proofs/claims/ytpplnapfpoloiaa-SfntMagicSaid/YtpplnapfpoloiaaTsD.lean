/-
  Layer 3: the law TabsumAdjusts, walked.
-/
import Derived.Test.YtpplnapfpoloiaaTsC
import Derived.Test.YtpplnapfpoloiaaMgB
namespace Go.Proofs.Ytpplnapfpoloiaa
open Go.RowKit
set_option linter.unusedVariables false

theorem wgt_add {n : Nat} (h : n % 4 = 0) (j : Nat) : wgt (n + j) = wgt j := by unfold wgt; rw [show (n + j) % 4 = j % 4 by omega]
theorem accu_cat {s : Int} {n : Nat} {f g : Nat → Int} (h : n % 4 = 0) : ∀ m, accu s (catG n f g) (n + m) = accu (accu s f n) g m
  | 0 => accu_congr fun j hj => by unfold catG; rw [if_pos (by omega)]
  | m + 1 => by
    show accu s (catG n f g) (n + m + 1) = _
    simp only [accu]
    rw [accu_cat h m, wgt_add h]
    congr 2
    unfold catG
    rw [if_neg (by omega), show n + m - n = m by omega]
theorem accu_word {a : Int} (h : 0 ≤ a ∧ a < 4294967296) : accu 0 (byteOf a 4) 4 = a := by
  simp only [accu, byteOf, wgt]
  simp only [Nat.reduceSub, Nat.reduceMul, Int.reducePow, Nat.reduceMod]
  omega
/-- The bytes with a word of noughts; with the adjustment. -/
def mid (q : Nat) (f : Nat → Int) (z : Nat → Int) (o : Nat → Int) : Nat → Int := catG (q * 4 + 4) (catG (q * 4) f z) o
theorem accu_mid {q m : Nat} {f z o : Nat → Int} : accu 0 (mid q f z o) (q * 4 + 4 + m) = ((accu 0 f (q * 4) + accu 0 z 4) % 4294967296 + accu 0 o m) % 4294967296 := by
  have h0 := accu_range (s := 0) (f := f) (by omega) (q * 4)
  unfold mid
  rw [accu_cat (by omega), accu_cat (by omega)]
  have h1 := accu_range (f := z) h0 4
  rw [accu_from h1 m, accu_from h0 4]
theorem adjusted {q m : Nat} {f o : Nat → Int} : accu 0 (mid q f (byteOf ((2981146554 - accu 0 (mid q f (fun _ => 0) o) (q * 4 + 4 + m)) % 4294967296) 4) o) (q * 4 + 4 + m) = 2981146554 := by
  rw [accu_mid, accu_mid]
  have hz : accu 0 (fun _ => (0 : Int)) 4 = 0 := by simp [accu]
  rw [hz, accu_word (by omega)]
  generalize accu 0 f (q * 4) = x
  generalize accu 0 o m = y
  omega
theorem rd_four (w : World) (b : Nat) (hb : b = w.heap.size) : Rd (w.alloc (.cells #[.int .u8 0, .int .u8 0, .int .u8 0, .int .u8 0] 5)) (w.heap.size + 1) (some ⟨b, 0, none⟩) 4 (U8 (fun _ => 0)) := fun _ => by
  subst hb
  refine ⟨w.heap.size, 0, rfl, by simp, fun j hj => ?_⟩
  have h : j = 0 ∨ j = 1 ∨ j = 2 ∨ j = 3 := by omega
  rw [World.cell?_alloc_new, Nat.zero_add]
  rcases h with rfl | rfl | rfl | rfl <;> rfl
/-- So far the adjustment is laid. -/
def part (a : Int) (i j : Nat) : Int := if j < i then byteOf a 4 j else 0
def laid (q : Nat) (f o : Nat → Int) (a : Int) (i : Nat) : Nat → Int := mid q f (part a i) o
theorem laid_0 (q : Nat) (f o : Nat → Int) (a : Int) : laid q f o a 0 = mid q f (fun _ => 0) o := by unfold laid; congr 1
theorem laid_4 (q : Nat) (f o : Nat → Int) (a : Int) : ∀ j, laid q f o a 4 j = mid q f (byteOf a 4) o j := fun j => by
  unfold laid mid catG
  by_cases h : j < q * 4 + 4
  · rw [if_pos h, if_pos h]
    by_cases h2 : j < q * 4
    · rw [if_pos h2, if_pos h2]
    · rw [if_neg h2, if_neg h2, part, if_pos (by omega)]
  · rw [if_neg h, if_neg h]
theorem laid_next {q : Nat} {f o : Nat → Int} {a : Int} {i : Nat} (hi : i < 4) (j : Nat) : (if j = q * 4 + i then byteOf a 4 i else laid q f o a i j) = laid q f o a (i + 1) j := by
  unfold laid mid catG
  by_cases e : j = q * 4 + i
  · subst e
    rw [if_pos rfl, if_pos (by omega), if_neg (by omega), show q * 4 + i - q * 4 = i by omega, part, if_pos (by omega)]
  · rw [if_neg e]
    by_cases h : j < q * 4 + 4
    · rw [if_pos h, if_pos h]
      by_cases h2 : j < q * 4
      · rw [if_pos h2, if_pos h2]
      · rw [if_neg h2, if_neg h2]
        unfold part
        by_cases h3 : j - q * 4 < i
        · rw [if_pos h3, if_pos (by omega)]
        · rw [if_neg h3, if_neg (by omega)]
    · rw [if_neg h, if_neg h]
theorem laid_range {q m : Nat} {f o : Nat → Int} {a : Int} {i : Nat} (hf : ∀ j, j < q * 4 → 0 ≤ f j ∧ f j ≤ 255) (ho : ∀ j, j < m → 0 ≤ o j ∧ o j ≤ 255) : ∀ j, j < q * 4 + 4 + m → 0 ≤ laid q f o a i j ∧ laid q f o a i j ≤ 255 := by
  unfold laid mid
  refine catG_range (catG_range hf (fun j _ => ?_)) ho
  unfold part
  split
  · unfold byteOf
    have h1 := Int.emod_nonneg (a / 2 ^ (8 * (4 - 1 - j))) (show (256 : Int) ≠ 0 by decide)
    have h2 := Int.emod_lt_of_pos (a / 2 ^ (8 * (4 - 1 - j))) (show (0 : Int) < 256 by decide)
    omega
  · omega
theorem ref_put4 (x : Int) (w : World) (hx : In64 x) : Calls Try.prog 60 #[.int .i64 x, .int .i64 4] w fun e w' => ∃ g, e = .returned (.slice (some ⟨g, 0, none⟩) 4 4) ∧ w.heap.size ≤ g ∧ Row w' g 4 (U8 (byteOf x 4)) ∧ Since w w' := ref_put x 4 w hx (by unfold In64; omega)

end Go.Proofs.Ytpplnapfpoloiaa
