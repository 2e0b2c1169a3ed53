/-
  The document's numbers of eight digits, walked: a bit; one more bit; products.
-/
import Derived.Test.YtckochcocflleaaRefB
import Derived.Deep.Cut
namespace Go.Proofs.Ytckochcocflleaa
open Go.RowKit
set_option linter.unusedVariables false

theorem B_two (q : Nat) : B q = 2 ^ (16 * q) := by unfold B; rw [Int.pow_mul]; rfl
theorem B_add (a b : Nat) : B (a + b) = B a * B b := Int.pow_add 65536 a b
/-- A bit of a digit is a bit of the number. -/
theorem bit_dg (n : Int) (k : Nat) : dg n (k / 16) / 2 ^ (k % 16) % 2 = n / 2 ^ k % 2 := by
  have e : (2 : Int) ^ k = B (k / 16) * 2 ^ (k % 16) := by rw [B_two, ← Int.pow_add, show 16 * (k / 16) + k % 16 = k by omega]
  have hr : k % 16 < 16 := Nat.mod_lt _ (by omega)
  rw [e, ← Int.ediv_ediv_of_nonneg (Int.le_of_lt (B_pos _))]
  unfold dg
  generalize n / B (k / 16) = x
  generalize k % 16 = r at *
  have h : r = 0 ∨ r = 1 ∨ r = 2 ∨ r = 3 ∨ r = 4 ∨ r = 5 ∨ r = 6 ∨ r = 7 ∨ r = 8 ∨ r = 9 ∨ r = 10 ∨ r = 11 ∨ r = 12 ∨ r = 13 ∨ r = 14 ∨ r = 15 := by omega
  rcases h with rfl | rfl | rfl | rfl | rfl | rfl | rfl | rfl | rfl | rfl | rfl | rfl | rfl | rfl | rfl | rfl <;> simp only [Int.reducePow] <;> omega
theorem two_r (k : Nat) : 1 ≤ (2 : Int) ^ (k % 16) ∧ (2 : Int) ^ (k % 16) ≤ 32768 := by
  have hr : k % 16 < 16 := Nat.mod_lt _ (by omega)
  generalize k % 16 = r at *
  have h : r = 0 ∨ r = 1 ∨ r = 2 ∨ r = 3 ∨ r = 4 ∨ r = 5 ∨ r = 6 ∨ r = 7 ∨ r = 8 ∨ r = 9 ∨ r = 10 ∨ r = 11 ∨ r = 12 ∨ r = 13 ∨ r = 14 ∨ r = 15 := by omega
  rcases h with rfl | rfl | rfl | rfl | rfl | rfl | rfl | rfl | rfl | rfl | rfl | rfl | rfl | rfl | rfl | rfl <;> simp
theorem room_dg {x : Int} {r : Nat} (hr : r < 16) (h0 : 0 ≤ x) (h1 : x < 65536) (hb : x / 2 ^ r % 2 = 0) : x + 2 ^ r < 65536 := by
  have h : r = 0 ∨ r = 1 ∨ r = 2 ∨ r = 3 ∨ r = 4 ∨ r = 5 ∨ r = 6 ∨ r = 7 ∨ r = 8 ∨ r = 9 ∨ r = 10 ∨ r = 11 ∨ r = 12 ∨ r = 13 ∨ r = 14 ∨ r = 15 := by omega
  rcases h with rfl | rfl | rfl | rfl | rfl | rfl | rfl | rfl | rfl | rfl | rfl | rfl | rfl | rfl | rfl | rfl <;> simp only [Int.reducePow] at * <;> omega
/-- A digit is put in another's place. -/
theorem dg_put (n v : Int) (p j : Nat) (v0 : 0 ≤ v) (v1 : v < 65536) : dg (n + (v - dg n p) * B p) j = if j = p then v else dg n j := by
  rcases Nat.lt_trichotomy j p with h | h | h
  · rw [if_neg (by omega)]
    obtain ⟨m, rfl⟩ : ∃ m, p = j + (m + 1) := ⟨p - j - 1, by omega⟩
    generalize dg n (j + (m + 1)) = x
    have e : (v - x) * B (j + (m + 1)) = B j * ((v - x) * B m * 65536) := by
      rw [B_add, B_succ]
      rw [show (v - x) * (B j * (B m * 65536)) = B j * ((v - x) * (B m * 65536)) from Int.mul_left_comm _ _ _, Int.mul_assoc]
    unfold dg
    rw [e, Int.add_mul_ediv_left _ _ (Int.ne_of_gt (B_pos j))]
    generalize (v - x) * B m = y
    omega
  · subst h
    rw [if_pos rfl]
    have b := dg_bd n j
    unfold dg at *
    rw [Int.add_mul_ediv_right _ _ (Int.ne_of_gt (B_pos j))]
    omega
  · rw [if_neg (by omega)]
    obtain ⟨m, rfl⟩ : ∃ m, j = (p + 1) + m := ⟨j - p - 1, by omega⟩
    have e : ∀ x : Int, x / B (p + 1 + m) = x / B p / 65536 / B m := fun x => by
      rw [B_add, B_succ, ← Int.ediv_ediv_of_nonneg (by have := B_pos p; omega), ← Int.ediv_ediv_of_nonneg (Int.le_of_lt (B_pos p))]
    have b := dg_bd n p
    unfold dg at *
    rw [e, e, Int.add_mul_ediv_right _ _ (Int.ne_of_gt (B_pos p))]
    generalize n / B p = x at *
    rw [show (x + (v - x % 65536)) / 65536 = x / 65536 by omega]

theorem ref_bit (n : Int) (k : Nat) (hk : k < 128) (w : World) :
    Calls Try.prog 138 #[D n, .int .i64 k] w fun e w' => e = .returned (.int .u32 (n / 2 ^ k % 2)) ∧ Since w w' := by
  have hb := Lib.hid (bit_dg n k)
  obtain ⟨t0, t1⟩ := two_r k
  have hr : k % 16 < 16 := Nat.mod_lt _ (by omega)
  have hq : k / 16 < 8 := by omega
  obtain ⟨d0, d1⟩ := dg_bd n (k / 16)
  obtain ⟨hA1, hA2, hA3⟩ := row8 w _ rfl 75 (dg n)
  have hd : 0 ≤ dg n (k / 16) / 2 ^ (k % 16) := Int.ediv_nonneg d0 (by omega)
  go_enter Try.func138, Try.ntmps138
  go_wp2
  go_ret
  exact ⟨by rw [← hb.out]; rfl, by (repeat (first | with_reducible (exact Since.refl _) | with_reducible assumption | with_reducible (refine Since.drew ?_) | with_reducible (refine Since.drewN ?_ _) | with_reducible (refine Since.alloc ?_ _) | (with_reducible (refine Since.setCell ?_ ?_ _); rotate_left; focus (first | (simp; done) | (simp; omega) | omega)) | (with_reducible (refine Since.trans ?_ (by with_reducible assumption)))))⟩

theorem with_dg {n : Int} {k : Nat} (h0 : n / 2 ^ k % 2 = 0) (j : Nat) : (if j = k / 16 then dg n (k / 16) + 2 ^ (k % 16) else dg n j) = dg (n + 2 ^ k) j := by
  have hr : k % 16 < 16 := Nat.mod_lt _ (by omega)
  obtain ⟨d0, d1⟩ := dg_bd n (k / 16)
  obtain ⟨t0, t1⟩ := two_r k
  have hroom := room_dg hr d0 d1 (by rw [bit_dg]; exact h0)
  have e : (2 : Int) ^ k = (dg n (k / 16) + 2 ^ (k % 16) - dg n (k / 16)) * B (k / 16) := by
    rw [show dg n (k / 16) + 2 ^ (k % 16) - dg n (k / 16) = 2 ^ (k % 16) by omega, B_two, ← Int.pow_add, show k % 16 + 16 * (k / 16) = k by omega]
  have := dg_put n (dg n (k / 16) + 2 ^ (k % 16)) (k / 16) j (by omega) hroom
  rw [← e] at this
  rw [this]

theorem ref_with (n : Int) (k : Nat) (hk : k < 128) (h0 : n / 2 ^ k % 2 = 0) (w : World) :
    Calls Try.prog 139 #[D n, .int .i64 k] w fun e w' => e = .returned (D (n + 2 ^ k)) ∧ Since w w' := by
  have hw := fun j => with_dg h0 j
  have hr : k % 16 < 16 := Nat.mod_lt _ (by omega)
  have hq : k / 16 < 8 := by omega
  obtain ⟨d0, d1⟩ := dg_bd n (k / 16)
  obtain ⟨t0, t1⟩ := two_r k
  have hroom := room_dg hr d0 d1 (by rw [bit_dg]; exact h0)
  have HW := Lib.hid hw
  clear hw h0
  go_enter Try.func139, Try.ntmps139
  go_upto_region 1 with fail
  refine wp_named fun w0 hw0 => ?_
  have hA : Row w0 w.heap.size 8 (fun j => .int .u32 (dg n j)) := by subst hw0; exact (row8 w _ rfl _ (dg n)).alloc _
  have hC : Row w0 (w.heap.size + 1) 8 (fun _ => .int .u32 0) := by subst hw0; exact row8 _ _ (by simp) _ (fun _ => 0)
  have hS : Since w w0 := by subst hw0; (repeat (first | with_reducible (exact Since.refl _) | with_reducible assumption | with_reducible (refine Since.drew ?_) | with_reducible (refine Since.drewN ?_ _) | with_reducible (refine Since.alloc ?_ _) | (with_reducible (refine Since.setCell ?_ ?_ _); rotate_left; focus (first | (simp; done) | (simp; omega) | omega)) | (with_reducible (refine Since.trans ?_ (by with_reducible assumption)))))
  clear hw0
  obtain ⟨hA1, hA2, hA3⟩ := id hA; obtain ⟨hC1, hC2, hC3⟩ := id hC
  go_upto_region 2 with fail
  refine wp_named fun w1 hw1 => ?_
  have hA' : Row w1 w.heap.size 8 (fun j => .int .u32 (dg (n + 2 ^ k) j)) := by
    subst hw1
    refine (hA.set _ _).congr fun j hj => ?_
    rw [← HW.out j]
    split <;> rfl
  have hC' : Row w1 (w.heap.size + 1) 8 (fun _ => .int .u32 0) := by subst hw1; (repeat (first | with_reducible assumption | with_reducible (refine Row.drewN ?_ _) | with_reducible (refine Row.drew ?_) | with_reducible (refine Row.alloc ?_ _) | (with_reducible (refine Row.far ?_ ?_ _ _); rotate_left; focus (first | (simp; done) | (simp; omega) | omega)) | with_reducible (refine Row.since ?_ (by with_reducible assumption))))
  have hS' : Since w w1 := by subst hw1; (repeat (first | with_reducible (exact Since.refl _) | with_reducible assumption | with_reducible (refine Since.drew ?_) | with_reducible (refine Since.drewN ?_ _) | with_reducible (refine Since.alloc ?_ _) | (with_reducible (refine Since.setCell ?_ ?_ _); rotate_left; focus (first | (simp; done) | (simp; omega) | omega)) | (with_reducible (refine Since.trans ?_ (by with_reducible assumption)))))
  clear hw1 hA1 hA2 hA3 hC1 hC2 hC3 hA hC hS
  obtain ⟨hA1, hA2, hA3⟩ := id hA'; obtain ⟨hC1, hC2, hC3⟩ := id hC'
  go_wp2
  refine bodyPost_ret (by simp only [results, Try.results139]; go_simp) rfl ⟨rfl, ?_⟩
  (repeat (first | with_reducible (exact Since.refl _) | with_reducible assumption | with_reducible (refine Since.drew ?_) | with_reducible (refine Since.drewN ?_ _) | with_reducible (refine Since.alloc ?_ _) | (with_reducible (refine Since.setCell ?_ ?_ _); rotate_left; focus (first | (simp; done) | (simp; omega) | omega)) | (with_reducible (refine Since.trans ?_ (by with_reducible assumption)))))
end Go.Proofs.Ytckochcocflleaa
