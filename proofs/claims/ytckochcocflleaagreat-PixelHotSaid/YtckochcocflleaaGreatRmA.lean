/-
  The document's numbers: halves of any number; products of two ints; the pixel of a share.
-/
import Derived.Test.YtckochcocflleaaGreatRefE
import Derived.Test.YtckochcocflleaaGreatCrV
namespace Go.Proofs.YtckochcocflleaaGreat
open Go.RowKit
set_option linter.unusedVariables false

theorem div_dgH (n : Int) (k : Nat) : n / B (k + 1) * 65536 + dg n k = n / B k := by
  unfold dg
  have h : n / B (k + 1) = n / B k / 65536 := (div_B n k).symm
  rw [h]; omega
/-- Its low half, its high one. -/
def loH (n : Int) : Int := n % 18446744073709551616
def hiH (n : Int) : Int := n / 18446744073709551616 % 18446744073709551616
theorem dg_lo (n : Int) (j : Nat) (hj : j < 4) : dg (loH n) j = dg n j := by
  have h : j = 0 ∨ j = 1 ∨ j = 2 ∨ j = 3 := by omega
  unfold dg loH B
  rcases h with rfl | rfl | rfl | rfl <;> omega
theorem dg_hi (n : Int) (j : Nat) (hj : j < 4) : dg (hiH n) j = dg n (j + 4) := by
  have h : j = 0 ∨ j = 1 ∨ j = 2 ∨ j = 3 := by omega
  unfold dg hiH B
  rcases h with rfl | rfl | rfl | rfl <;> omega
theorem half_bd (n : Int) : (0 ≤ loH n ∧ loH n < 18446744073709551616) ∧ (0 ≤ hiH n ∧ hiH n < 18446744073709551616) := by
  unfold loH hiH
  omega
theorem half_start (n : Int) : loH n / B 4 = 0 ∧ hiH n / B 4 = 0 := by
  have h := half_bd n
  have h4 : B 4 = 18446744073709551616 := by unfold B; rfl
  exact ⟨Int.ediv_eq_zero_of_lt h.1.1 (by omega), Int.ediv_eq_zero_of_lt h.2.1 (by omega)⟩
theorem half_end (n : Int) : n / B 0 = n := by unfold B; simp
set_option maxHeartbeats 8000000 in
theorem ref_halvesA (n : Int) (w : World) :
    Calls Tryz.prog 76 #[D n] w fun e w' => e = .returned (.tuple #[.int .i64 (wrap64 (hiH n)), .int .u64 (loH n)]) ∧ Since w w' := by
  obtain ⟨⟨l0, l1⟩, h0, h1⟩ := half_bd n
  have HLo := Lib.hid (dg_lo n)
  have HHi := Lib.hid (dg_hi n)
  have HS4 := Lib.hid (half_start n)
  have HEL := Lib.hid (half_end (loH n))
  have HEH := Lib.hid (half_end (hiH n))
  generalize loH n = m at *
  generalize hiH n = p at *
  go_enter Tryz.func76, Tryz.ntmps76
  go_wp2
  go_loopw [4, 5, 6] (fun lo hh i wr => ∃ k : Nat, k ≤ 4 ∧ i = .int .i64 (3 - (k : Int)) ∧ lo = .int .u64 (m / B (4 - k)) ∧ hh = .int .u64 (p / B (4 - k)) ∧ Since w wr ∧ Row wr w.heap.size 8 (fun j => .int .u32 (dg n j))) (fun _ _ i _ => (intOf i + 1).toNat)
  case atStart => exact ⟨0, by omega, rfl, by rw [Nat.sub_zero, HS4.out.1], by rw [Nat.sub_zero, HS4.out.2], by (repeat (first | with_reducible (exact Since.refl _) | with_reducible assumption | with_reducible (refine Since.drew ?_) | with_reducible (refine Since.drewN ?_ _) | with_reducible (refine Since.alloc ?_ _) | (with_reducible (refine Since.setCell ?_ ?_ _); rotate_left; focus (first | (simp; done) | (simp; omega) | omega)) | (with_reducible (refine Since.trans ?_ (by with_reducible assumption))))), row8 w _ rfl _ (dg n)⟩
  case round =>
    obtain ⟨k, hk, rfl, rfl, rfl, hS, hA⟩ := hrel
    obtain ⟨hA1, hA2, hA3⟩ := id hA
    by_cases hlt : k < 4
    · have hk4 : k = 0 ∨ k = 1 ∨ k = 2 ∨ k = 3 := by omega
      rcases hk4 with rfl | rfl | rfl | rfl
      · obtain ⟨d1, d2⟩ := div_B_bd 3 l0 l1
        obtain ⟨d5, d6⟩ := div_B_bd 3 h0 h1
        obtain ⟨d3, d4⟩ := dg_bd n 3
        obtain ⟨d7, d8⟩ := dg_bd n 7
        have g1 := div_dgH m 3
        have g2 := div_dgH p 3
        rw [HLo.out 3 (by omega)] at g1
        rw [HHi.out 3 (by omega)] at g2
        have c1 := hA1 3 (by omega)
        have c2 := hA1 7 (by omega)
        simp only at c1 c2 g1 g2
        simp only [Nat.reduceAdd, Nat.reduceSub] at *
        generalize m / B 4 = V at *
        generalize p / B 4 = U at *
        generalize dg n 3 = G at *
        generalize dg n 7 = K at *
        have u1 : IntKind.u64.wrap (V * 65536) = V * 65536 := u64_of (by omega) (by omega)
        have u2 : IntKind.u64.wrap (V * 65536 + G) = V * 65536 + G := u64_of (by omega) (by omega)
        have u3 : IntKind.u64.wrap G = G := u64_of (by omega) (by omega)
        have u4 : IntKind.u64.wrap (U * 65536) = U * 65536 := u64_of (by omega) (by omega)
        have u5 : IntKind.u64.wrap (U * 65536 + K) = U * 65536 + K := u64_of (by omega) (by omega)
        have u6 : IntKind.u64.wrap K = K := u64_of (by omega) (by omega)
        have G1 := Lib.hid g1
        have G2 := Lib.hid g2
        clear g1 g2 hA1 d1 d2 d3 d4 d5 d6 d7 d8
        go_wp2_with fail
        go_roundw
        case rel => exact ⟨1, by omega, by first | rfl | go_num, by rw [G1.out], by rw [G2.out], by (repeat (first | with_reducible (exact Since.refl _) | with_reducible assumption | with_reducible (refine Since.drew ?_) | with_reducible (refine Since.drewN ?_ _) | with_reducible (refine Since.alloc ?_ _) | (with_reducible (refine Since.setCell ?_ ?_ _); rotate_left; focus (first | (simp; done) | (simp; omega) | omega)) | (with_reducible (refine Since.trans ?_ (by with_reducible assumption))))), by (repeat (first | with_reducible assumption | with_reducible (refine Row.drewN ?_ _) | with_reducible (refine Row.drew ?_) | with_reducible (refine Row.alloc ?_ _) | (with_reducible (refine Row.far ?_ ?_ _ _); rotate_left; focus (first | (simp; done) | (simp; omega) | omega)) | with_reducible (refine Row.since ?_ (by with_reducible assumption))))⟩
        case measure => simp [intOf]
      · obtain ⟨d1, d2⟩ := div_B_bd 2 l0 l1
        obtain ⟨d5, d6⟩ := div_B_bd 2 h0 h1
        obtain ⟨d3, d4⟩ := dg_bd n 2
        obtain ⟨d7, d8⟩ := dg_bd n 6
        have g1 := div_dgH m 2
        have g2 := div_dgH p 2
        rw [HLo.out 2 (by omega)] at g1
        rw [HHi.out 2 (by omega)] at g2
        have c1 := hA1 2 (by omega)
        have c2 := hA1 6 (by omega)
        simp only at c1 c2 g1 g2
        simp only [Nat.reduceAdd, Nat.reduceSub] at *
        generalize m / B 3 = V at *
        generalize p / B 3 = U at *
        generalize dg n 2 = G at *
        generalize dg n 6 = K at *
        have u1 : IntKind.u64.wrap (V * 65536) = V * 65536 := u64_of (by omega) (by omega)
        have u2 : IntKind.u64.wrap (V * 65536 + G) = V * 65536 + G := u64_of (by omega) (by omega)
        have u3 : IntKind.u64.wrap G = G := u64_of (by omega) (by omega)
        have u4 : IntKind.u64.wrap (U * 65536) = U * 65536 := u64_of (by omega) (by omega)
        have u5 : IntKind.u64.wrap (U * 65536 + K) = U * 65536 + K := u64_of (by omega) (by omega)
        have u6 : IntKind.u64.wrap K = K := u64_of (by omega) (by omega)
        have G1 := Lib.hid g1
        have G2 := Lib.hid g2
        clear g1 g2 hA1 d1 d2 d3 d4 d5 d6 d7 d8
        go_wp2_with fail
        go_roundw
        case rel => exact ⟨2, by omega, by first | rfl | go_num, by rw [G1.out], by rw [G2.out], by (repeat (first | with_reducible (exact Since.refl _) | with_reducible assumption | with_reducible (refine Since.drew ?_) | with_reducible (refine Since.drewN ?_ _) | with_reducible (refine Since.alloc ?_ _) | (with_reducible (refine Since.setCell ?_ ?_ _); rotate_left; focus (first | (simp; done) | (simp; omega) | omega)) | (with_reducible (refine Since.trans ?_ (by with_reducible assumption))))), by (repeat (first | with_reducible assumption | with_reducible (refine Row.drewN ?_ _) | with_reducible (refine Row.drew ?_) | with_reducible (refine Row.alloc ?_ _) | (with_reducible (refine Row.far ?_ ?_ _ _); rotate_left; focus (first | (simp; done) | (simp; omega) | omega)) | with_reducible (refine Row.since ?_ (by with_reducible assumption))))⟩
        case measure => simp [intOf]
      · obtain ⟨d1, d2⟩ := div_B_bd 1 l0 l1
        obtain ⟨d5, d6⟩ := div_B_bd 1 h0 h1
        obtain ⟨d3, d4⟩ := dg_bd n 1
        obtain ⟨d7, d8⟩ := dg_bd n 5
        have g1 := div_dgH m 1
        have g2 := div_dgH p 1
        rw [HLo.out 1 (by omega)] at g1
        rw [HHi.out 1 (by omega)] at g2
        have c1 := hA1 1 (by omega)
        have c2 := hA1 5 (by omega)
        simp only at c1 c2 g1 g2
        simp only [Nat.reduceAdd, Nat.reduceSub] at *
        generalize m / B 2 = V at *
        generalize p / B 2 = U at *
        generalize dg n 1 = G at *
        generalize dg n 5 = K at *
        have u1 : IntKind.u64.wrap (V * 65536) = V * 65536 := u64_of (by omega) (by omega)
        have u2 : IntKind.u64.wrap (V * 65536 + G) = V * 65536 + G := u64_of (by omega) (by omega)
        have u3 : IntKind.u64.wrap G = G := u64_of (by omega) (by omega)
        have u4 : IntKind.u64.wrap (U * 65536) = U * 65536 := u64_of (by omega) (by omega)
        have u5 : IntKind.u64.wrap (U * 65536 + K) = U * 65536 + K := u64_of (by omega) (by omega)
        have u6 : IntKind.u64.wrap K = K := u64_of (by omega) (by omega)
        have G1 := Lib.hid g1
        have G2 := Lib.hid g2
        clear g1 g2 hA1 d1 d2 d3 d4 d5 d6 d7 d8
        go_wp2_with fail
        go_roundw
        case rel => exact ⟨3, by omega, by first | rfl | go_num, by rw [G1.out], by rw [G2.out], by (repeat (first | with_reducible (exact Since.refl _) | with_reducible assumption | with_reducible (refine Since.drew ?_) | with_reducible (refine Since.drewN ?_ _) | with_reducible (refine Since.alloc ?_ _) | (with_reducible (refine Since.setCell ?_ ?_ _); rotate_left; focus (first | (simp; done) | (simp; omega) | omega)) | (with_reducible (refine Since.trans ?_ (by with_reducible assumption))))), by (repeat (first | with_reducible assumption | with_reducible (refine Row.drewN ?_ _) | with_reducible (refine Row.drew ?_) | with_reducible (refine Row.alloc ?_ _) | (with_reducible (refine Row.far ?_ ?_ _ _); rotate_left; focus (first | (simp; done) | (simp; omega) | omega)) | with_reducible (refine Row.since ?_ (by with_reducible assumption))))⟩
        case measure => simp [intOf]
      · obtain ⟨d1, d2⟩ := div_B_bd 0 l0 l1
        obtain ⟨d5, d6⟩ := div_B_bd 0 h0 h1
        obtain ⟨d3, d4⟩ := dg_bd n 0
        obtain ⟨d7, d8⟩ := dg_bd n 4
        have g1 := div_dgH m 0
        have g2 := div_dgH p 0
        rw [HLo.out 0 (by omega)] at g1
        rw [HHi.out 0 (by omega)] at g2
        have c1 := hA1 0 (by omega)
        have c2 := hA1 4 (by omega)
        simp only at c1 c2 g1 g2
        simp only [Nat.reduceAdd, Nat.reduceSub] at *
        generalize m / B 1 = V at *
        generalize p / B 1 = U at *
        generalize dg n 0 = G at *
        generalize dg n 4 = K at *
        have u1 : IntKind.u64.wrap (V * 65536) = V * 65536 := u64_of (by omega) (by omega)
        have u2 : IntKind.u64.wrap (V * 65536 + G) = V * 65536 + G := u64_of (by omega) (by omega)
        have u3 : IntKind.u64.wrap G = G := u64_of (by omega) (by omega)
        have u4 : IntKind.u64.wrap (U * 65536) = U * 65536 := u64_of (by omega) (by omega)
        have u5 : IntKind.u64.wrap (U * 65536 + K) = U * 65536 + K := u64_of (by omega) (by omega)
        have u6 : IntKind.u64.wrap K = K := u64_of (by omega) (by omega)
        have G1 := Lib.hid g1
        have G2 := Lib.hid g2
        clear g1 g2 hA1 d1 d2 d3 d4 d5 d6 d7 d8
        go_wp2_with fail
        go_roundw
        case rel => exact ⟨4, by omega, by first | rfl | go_num, by rw [G1.out], by rw [G2.out], by (repeat (first | with_reducible (exact Since.refl _) | with_reducible assumption | with_reducible (refine Since.drew ?_) | with_reducible (refine Since.drewN ?_ _) | with_reducible (refine Since.alloc ?_ _) | (with_reducible (refine Since.setCell ?_ ?_ _); rotate_left; focus (first | (simp; done) | (simp; omega) | omega)) | (with_reducible (refine Since.trans ?_ (by with_reducible assumption))))), by (repeat (first | with_reducible assumption | with_reducible (refine Row.drewN ?_ _) | with_reducible (refine Row.drew ?_) | with_reducible (refine Row.alloc ?_ _) | (with_reducible (refine Row.far ?_ ?_ _ _); rotate_left; focus (first | (simp; done) | (simp; omega) | omega)) | with_reducible (refine Row.since ?_ (by with_reducible assumption))))⟩
        case measure => simp [intOf]
    · obtain rfl : k = 4 := by omega
      have u1 : IntKind.u64.wrap m = m := u64_of l0 l1
      have u2 : IntKind.u64.wrap p = p := u64_of h0 h1
      rw [Nat.sub_self, HEL.out, HEH.out]
      go_wp2
      refine bodyPost_ret (by simp only [results, Tryz.results76]; go_simp) rfl ⟨rfl, ?_⟩
      (repeat (first | with_reducible (exact Since.refl _) | with_reducible assumption | with_reducible (refine Since.drew ?_) | with_reducible (refine Since.drewN ?_ _) | with_reducible (refine Since.alloc ?_ _) | (with_reducible (refine Since.setCell ?_ ?_ _); rotate_left; focus (first | (simp; done) | (simp; omega) | omega)) | (with_reducible (refine Since.trans ?_ (by with_reducible assumption)))))
end Go.Proofs.YtckochcocflleaaGreat
