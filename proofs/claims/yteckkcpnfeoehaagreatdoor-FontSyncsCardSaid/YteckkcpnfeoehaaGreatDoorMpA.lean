/-
  Texts of this seat, put together: each with its own head.
-/
import Derived.Test.YteckkcpnfeoehaaGreatDoorMnAd

/-
  Layer 2: 'Pad', walked, program and reference.
-/
namespace Go.Proofs.YteckkcpnfeoehaaGreatDoor
set_option maxRecDepth 100000
open Go.RowKit
set_option linter.unusedVariables false

def clampT (k : Int) : Nat := if k < 1 then 1 else if 16 < k then 16 else k.toNat
/-- How many noughts are missing. -/
def missing (n c : Nat) : Nat := (c - n % c) % c
theorem Tryz.size_u8 : (Tryz.prog.info? 5).map (·.size) = some 1 := by kernel_rfl
def padTo (n : Nat) (f : Nat → Int) (j : Nat) : Int := if j < n then f j else 0

set_option maxHeartbeats 4000000 in
theorem be_pad (A : Option Addr) (n c : Nat) (f : Nat → Int) (k : Int) (w : World) (h : Rd w w.heap.size A n (U8 f)) (hk : In64 k) (hn : n ≤ 140737488355328) :
    Calls Tryz.prog 66 #[.slice A n c, .int .i64 k] w fun e w' => ∃ g, e = .returned (.slice (some ⟨g, 0, none⟩) (n + missing n (clampT k)) (n + missing n (clampT k))) ∧ w.heap.size ≤ g ∧ Row w' g (n + missing n (clampT k)) (U8 (padTo n f)) ∧ Since w w' := by
  obtain ⟨i0, hi0, hz0, hz1, hz2⟩ := info_parts Tryz.info_u8
  by_cases h1 : 1 ≤ k ∧ k ≤ 16
  · obtain ⟨m, rfl⟩ : ∃ m : Nat, k = m := ⟨k.toNat, by omega⟩
    obtain ⟨h1, h2⟩ := h1
    have hm1 : 1 ≤ m := by omega
    have hm2 : m ≤ 16 := by omega
    have hc : clampT m = m := by unfold clampT; rw [if_neg (by omega), if_neg (by omega)]; rfl
    rw [hc]
    have hlt : missing n m < m := Nat.mod_lt _ (by omega)
    have hr1 : n % m < m := Nat.mod_lt _ (by omega)
    have hmi : ((m : Int) - (n : Int) % (m : Int)) % (m : Int) = (missing n m : Int) := by
      unfold missing
      rw [Int.natCast_emod, Int.natCast_sub (by omega), Int.natCast_emod]
    generalize missing n m = q at hlt hmi ⊢
    have b1 : 1 * (n + q) ≤ 281474976710656 := by omega
    have b2 : n + q ≤ maxLen := by simp only [maxLen]; omega
    clear hc
    go_enter Tryz.func66, Tryz.ntmps66
    go_wp2_with (first | (at_make; refine wpList_make_tab _ (by rfl) (.tmp 21) (.tmp 21) _ (by rfl) 5 i0 .u8 1 Tryz.underlying34 hi0 hz0 hz1 hz2 .i64 .i64 (n + q) (by rfl) (by rfl) b1 b2 ?_; intro w1 hown1 hS1; have hall1 := All.of_own hown1; have hA1 := h.since (Nat.le_refl _) hS1; clear hown1) | (refine wpList_copy_all (by rfl) (.tmp 23) (.tmp 24) _ _ (by rfl) 5 Tryz.underlying34 Tryz.size_u8 _ _ (n + q) (n + q) n c (by rfl) (by rfl) w.heap.size 0 (n + q) n 5 _ (U8 f) hall1 w.heap.size hA1 (Nat.min_eq_left (Nat.le_add_right n q)).symm (fun _ => rfl) (by omega) tab_ones w hS1 (Nat.le_refl _) ?_; intro w2 hall2 hS2; clear hall1 hA1 hS1))
    go_ret
    refine ⟨_, rfl, Nat.le_refl _, (hall2.congr (fun j hj => ?_)).row, hS2⟩
    simp only [U8, IntRow, padTo, Nat.zero_le, true_and, Nat.zero_add, Nat.sub_zero]
    split <;> rfl
  by_cases h2 : k < 1
  · have hc : clampT k = 1 := by unfold clampT; rw [if_pos h2]
    rw [hc]
    have hq : missing n 1 = 0 := by unfold missing; omega
    rw [hq]
    have b1 : 1 * (n + 0) ≤ 281474976710656 := by omega
    have b2 : n + 0 ≤ maxLen := by simp only [maxLen]; omega
    clear hq hc
    go_enter Tryz.func66, Tryz.ntmps66
    go_wp2_with (first | (at_make; refine wpList_make_tab _ (by rfl) (.tmp 21) (.tmp 21) _ (by rfl) 5 i0 .u8 1 Tryz.underlying34 hi0 hz0 hz1 hz2 .i64 .i64 (n + 0) (by rfl) (by rfl) b1 b2 ?_; intro w1 hown1 hS1; have hall1 := All.of_own hown1; have hA1 := h.since (Nat.le_refl _) hS1; clear hown1) | (refine wpList_copy_all (by rfl) (.tmp 23) (.tmp 24) _ _ (by rfl) 5 Tryz.underlying34 Tryz.size_u8 _ _ (n + 0) (n + 0) n c (by rfl) (by rfl) w.heap.size 0 (n + 0) n 5 _ (U8 f) hall1 w.heap.size hA1 (Nat.min_eq_left (Nat.le_add_right n 0)).symm (fun _ => rfl) (by omega) tab_ones w hS1 (Nat.le_refl _) ?_; intro w2 hall2 hS2; clear hall1 hA1 hS1))
    go_ret
    refine ⟨_, rfl, Nat.le_refl _, (hall2.congr (fun j hj => ?_)).row, hS2⟩
    simp only [U8, IntRow, padTo, Nat.zero_le, true_and, Nat.zero_add, Nat.sub_zero]
    split <;> rfl
  · have h2' : 16 < k := by omega
    have hc : clampT k = 16 := by unfold clampT; rw [if_neg (by omega), if_pos h2']
    rw [hc]
    have hlt : missing n 16 < 16 := Nat.mod_lt _ (by omega)
    have hr1 : n % 16 < 16 := Nat.mod_lt _ (by omega)
    have hmi : ((16 : Int) - (n : Int) % 16) % 16 = (missing n 16 : Int) := by
      unfold missing; omega
    generalize missing n 16 = q at hlt hmi ⊢
    have b1 : 1 * (n + q) ≤ 281474976710656 := by omega
    have b2 : n + q ≤ maxLen := by simp only [maxLen]; omega
    clear hc
    go_enter Tryz.func66, Tryz.ntmps66
    go_wp2_with (first | (at_make; refine wpList_make_tab _ (by rfl) (.tmp 21) (.tmp 21) _ (by rfl) 5 i0 .u8 1 Tryz.underlying34 hi0 hz0 hz1 hz2 .i64 .i64 (n + q) (by rfl) (by rfl) b1 b2 ?_; intro w1 hown1 hS1; have hall1 := All.of_own hown1; have hA1 := h.since (Nat.le_refl _) hS1; clear hown1) | (refine wpList_copy_all (by rfl) (.tmp 23) (.tmp 24) _ _ (by rfl) 5 Tryz.underlying34 Tryz.size_u8 _ _ (n + q) (n + q) n c (by rfl) (by rfl) w.heap.size 0 (n + q) n 5 _ (U8 f) hall1 w.heap.size hA1 (Nat.min_eq_left (Nat.le_add_right n q)).symm (fun _ => rfl) (by omega) tab_ones w hS1 (Nat.le_refl _) ?_; intro w2 hall2 hS2; clear hall1 hA1 hS1))
    go_ret
    refine ⟨_, rfl, Nat.le_refl _, (hall2.congr (fun j hj => ?_)).row, hS2⟩
    simp only [U8, IntRow, padTo, Nat.zero_le, true_and, Nat.zero_add, Nat.sub_zero]
    split <;> rfl
end Go.Proofs.YteckkcpnfeoehaaGreatDoor

/-
  Layer 2: the reference's 'Pad', walked.
-/
namespace Go.Proofs.YteckkcpnfeoehaaGreatDoor
set_option maxRecDepth 100000
open Go.RowKit
set_option linter.unusedVariables false

def lenOf : Value → Nat
  | .slice _ n _ => n
  | _ => 0
end Go.Proofs.YteckkcpnfeoehaaGreatDoor
