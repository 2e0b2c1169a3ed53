/-
  Texts of this seat, put together: each with its own head.
-/
import Derived.Test.YteckkcpnfeoehaaGreatDoorMnAd

/-
  Layer 2: 'Pad', walked, program and reference.
-/
namespace Go.Proofs.YteckkcpnfeoehaaGreatDoor
set_option maxRecDepth 100000
open Go.RowKit
set_option linter.unusedVariables false

def clampT (k : Int) : Nat := if k < 1 then 1 else if 16 < k then 16 else k.toNat
/-- How many noughts are missing. -/
def missing (n c : Nat) : Nat := (c - n % c) % c
theorem Tryz.size_u8 : (Tryz.prog.info? 5).map (·.size) = some 1 := by kernel_rfl
def padTo (n : Nat) (f : Nat → Int) (j : Nat) : Int := if j < n then f j else 0

set_option maxHeartbeats 4000000 in
theorem be_pad (A : Option Addr) (n c : Nat) (f : Nat → Int) (k : Int) (w : World) (h : Rd w w.heap.size A n (U8 f)) (hk : In64 k) (hn : n ≤ 140737488355328) :
    Calls Tryz.prog 66 #[.slice A n c, .int .i64 k] w fun e w' => ∃ g, e = .returned (.slice (some ⟨g, 0, none⟩) (n + missing n (clampT k)) (n + missing n (clampT k))) ∧ w.heap.size ≤ g ∧ Row w' g (n + missing n (clampT k)) (U8 (padTo n f)) ∧ Since w w' := by
  obtain ⟨i0, hi0, hz0, hz1, hz2⟩ := info_parts Tryz.info_u8
  by_cases h1 : 1 ≤ k ∧ k ≤ 16
  · obtain ⟨m, rfl⟩ : ∃ m : Nat, k = m := ⟨k.toNat, by omega⟩
    obtain ⟨h1, h2⟩ := h1
    have hm1 : 1 ≤ m := by omega
    have hm2 : m ≤ 16 := by omega
    have hc : clampT m = m := by unfold clampT; rw [if_neg (by omega), if_neg (by omega)]; rfl
    rw [hc]
    have hlt : missing n m < m := Nat.mod_lt _ (by omega)
    have hr1 : n % m < m := Nat.mod_lt _ (by omega)
    have hmi : ((m : Int) - (n : Int) % (m : Int)) % (m : Int) = (missing n m : Int) := by
      unfold missing
      rw [Int.natCast_emod, Int.natCast_sub (by omega), Int.natCast_emod]
    generalize missing n m = q at hlt hmi ⊢
    have b1 : 1 * (n + q) ≤ 281474976710656 := by omega
    have b2 : n + q ≤ maxLen := by simp only [maxLen]; omega
    clear hc
    go_enter Tryz.func66, Tryz.ntmps66
    go_wp2_with (first | (at_make; refine wpList_make_tab _ (by rfl) (.tmp 21) (.tmp 21) _ (by rfl) 5 i0 .u8 1 Tryz.underlying34 hi0 hz0 hz1 hz2 .i64 .i64 (n + q) (by rfl) (by rfl) b1 b2 ?_; intro w1 hown1 hS1; have hall1 := All.of_own hown1; have hA1 := h.since (Nat.le_refl _) hS1; clear hown1) | (refine wpList_copy_all (by rfl) (.tmp 23) (.tmp 24) _ _ (by rfl) 5 Tryz.underlying34 Tryz.size_u8 _ _ (n + q) (n + q) n c (by rfl) (by rfl) w.heap.size 0 (n + q) n 5 _ (U8 f) hall1 w.heap.size hA1 (Nat.min_eq_left (Nat.le_add_right n q)).symm (fun _ => rfl) (by omega) tab_ones w hS1 (Nat.le_refl _) ?_; intro w2 hall2 hS2; clear hall1 hA1 hS1))
    go_ret
    refine ⟨_, rfl, Nat.le_refl _, (hall2.congr (fun j hj => ?_)).row, hS2⟩
    simp only [U8, IntRow, padTo, Nat.zero_le, true_and, Nat.zero_add, Nat.sub_zero]
    split <;> rfl
  by_cases h2 : k < 1
  · have hc : clampT k = 1 := by unfold clampT; rw [if_pos h2]
    rw [hc]
    have hq : missing n 1 = 0 := by unfold missing; omega
    rw [hq]
    have b1 : 1 * (n + 0) ≤ 281474976710656 := by omega
    have b2 : n + 0 ≤ maxLen := by simp only [maxLen]; omega
    clear hq hc
    go_enter Tryz.func66, Tryz.ntmps66
    go_wp2_with (first | (at_make; refine wpList_make_tab _ (by rfl) (.tmp 21) (.tmp 21) _ (by rfl) 5 i0 .u8 1 Tryz.underlying34 hi0 hz0 hz1 hz2 .i64 .i64 (n + 0) (by rfl) (by rfl) b1 b2 ?_; intro w1 hown1 hS1; have hall1 := All.of_own hown1; have hA1 := h.since (Nat.le_refl _) hS1; clear hown1) | (refine wpList_copy_all (by rfl) (.tmp 23) (.tmp 24) _ _ (by rfl) 5 Tryz.underlying34 Tryz.size_u8 _ _ (n + 0) (n + 0) n c (by rfl) (by rfl) w.heap.size 0 (n + 0) n 5 _ (U8 f) hall1 w.heap.size hA1 (Nat.min_eq_left (Nat.le_add_right n 0)).symm (fun _ => rfl) (by omega) tab_ones w hS1 (Nat.le_refl _) ?_; intro w2 hall2 hS2; clear hall1 hA1 hS1))
    go_ret
    refine ⟨_, rfl, Nat.le_refl _, (hall2.congr (fun j hj => ?_)).row, hS2⟩
    simp only [U8, IntRow, padTo, Nat.zero_le, true_and, Nat.zero_add, Nat.sub_zero]
    split <;> rfl
  · have h2' : 16 < k := by omega
    have hc : clampT k = 16 := by unfold clampT; rw [if_neg (by omega), if_pos h2']
    rw [hc]
    have hlt : missing n 16 < 16 := Nat.mod_lt _ (by omega)
    have hr1 : n % 16 < 16 := Nat.mod_lt _ (by omega)
    have hmi : ((16 : Int) - (n : Int) % 16) % 16 = (missing n 16 : Int) := by
      unfold missing; omega
    generalize missing n 16 = q at hlt hmi ⊢
    have b1 : 1 * (n + q) ≤ 281474976710656 := by omega
    have b2 : n + q ≤ maxLen := by simp only [maxLen]; omega
    clear hc
    go_enter Tryz.func66, Tryz.ntmps66
    go_wp2_with (first | (at_make; refine wpList_make_tab _ (by rfl) (.tmp 21) (.tmp 21) _ (by rfl) 5 i0 .u8 1 Tryz.underlying34 hi0 hz0 hz1 hz2 .i64 .i64 (n + q) (by rfl) (by rfl) b1 b2 ?_; intro w1 hown1 hS1; have hall1 := All.of_own hown1; have hA1 := h.since (Nat.le_refl _) hS1; clear hown1) | (refine wpList_copy_all (by rfl) (.tmp 23) (.tmp 24) _ _ (by rfl) 5 Tryz.underlying34 Tryz.size_u8 _ _ (n + q) (n + q) n c (by rfl) (by rfl) w.heap.size 0 (n + q) n 5 _ (U8 f) hall1 w.heap.size hA1 (Nat.min_eq_left (Nat.le_add_right n q)).symm (fun _ => rfl) (by omega) tab_ones w hS1 (Nat.le_refl _) ?_; intro w2 hall2 hS2; clear hall1 hA1 hS1))
    go_ret
    refine ⟨_, rfl, Nat.le_refl _, (hall2.congr (fun j hj => ?_)).row, hS2⟩
    simp only [U8, IntRow, padTo, Nat.zero_le, true_and, Nat.zero_add, Nat.sub_zero]
    split <;> rfl
end Go.Proofs.YteckkcpnfeoehaaGreatDoor

/-
  Layer 2: the reference's 'Pad', walked.
-/
namespace Go.Proofs.YteckkcpnfeoehaaGreatDoor
set_option maxRecDepth 100000
open Go.RowKit
set_option linter.unusedVariables false

def lenOf : Value → Nat
  | .slice _ n _ => n
  | _ => 0
theorem missing_lt {n c j : Nat} (hc : 0 < c) (h : j < missing n c) : (n + j) % c ≠ 0 := by
  unfold missing at h
  have h1 : n % c < c := Nat.mod_lt _ hc
  rcases Nat.eq_zero_or_pos (n % c) with h0 | h0
  · rw [h0, Nat.sub_zero, Nat.mod_self] at h; omega
  · rw [Nat.mod_eq_of_lt (by omega)] at h
    rw [Nat.add_mod, Nat.mod_eq_of_lt (show j < c by omega), Nat.mod_eq_of_lt (by omega)]
    omega
theorem missing_eq {n c : Nat} (hc : 0 < c) : (n + missing n c) % c = 0 := by
  unfold missing
  have h1 : n % c < c := Nat.mod_lt _ hc
  rcases Nat.eq_zero_or_pos (n % c) with h0 | h0
  · rw [h0, Nat.sub_zero, Nat.mod_self, Nat.add_zero, h0]
  · rw [Nat.mod_eq_of_lt (show c - n % c < c by omega), Nat.add_mod, Nat.mod_eq_of_lt (show c - n % c < c by omega), show n % c + (c - n % c) = c by omega, Nat.mod_self]
theorem rd_one (w : World) (x : Int) : Rd (w.alloc (.cells #[.int .u8 x] 5)) (w.heap.size + 1) (some ⟨w.heap.size, 0, none⟩) 1 (U8 (fun _ => x)) := fun _ =>
  ⟨w.heap.size, 0, rfl, by omega, fun j hj => by
    obtain rfl : j = 0 := by omega
    rw [World.cell?_alloc_new]; rfl⟩

set_option maxHeartbeats 4000000 in
theorem ref_pad (A : Option Addr) (n c : Nat) (f : Nat → Int) (k : Int) (w : World) (h : Rd w w.heap.size A n (U8 f)) (hk : In64 k) (hn : n ≤ 140737488351232) :
    Calls Tryz.prog 81 #[.slice A n c, .int .i64 k] w fun e w' => ∃ g cap, e = .returned (.slice (some ⟨g, 0, none⟩) (n + missing n (clampT k)) cap) ∧ w.heap.size ≤ g ∧ Row w' g (n + missing n (clampT k)) (U8 (padTo n f)) ∧ Since w w' := by
  obtain ⟨i0, hi0, hz0, hz1, hz2⟩ := info_parts Tryz.info_u8
  by_cases h1 : 2 ≤ k ∧ k ≤ 16
  · obtain ⟨m, rfl⟩ : ∃ m : Nat, k = m := ⟨k.toNat, by omega⟩
    obtain ⟨h1, h2⟩ := h1
    have hm1 : 1 < m := by omega
    have hm2 : m ≤ 16 := by omega
    have hc : clampT m = m := by unfold clampT; rw [if_neg (by omega), if_neg (by omega)]; rfl
    rw [hc]
    have hlt : missing n m < m := Nat.mod_lt _ (by omega)
    have hno : ∀ j, j < missing n m → (n + j) % m ≠ 0 := fun j hj => missing_lt (by omega) hj
    have hyes : (n + missing n m) % m = 0 := missing_eq (by omega)
    generalize missing n m = q at hlt hno hyes ⊢
    clear hc
    go_enter Tryz.func81, Tryz.ntmps81
    go_wp2_with (go_at_call 24; refine (ref_copy A n c f w h (by omega)).mono ?_; rintro e w1 ⟨g, cap, rfl, hown, hS1⟩)
    clear h
    go_loopw [5] (fun v wr => ∃ j g cap : Nat, j ≤ q ∧ v = .slice (some ⟨g, 0, none⟩) (n + j) cap ∧ Since w wr ∧ Own wr w.heap.size g cap (n + j) (padTo n f)) (fun v _ => n + q - lenOf v)
    case atStart => exact ⟨0, g, cap, by omega, rfl, hS1, by
      have e : tab n (U8 f) = tab n (U8 (padTo n f)) := tab_congr (fun j hj => by simp only [U8, IntRow, padTo]; rw [if_pos hj])
      unfold Own at hown ⊢; rw [Nat.add_zero, ← e]; exact hown⟩
    case round =>
      obtain ⟨j, g, cap, hj, rfl, hSr, hO⟩ := hrel
      clear hS1 hown
      by_cases hjq : j < q
      · have hnz : (((n : Int) + (j : Int)) % (m : Int) != 0) = true := by
          have h0 := hno j hjq
          rw [bne_iff_ne]
          intro he
          exact h0 (by rw [← Int.natCast_add] at he; exact_mod_cast he)
        have q1 := own_since hO ((Since.refl wr).alloc (.cells #[.int .u8 0] 5))
        have q2 := rd_one wr 0
        have q3 : (n + j + 1) * 1 ≤ 140737488355328 := by omega
        have q4 : n + j + 1 ≤ maxLen := by simp only [maxLen]; omega
        have q5 : w.heap.size ≤ (wr.alloc (.cells #[.int .u8 0] 5)).heap.size := by have := hSr.below.size; simp; omega
        have q6 : w.heap.size ≤ g := own_base hO
        clear hno hyes
        go_wp2_with (at_builtin; refine wpList_append_rd _ (by rfl) (.tmp 15) (.tmp 16) _ (by rfl) w.heap.size 5 i0 _ 1 Tryz.underlying34 hi0 hz0 hz1 hz2 (by rfl) g cap (n + j) _ (by rfl) q1 (wr.heap.size + 1) _ 1 1 (U8 (fun _ => 0)) (by rfl) q2 tab_ones q3 q4 q5 ?_; intro g' cap' w2 hown2 hg2 hat2; clear q1 q2 q3 q4 q5)
        refine ⟨⟨j + 1, g', cap', by omega, rfl, since_grown (hSr.alloc _) hg2 (fun k hk => by injection hk with hk; omega), ?_⟩, by simp [lenOf] <;> omega⟩
        unfold Own
        rw [tab_append] at hown2
        have e : tab (n + j + 1) (fun t => if t < n + j then U8 (padTo n f) t else U8 (fun _ => 0) (t - (n + j))) = tab (n + j + 1) (U8 (padTo n f)) := by
          refine tab_congr fun t ht => ?_
          by_cases htn : t < n + j
          · simp only [if_pos htn]
          · simp only [if_neg htn, U8, IntRow, padTo]
            rw [if_neg (by omega)]
        rw [e] at hown2
        exact hown2
      · obtain rfl : q = j := by omega
        have hz : ((n : Int) + (q : Int)) % (m : Int) = 0 := by exact_mod_cast hyes
        have hR := row_of_own hO
        have q6 : w.heap.size ≤ g := own_base hO
        clear hno hyes hO
        go_wp2
        go_ret
        exact ⟨g, cap, rfl, q6, hR, hSr⟩
  by_cases h2 : k ≤ 1
  · have hc : clampT k = 1 := by unfold clampT; split <;> (try split) <;> omega
    rw [hc]
    have hlt : missing n 1 < 1 := Nat.mod_lt _ (by omega)
    have hno : ∀ j, j < missing n 1 → (n + j) % 1 ≠ 0 := fun j hj => missing_lt (by omega) hj
    have hyes : (n + missing n 1) % 1 = 0 := missing_eq (by omega)
    generalize missing n 1 = q at hlt hno hyes ⊢
    clear hc
    go_enter Tryz.func81, Tryz.ntmps81
    go_wp2_with (go_at_call 24; refine (ref_copy A n c f w h (by omega)).mono ?_; rintro e w1 ⟨g, cap, rfl, hown, hS1⟩)
    clear h
    go_loopw [5] (fun v wr => ∃ j g cap : Nat, j ≤ q ∧ v = .slice (some ⟨g, 0, none⟩) (n + j) cap ∧ Since w wr ∧ Own wr w.heap.size g cap (n + j) (padTo n f)) (fun v _ => n + q - lenOf v)
    case atStart => exact ⟨0, g, cap, by omega, rfl, hS1, by
      have e : tab n (U8 f) = tab n (U8 (padTo n f)) := tab_congr (fun j hj => by simp only [U8, IntRow, padTo]; rw [if_pos hj])
      unfold Own at hown ⊢; rw [Nat.add_zero, ← e]; exact hown⟩
    case round =>
      obtain ⟨j, g, cap, hj, rfl, hSr, hO⟩ := hrel
      clear hS1 hown
      by_cases hjq : j < q
      · exact absurd hjq (by omega)
      · obtain rfl : q = j := by omega
        have hz : ((n : Int) + (q : Int)) % (1 : Int) = 0 := by exact_mod_cast hyes
        have hR := row_of_own hO
        have q6 : w.heap.size ≤ g := own_base hO
        clear hno hyes hO
        go_wp2
        go_ret
        exact ⟨g, cap, rfl, q6, hR, hSr⟩
  · have h2' : 16 < k := by omega
    have hc : clampT k = 16 := by unfold clampT; rw [if_neg (by omega), if_pos h2']
    rw [hc]
    have hlt : missing n 16 < 16 := Nat.mod_lt _ (by omega)
    have hno : ∀ j, j < missing n 16 → (n + j) % 16 ≠ 0 := fun j hj => missing_lt (by omega) hj
    have hyes : (n + missing n 16) % 16 = 0 := missing_eq (by omega)
    generalize missing n 16 = q at hlt hno hyes ⊢
    clear hc
    go_enter Tryz.func81, Tryz.ntmps81
    go_wp2_with (go_at_call 24; refine (ref_copy A n c f w h (by omega)).mono ?_; rintro e w1 ⟨g, cap, rfl, hown, hS1⟩)
    clear h
    go_loopw [5] (fun v wr => ∃ j g cap : Nat, j ≤ q ∧ v = .slice (some ⟨g, 0, none⟩) (n + j) cap ∧ Since w wr ∧ Own wr w.heap.size g cap (n + j) (padTo n f)) (fun v _ => n + q - lenOf v)
    case atStart => exact ⟨0, g, cap, by omega, rfl, hS1, by
      have e : tab n (U8 f) = tab n (U8 (padTo n f)) := tab_congr (fun j hj => by simp only [U8, IntRow, padTo]; rw [if_pos hj])
      unfold Own at hown ⊢; rw [Nat.add_zero, ← e]; exact hown⟩
    case round =>
      obtain ⟨j, g, cap, hj, rfl, hSr, hO⟩ := hrel
      clear hS1 hown
      by_cases hjq : j < q
      · have hnz : (((n : Int) + (j : Int)) % (16 : Int) != 0) = true := by
          have h0 := hno j hjq
          rw [bne_iff_ne]
          intro he
          exact h0 (by rw [← Int.natCast_add] at he; exact_mod_cast he)
        have q1 := own_since hO ((Since.refl wr).alloc (.cells #[.int .u8 0] 5))
        have q2 := rd_one wr 0
        have q3 : (n + j + 1) * 1 ≤ 140737488355328 := by omega
        have q4 : n + j + 1 ≤ maxLen := by simp only [maxLen]; omega
        have q5 : w.heap.size ≤ (wr.alloc (.cells #[.int .u8 0] 5)).heap.size := by have := hSr.below.size; simp; omega
        have q6 : w.heap.size ≤ g := own_base hO
        clear hno hyes
        go_wp2_with (at_builtin; refine wpList_append_rd _ (by rfl) (.tmp 15) (.tmp 16) _ (by rfl) w.heap.size 5 i0 _ 1 Tryz.underlying34 hi0 hz0 hz1 hz2 (by rfl) g cap (n + j) _ (by rfl) q1 (wr.heap.size + 1) _ 1 1 (U8 (fun _ => 0)) (by rfl) q2 tab_ones q3 q4 q5 ?_; intro g' cap' w2 hown2 hg2 hat2; clear q1 q2 q3 q4 q5)
        refine ⟨⟨j + 1, g', cap', by omega, rfl, since_grown (hSr.alloc _) hg2 (fun k hk => by injection hk with hk; omega), ?_⟩, by simp [lenOf] <;> omega⟩
        unfold Own
        rw [tab_append] at hown2
        have e : tab (n + j + 1) (fun t => if t < n + j then U8 (padTo n f) t else U8 (fun _ => 0) (t - (n + j))) = tab (n + j + 1) (U8 (padTo n f)) := by
          refine tab_congr fun t ht => ?_
          by_cases htn : t < n + j
          · simp only [if_pos htn]
          · simp only [if_neg htn, U8, IntRow, padTo]
            rw [if_neg (by omega)]
        rw [e] at hown2
        exact hown2
      · obtain rfl : q = j := by omega
        have hz : ((n : Int) + (q : Int)) % (16 : Int) = 0 := by exact_mod_cast hyes
        have hR := row_of_own hO
        have q6 : w.heap.size ≤ g := own_base hO
        clear hno hyes hO
        go_wp2
        go_ret
        exact ⟨g, cap, rfl, q6, hR, hSr⟩
end Go.Proofs.YteckkcpnfeoehaaGreatDoor
