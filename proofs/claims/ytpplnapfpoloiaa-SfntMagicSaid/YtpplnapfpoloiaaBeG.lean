/-
  Layer 2: the reference's 'Pad', walked.
-/
import Derived.Test.YtpplnapfpoloiaaBeF
namespace Go.Proofs.Ytpplnapfpoloiaa
open Go.RowKit
set_option linter.unusedVariables false

def lenOf : Value → Nat
  | .slice _ n _ => n
  | _ => 0
theorem missing_lt {n c j : Nat} (hc : 0 < c) (h : j < missing n c) : (n + j) % c ≠ 0 := by
  unfold missing at h
  have h1 : n % c < c := Nat.mod_lt _ hc
  rcases Nat.eq_zero_or_pos (n % c) with h0 | h0
  · rw [h0, Nat.sub_zero, Nat.mod_self] at h; omega
  · rw [Nat.mod_eq_of_lt (by omega)] at h
    rw [Nat.add_mod, Nat.mod_eq_of_lt (show j < c by omega), Nat.mod_eq_of_lt (by omega)]
    omega
theorem missing_eq {n c : Nat} (hc : 0 < c) : (n + missing n c) % c = 0 := by
  unfold missing
  have h1 : n % c < c := Nat.mod_lt _ hc
  rcases Nat.eq_zero_or_pos (n % c) with h0 | h0
  · rw [h0, Nat.sub_zero, Nat.mod_self, Nat.add_zero, h0]
  · rw [Nat.mod_eq_of_lt (show c - n % c < c by omega), Nat.add_mod, Nat.mod_eq_of_lt (show c - n % c < c by omega), show n % c + (c - n % c) = c by omega, Nat.mod_self]
theorem rd_one (w : World) (x : Int) : Rd (w.alloc (.cells #[.int .u8 x] 5)) (w.heap.size + 1) (some ⟨w.heap.size, 0, none⟩) 1 (U8 (fun _ => x)) := fun _ =>
  ⟨w.heap.size, 0, rfl, by omega, fun j hj => by
    obtain rfl : j = 0 := by omega
    rw [World.cell?_alloc_new]; rfl⟩

set_option maxHeartbeats 4000000 in
theorem ref_pad (A : Option Addr) (n c : Nat) (f : Nat → Int) (k : Int) (w : World) (h : Rd w w.heap.size A n (U8 f)) (hk : In64 k) (hn : n ≤ 140737488351232) :
    Calls Try.prog 58 #[.slice A n c, .int .i64 k] w fun e w' => ∃ g cap, e = .returned (.slice (some ⟨g, 0, none⟩) (n + missing n (clampT k)) cap) ∧ w.heap.size ≤ g ∧ Row w' g (n + missing n (clampT k)) (U8 (padTo n f)) ∧ Since w w' := by
  obtain ⟨i0, hi0, hz0, hz1, hz2⟩ := info_parts Try.info_u8
  by_cases h1 : 2 ≤ k ∧ k ≤ 16
  · obtain ⟨m, rfl⟩ : ∃ m : Nat, k = m := ⟨k.toNat, by omega⟩
    obtain ⟨h1, h2⟩ := h1
    have hm1 : 1 < m := by omega
    have hm2 : m ≤ 16 := by omega
    have hc : clampT m = m := by unfold clampT; rw [if_neg (by omega), if_neg (by omega)]; rfl
    rw [hc]
    have hlt : missing n m < m := Nat.mod_lt _ (by omega)
    have hno : ∀ j, j < missing n m → (n + j) % m ≠ 0 := fun j hj => missing_lt (by omega) hj
    have hyes : (n + missing n m) % m = 0 := missing_eq (by omega)
    generalize missing n m = q at hlt hno hyes ⊢
    clear hc
    go_enter Try.func58, Try.ntmps58
    go_wp2_with (go_at_call 28; refine (ref_copy A n c f w h (by omega)).mono ?_; rintro e w1 ⟨g, cap, rfl, hown, hS1⟩)
    clear h
    go_loopw [5] (fun v wr => ∃ j g cap : Nat, j ≤ q ∧ v = .slice (some ⟨g, 0, none⟩) (n + j) cap ∧ Since w wr ∧ Own wr w.heap.size g cap (n + j) (padTo n f)) (fun v _ => n + q - lenOf v)
    case atStart => exact ⟨0, g, cap, by omega, rfl, hS1, by
      have e : tab n (U8 f) = tab n (U8 (padTo n f)) := tab_congr (fun j hj => by simp only [U8, IntRow, padTo]; rw [if_pos hj])
      unfold Own at hown ⊢; rw [Nat.add_zero, ← e]; exact hown⟩
    case round =>
      obtain ⟨j, g, cap, hj, rfl, hSr, hO⟩ := hrel
      clear hS1 hown
      by_cases hjq : j < q
      · have hnz : (((n : Int) + (j : Int)) % (m : Int) != 0) = true := by
          have h0 := hno j hjq
          rw [bne_iff_ne]
          intro he
          exact h0 (by rw [← Int.natCast_add] at he; exact_mod_cast he)
        have q1 := own_since hO ((Since.refl wr).alloc (.cells #[.int .u8 0] 5))
        have q2 := rd_one wr 0
        have q3 : (n + j + 1) * 1 ≤ 140737488355328 := by omega
        have q4 : n + j + 1 ≤ maxLen := by simp only [maxLen]; omega
        have q5 : w.heap.size ≤ (wr.alloc (.cells #[.int .u8 0] 5)).heap.size := by have := hSr.below.size; simp; omega
        have q6 : w.heap.size ≤ g := own_base hO
        clear hno hyes
        go_wp2_with (at_builtin; refine wpList_append_rd _ (by rfl) (.tmp 15) (.tmp 16) _ (by rfl) w.heap.size 5 i0 _ 1 Try.underlying26 hi0 hz0 hz1 hz2 (by rfl) g cap (n + j) _ (by rfl) q1 (wr.heap.size + 1) _ 1 1 (U8 (fun _ => 0)) (by rfl) q2 tab_ones q3 q4 q5 ?_; intro g' cap' w2 hown2 hg2 hat2; clear q1 q2 q3 q4 q5)
        refine ⟨⟨j + 1, g', cap', by omega, rfl, since_grown (hSr.alloc _) hg2 (fun k hk => by injection hk with hk; omega), ?_⟩, by simp [lenOf] <;> omega⟩
        unfold Own
        rw [tab_append] at hown2
        have e : tab (n + j + 1) (fun t => if t < n + j then U8 (padTo n f) t else U8 (fun _ => 0) (t - (n + j))) = tab (n + j + 1) (U8 (padTo n f)) := by
          refine tab_congr fun t ht => ?_
          by_cases htn : t < n + j
          · simp only [if_pos htn]
          · simp only [if_neg htn, U8, IntRow, padTo]
            rw [if_neg (by omega)]
        rw [e] at hown2
        exact hown2
      · obtain rfl : q = j := by omega
        have hz : ((n : Int) + (q : Int)) % (m : Int) = 0 := by exact_mod_cast hyes
        have hR := row_of_own hO
        have q6 : w.heap.size ≤ g := own_base hO
        clear hno hyes hO
        go_wp2
        go_ret
        exact ⟨g, cap, rfl, q6, hR, hSr⟩
  by_cases h2 : k ≤ 1
  · have hc : clampT k = 1 := by unfold clampT; split <;> (try split) <;> omega
    rw [hc]
    have hlt : missing n 1 < 1 := Nat.mod_lt _ (by omega)
    have hno : ∀ j, j < missing n 1 → (n + j) % 1 ≠ 0 := fun j hj => missing_lt (by omega) hj
    have hyes : (n + missing n 1) % 1 = 0 := missing_eq (by omega)
    generalize missing n 1 = q at hlt hno hyes ⊢
    clear hc
    go_enter Try.func58, Try.ntmps58
    go_wp2_with (go_at_call 28; refine (ref_copy A n c f w h (by omega)).mono ?_; rintro e w1 ⟨g, cap, rfl, hown, hS1⟩)
    clear h
    go_loopw [5] (fun v wr => ∃ j g cap : Nat, j ≤ q ∧ v = .slice (some ⟨g, 0, none⟩) (n + j) cap ∧ Since w wr ∧ Own wr w.heap.size g cap (n + j) (padTo n f)) (fun v _ => n + q - lenOf v)
    case atStart => exact ⟨0, g, cap, by omega, rfl, hS1, by
      have e : tab n (U8 f) = tab n (U8 (padTo n f)) := tab_congr (fun j hj => by simp only [U8, IntRow, padTo]; rw [if_pos hj])
      unfold Own at hown ⊢; rw [Nat.add_zero, ← e]; exact hown⟩
    case round =>
      obtain ⟨j, g, cap, hj, rfl, hSr, hO⟩ := hrel
      clear hS1 hown
      by_cases hjq : j < q
      · exact absurd hjq (by omega)
      · obtain rfl : q = j := by omega
        have hz : ((n : Int) + (q : Int)) % (1 : Int) = 0 := by exact_mod_cast hyes
        have hR := row_of_own hO
        have q6 : w.heap.size ≤ g := own_base hO
        clear hno hyes hO
        go_wp2
        go_ret
        exact ⟨g, cap, rfl, q6, hR, hSr⟩
  · have h2' : 16 < k := by omega
    have hc : clampT k = 16 := by unfold clampT; rw [if_neg (by omega), if_pos h2']
    rw [hc]
    have hlt : missing n 16 < 16 := Nat.mod_lt _ (by omega)
    have hno : ∀ j, j < missing n 16 → (n + j) % 16 ≠ 0 := fun j hj => missing_lt (by omega) hj
    have hyes : (n + missing n 16) % 16 = 0 := missing_eq (by omega)
    generalize missing n 16 = q at hlt hno hyes ⊢
    clear hc
    go_enter Try.func58, Try.ntmps58
    go_wp2_with (go_at_call 28; refine (ref_copy A n c f w h (by omega)).mono ?_; rintro e w1 ⟨g, cap, rfl, hown, hS1⟩)
    clear h
    go_loopw [5] (fun v wr => ∃ j g cap : Nat, j ≤ q ∧ v = .slice (some ⟨g, 0, none⟩) (n + j) cap ∧ Since w wr ∧ Own wr w.heap.size g cap (n + j) (padTo n f)) (fun v _ => n + q - lenOf v)
    case atStart => exact ⟨0, g, cap, by omega, rfl, hS1, by
      have e : tab n (U8 f) = tab n (U8 (padTo n f)) := tab_congr (fun j hj => by simp only [U8, IntRow, padTo]; rw [if_pos hj])
      unfold Own at hown ⊢; rw [Nat.add_zero, ← e]; exact hown⟩
    case round =>
      obtain ⟨j, g, cap, hj, rfl, hSr, hO⟩ := hrel
      clear hS1 hown
      by_cases hjq : j < q
      · have hnz : (((n : Int) + (j : Int)) % (16 : Int) != 0) = true := by
          have h0 := hno j hjq
          rw [bne_iff_ne]
          intro he
          exact h0 (by rw [← Int.natCast_add] at he; exact_mod_cast he)
        have q1 := own_since hO ((Since.refl wr).alloc (.cells #[.int .u8 0] 5))
        have q2 := rd_one wr 0
        have q3 : (n + j + 1) * 1 ≤ 140737488355328 := by omega
        have q4 : n + j + 1 ≤ maxLen := by simp only [maxLen]; omega
        have q5 : w.heap.size ≤ (wr.alloc (.cells #[.int .u8 0] 5)).heap.size := by have := hSr.below.size; simp; omega
        have q6 : w.heap.size ≤ g := own_base hO
        clear hno hyes
        go_wp2_with (at_builtin; refine wpList_append_rd _ (by rfl) (.tmp 15) (.tmp 16) _ (by rfl) w.heap.size 5 i0 _ 1 Try.underlying26 hi0 hz0 hz1 hz2 (by rfl) g cap (n + j) _ (by rfl) q1 (wr.heap.size + 1) _ 1 1 (U8 (fun _ => 0)) (by rfl) q2 tab_ones q3 q4 q5 ?_; intro g' cap' w2 hown2 hg2 hat2; clear q1 q2 q3 q4 q5)
        refine ⟨⟨j + 1, g', cap', by omega, rfl, since_grown (hSr.alloc _) hg2 (fun k hk => by injection hk with hk; omega), ?_⟩, by simp [lenOf] <;> omega⟩
        unfold Own
        rw [tab_append] at hown2
        have e : tab (n + j + 1) (fun t => if t < n + j then U8 (padTo n f) t else U8 (fun _ => 0) (t - (n + j))) = tab (n + j + 1) (U8 (padTo n f)) := by
          refine tab_congr fun t ht => ?_
          by_cases htn : t < n + j
          · simp only [if_pos htn]
          · simp only [if_neg htn, U8, IntRow, padTo]
            rw [if_neg (by omega)]
        rw [e] at hown2
        exact hown2
      · obtain rfl : q = j := by omega
        have hz : ((n : Int) + (q : Int)) % (16 : Int) = 0 := by exact_mod_cast hyes
        have hR := row_of_own hO
        have q6 : w.heap.size ≤ g := own_base hO
        clear hno hyes hO
        go_wp2
        go_ret
        exact ⟨g, cap, rfl, q6, hR, hSr⟩
end Go.Proofs.Ytpplnapfpoloiaa
