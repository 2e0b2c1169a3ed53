/-
  Layer 3: the law TabsumPieces, walked.
-/
import Derived.Test.YtaojdflnfdabhaaTsD
import Derived.Test.YtaojdflnfdabhaaKit8
namespace Go.Proofs.Ytaojdflnfdabhaa
open Go.RowKit
set_option linter.unusedVariables false

theorem tab_catG (n m : Nat) (f o : Nat → Int) : tab n (U8 f) ++ tab m (U8 o) = tab (n + m) (U8 (catG n f o)) := by
  rw [tab_append]
  congr 1
  funext j
  simp only [U8, IntRow, catG]
  split <;> rfl

set_option maxHeartbeats 4000000 in
theorem walk_pieces (A B : Option Addr) (n c m d : Nat) (AA : Nat → Option Addr) (LL CC : Nat → Nat) (Z : Nat → Nat → Int) (o : Nat → Int) (w : World) (h : Rd w w.heap.size A n (fun j => .slice (AA j) (LL j) (CC j)))
    (hrows : ∀ j, j < n → LL j ≤ CC j ∧ CC j ≤ maxLen ∧ Rd w w.heap.size (AA j) (LL j) (U8 (Z j)) ∧ ∀ i, i < LL j → 0 ≤ Z j i ∧ Z j i ≤ 255) (hB : Rd w w.heap.size B m (U8 o)) (ho : ∀ j, j < m → 0 ≤ o j ∧ o j ≤ 255) (hn : n ≤ maxLen) (hm : m ≤ 140737488355328) :
    Calls Try.prog 9 #[.slice A n c, .slice B m d] w fun e w' => e = .returned (.bool true) ∧ Since w w' := by
  obtain ⟨i0, hi0, hz0, hz1, hz2⟩ := info_parts Try.info_u8
  have hn' : (n : Int) ≤ 9223372036854775807 := by simp only [maxLen] at hn; omega
  by_cases hbig : (50 : Int) < n
  · have d1 : decide ((50 : Int) < n) = true := by simpa using hbig
    clear h hrows hB ho
    go_enter Try.func9, Try.ntmps9
    go_wp2_with (go_at_call 28; refine (alive03 _).mono ?_; rintro e w1 ⟨rfl, hS1⟩)
    go_ret
    exact ⟨rfl, hS1⟩
  have d1 : decide ((50 : Int) < n) = false := by simpa using hbig
  by_cases hbig2 : (5000 : Int) < m
  · have d2 : decide ((5000 : Int) < m) = true := by simpa using hbig2
    clear h hrows hB ho hbig
    go_enter Try.func9, Try.ntmps9
    go_wp2_with (go_at_call 28; refine (alive03 _).mono ?_; rintro e w1 ⟨rfl, hS1⟩)
    go_ret
    exact ⟨rfl, hS1⟩
  · have d2 : decide ((5000 : Int) < m) = false := by simpa using hbig2
    have hn50 : n ≤ 50 := by omega
    have hm5 : m ≤ 5000 := by omega
    clear hbig hbig2
    go_enter Try.func9, Try.ntmps9
    go_wp2_with (go_at_call 28; refine (alive03 _).mono ?_; rintro e w1 ⟨rfl, hS1⟩)
    go_loopw [5, 6, 8, 9, 22] (fun v x _ _ y wr => ∃ (r N : Nat) (F : Nat → Int) (z : Int), r ≤ n ∧ y = .int .i64 (r : Int) ∧ x = .int .u32 z ∧ Hid (z = accu 0 F N) ∧ 0 ≤ z ∧ z < 4294967296 ∧ N % 4 = 0 ∧ N ≤ 2000 * r ∧ wr.ownsRow w1.heap.size 5 1 v N (tab N (U8 F)) ∧ (∀ j, j < N → 0 ≤ F j ∧ F j ≤ 255) ∧ Since w1 wr) (fun _ _ _ _ y _ => n - (intOf y).toNat)
    case atStart => exact ⟨0, 0, fun _ => 0, 0, by omega, rfl, rfl, Lib.hid rfl, by omega, by omega, rfl, by omega, World.ownsRow_nil _ _ _ _, fun j hj => absurd hj (by omega), Since.refl _⟩
    case round =>
      obtain ⟨r, N, F, z, hr, rfl, rfl, HZ, hzl, hzu, hN4, hN, hown, hF, hSr⟩ := hrel
      by_cases hrn : r < n
      · have hrn' : (r : Int) < n := by omega
        obtain ⟨bb, oo, rfl, hbb, hcell⟩ := h (by omega)
        have hx : wr.cell? ⟨bb, oo + r, none⟩ = some (.slice (AA r) (LL r) (CC r)) := by rw [hSr.1 _ _ (by have := hS1.below.size; omega), hS1.1 _ _ hbb]; exact hcell r hrn
        obtain ⟨hL1, hL2, hRr, hZr⟩ := hrows r hrn
        have hRw := hRr.on hS1
        generalize AA r = a1 at *
        generalize LL r = l1 at *
        generalize CC r = c1 at *
        generalize Z r = f1 at *
        have hl1 : (l1 : Int) ≤ 9223372036854775807 := by simp only [maxLen] at hL2; omega
        by_cases h2000 : (2000 : Int) < l1
        · have d3 : decide ((2000 : Int) < l1) = true := by simpa using h2000
          have hS := hS1.trans hSr
          clear h hrows hB ho hcell hRr hRw hF hown HZ
          go_wp2
          go_ret
          exact ⟨rfl, hS⟩
        · have d3 : decide ((2000 : Int) < l1) = false := by simpa using h2000
          obtain ⟨q, hq⟩ : ∃ q : Nat, l1 / 4 = q := ⟨_, rfl⟩
          have hq1 : (l1 : Int) / 4 = (q : Int) := by omega
          have hql : q * 4 ≤ l1 := by omega
          have hqc : (q : Int) * 4 ≤ c1 := by omega
          have hq5 : q ≤ 500 := by omega
          have hf4 : ∀ j, j < q * 4 → 0 ≤ f1 j ∧ f1 j ≤ 255 := fun j hj => hZr j (by omega)
          have hRq1 := hRw.take hql
          have hRq := hRq1.on hSr
          have b1 : (N + q * 4) * 1 ≤ 140737488355328 := by omega
          have b2 : N + q * 4 ≤ maxLen := by simp only [maxLen]; omega
          have q5 : w1.heap.size ≤ wr.heap.size := hSr.below.size
          have hacc := accu_cat (s := 0) (f := F) (g := f1) hN4 (q * 4)
          rw [← HZ.out] at hacc
          have HA := Lib.hid hacc
          have hzr := accu_range (f := f1) ⟨hzl, hzu⟩ (q * 4)
          clear h hrows hB ho hcell hRr hRw hZr h2000 hq hacc HZ
          go_wp2_with (first | (at_builtin; obtain ⟨vA, vc, hv, hvc, hvr, hvb⟩ := own_any hown; refine wpList_append_any _ (by rfl) _ _ _ (by rfl) w1.heap.size 5 i0 _ 1 Try.underlying22 hi0 hz0 hz1 hz2 (by rfl) _ N _ (by rfl) hown wr.heap.size a1 (q * 4) c1 (U8 f1) (by rfl) hRq tab_ones b1 b2 q5 ?_; intro v' w2 hown2 hgr2; have hS2 := since_grown hSr hgr2 hvb; rw [tab_catG] at hown2; have hR2 := hRq1.on hS2; clear hv hvr hvb hown hgr2 hvc) | (go_at_call 31; refine (ts_more z a1 (q * 4) c1 f1 w2 hR2 hf4 ⟨hzl, hzu⟩ (by omega)).mono ?_; rintro e w2 ⟨rfl, rfl⟩))
          refine ⟨⟨r + 1, N + q * 4, catG N F f1, _, by omega, by simp, rfl, Lib.hid HA.out.symm, hzr.1, hzr.2, by omega, by omega, hown2, catG_range hF hf4, hS2⟩, by simp [intOf]; omega⟩
      · obtain rfl : r = n := by omega
        have b1 : (N + m) * 1 ≤ 140737488355328 := by omega
        have b2 : N + m ≤ maxLen := by simp only [maxLen]; omega
        have q5 : w1.heap.size ≤ wr.heap.size := hSr.below.size
        have hB1 := hB.on hS1
        have hBr := hB1.on hSr
        have hacc := accu_cat (s := 0) (f := F) (g := o) hN4 m
        rw [← HZ.out] at hacc
        have HA := Lib.hid hacc
        have hrg := catG_range hF ho
        clear h hrows hB hacc HZ
        go_wp2_with (first | (at_builtin; obtain ⟨vA, vc, hv, hvc, hvr, hvb⟩ := own_any hown; refine wpList_append_any _ (by rfl) _ _ _ (by rfl) w1.heap.size 5 i0 _ 1 Try.underlying22 hi0 hz0 hz1 hz2 (by rfl) _ N _ (by rfl) hown wr.heap.size B m d (U8 o) (by rfl) hBr tab_ones b1 b2 q5 ?_; intro v' w2 hown2 hgr2; have hS2 := since_grown hSr hgr2 hvb; rw [tab_catG] at hown2; have hR2 := hB1.on hS2; clear hv hvr hvb hown hgr2 hvc; obtain ⟨A3, c3, rfl, hc3, hR3, _⟩ := own_any hown2; clear hown2) | (go_at_call 29; refine (ts_sum A3 (N + m) c3 _ w2 hR3 hrg (by omega)).mono ?_; rintro e w2 ⟨rfl, rfl⟩; rw [HA.out]) | (go_at_call 31; refine (ts_more z B m d o w2 hR2 ho ⟨hzl, hzu⟩ (by omega)).mono ?_; rintro e w2 ⟨rfl, rfl⟩))
        go_ret
        exact ⟨by first | rfl | simp, hS1.trans hS2⟩
end Go.Proofs.Ytaojdflnfdabhaa
