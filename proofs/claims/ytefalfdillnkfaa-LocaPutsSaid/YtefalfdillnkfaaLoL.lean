/-
  Layer 6: the law LocaPuts, walked.
-/
import Derived.Test.YtefalfdillnkfaaLoK
namespace Go.Proofs.Ytefalfdillnkfaa
open Go.RowKit
set_option linter.unusedVariables false

theorem two_bytes (f : Nat → Int) (p : Nat) (x : Int) (h0 : f p = byteOf x 2 0) (h1 : f (p + 1) = byteOf x 2 1) : numAt f p 2 = x % 65536 := by
  simp only [numAt, Nat.add_zero, h0, h1, byteOf, Nat.reduceSub, Nat.reduceMul, Int.reducePow]
  omega
theorem sgn_mod2 {x : Int} (h : -32768 ≤ x ∧ x ≤ 32767) : sgn 2 (x % 65536) = x := by
  unfold sgn
  simp only [Int.reducePow]
  split <;> omega
theorem pm_num1 (X Y : Nat → Int) (C i : Nat) (h : i < C) : numAt (pmF X Y C) (4 * i) 2 = X i % 65536 := by
  refine two_bytes _ _ _ ?_ ?_
  · unfold pmF; rw [if_pos (by omega), if_pos (by omega), show 4 * i / 4 = i by omega, show 4 * i % 4 = 0 by omega]
  · unfold pmF; rw [if_pos (by omega), if_pos (by omega), show (4 * i + 1) / 4 = i by omega, show (4 * i + 1) % 4 = 1 by omega]
theorem pm_num2 (X Y : Nat → Int) (C i : Nat) (h : i < C) : numAt (pmF X Y C) (4 * i + 2) 2 = Y i % 65536 := by
  refine two_bytes _ _ _ ?_ ?_
  · unfold pmF; rw [if_pos (by omega), if_neg (by omega), show (4 * i + 2) / 4 = i by omega, show (4 * i + 2) % 4 - 2 = 0 by omega]
  · unfold pmF; rw [if_pos (by omega), if_neg (by omega), show (4 * i + 2 + 1) / 4 = i by omega, show (4 * i + 2 + 1) % 4 - 2 = 1 by omega]
theorem pm_num3 (X Y : Nat → Int) (C i : Nat) (h : C ≤ i) : numAt (pmF X Y C) (4 * C + 2 * (i - C)) 2 = Y i % 65536 := by
  refine two_bytes _ _ _ ?_ ?_
  · unfold pmF; rw [if_neg (by omega), show C + (4 * C + 2 * (i - C) - 4 * C) / 2 = i by omega, show (4 * C + 2 * (i - C) - 4 * C) % 2 = 0 by omega]
  · unfold pmF; rw [if_neg (by omega), show C + (4 * C + 2 * (i - C) + 1 - 4 * C) / 2 = i by omega, show (4 * C + 2 * (i - C) + 1 - 4 * C) % 2 = 1 by omega]
theorem pm_ok {X Y : Nat → Int} {n : Nat} {c : Int} (h : pmE X Y n c = 0) : (1 ≤ n ∧ n ≤ 1024 ∧ 1 ≤ c ∧ c ≤ n) ∧ allB (fitM X Y) n = true ∧ allB (samA X c.toNat) n = true := by
  unfold pmE at h
  by_cases hb : n < 1 ∨ 1024 < n ∨ c < 1 ∨ (n : Int) < c
  · rw [if_pos hb] at h; exact absurd h (by decide)
  · rw [if_neg hb] at h
    cases h1 : allB (fitM X Y) n with
    | false => rw [h1] at h; simp at h
    | true =>
      cases h2 : allB (samA X c.toNat) n with
      | false => rw [h1, h2] at h; simp at h
      | true => exact ⟨by omega, rfl, rfl⟩
theorem pm_back {X Y : Nat → Int} {n C i : Nat} (hC : 1 ≤ C ∧ C ≤ n) (h1 : allB (fitM X Y) n = true) (h2 : allB (samA X C) n = true) (hi : i < n) : mtA (pmF X Y C) C i = X i ∧ mtB (pmF X Y C) C i = Y i := by
  have hf := fitM_iff.1 (allB_iff.1 h1 i hi)
  have hf0 := fitM_iff.1 (allB_iff.1 h1 (C - 1) (by omega))
  have hs := allB_iff.1 h2 i hi
  unfold mtA mtB
  by_cases hiC : i < C
  · rw [if_pos hiC, if_pos hiC, pm_num1 X Y C i hiC, pm_num2 X Y C i hiC, sgn_mod2 (by omega)]
    exact ⟨by omega, rfl⟩
  · rw [if_neg hiC, if_neg hiC, pm_num1 X Y C (C - 1) (by omega), pm_num3 X Y C i (by omega), sgn_mod2 (by omega)]
    unfold samA at hs
    rw [decide_eq_false hiC] at hs
    simp at hs
    exact ⟨by omega, rfl⟩
theorem pmE_cases (X Y : Nat → Int) (n : Nat) (c : Int) : pmE X Y n c = 0 ∨ pmE X Y n c = 2 ∨ pmE X Y n c = 4 ∨ pmE X Y n c = 6 := by unfold pmE; split <;> (try split) <;> (try split) <;> simp
theorem pmF_range (X Y : Nat → Int) (C : Nat) : ∀ q, 0 ≤ pmF X Y C q ∧ pmF X Y C q ≤ 255 := fun q => by
  unfold pmF
  split
  · split
    · exact byte_range _ _ _
    · exact byte_range _ _ _
  · exact byte_range _ _ _
set_option maxRecDepth 100000 in
set_option maxHeartbeats 8000000 in
theorem walk_locaputs (A : Option Addr) (n d : Nat) (X Y : Nat → Int) (c : Int) (w : World) (h : Rd w w.heap.size A (n * 2) (MtV X Y)) (hXY : ∀ j, j < n → In64 (X j) ∧ In64 (Y j)) (hc : In64 c) (hn : n * 16 ≤ 140737488351232) :
    Calls Try.prog 7 #[.slice A n d, .int .i64 c] w fun e w' => e = .returned (.bool true) ∧ Since w w' := by
  obtain ⟨i0, hi0, hz0, hz1, hz2⟩ := info_parts Try.info_mt
  have hlen : n ≤ maxLen := by simp only [maxLen]; omega
  have b1 : (0 + n) * 16 ≤ 140737488355328 := by omega
  have b2 : 0 + n ≤ maxLen := by simp only [maxLen]; omega
  have hPm : ∀ (A1 : Option Addr) (c1 : Nat) (w1 : World), Rd w1 w1.heap.size A1 (n * 2) (MtV X Y) → Calls Try.prog 22 #[.slice A1 n c1, .int .i64 c] w1 (PmPost X Y n c w1) := fun A1 c1 w1 hR => lo_putmetrics A1 n c1 X Y c w1 hR hXY hlen
  have hPr : ∀ (A1 : Option Addr) (c1 : Nat) (w1 : World), Rd w1 w1.heap.size A1 (n * 2) (MtV X Y) → Calls Try.prog 23 #[.slice A1 n c1, .int .i64 c] w1 (PmPost X Y n c w1) := fun A1 c1 w1 hR => ref_putmetrics A1 n c1 X Y c w1 hR hXY hlen
  have hcs := pmE_cases X Y n c
  by_cases hE0 : pmE X Y n c = 0
  · obtain ⟨hr, h1, h2⟩ := pm_ok hE0
    obtain ⟨C, rfl⟩ : ∃ C : Nat, c = C := ⟨c.toNat, by omega⟩
    have hN : pmN X Y n C = pmP C n := by unfold pmN; rw [if_pos hE0]; rfl
    have hPn : pmP C n = 4 * C + 2 * (n - C) := by unfold pmP; split <;> omega
    have hMe : mtE (pmP C n) C n = 0 := by unfold mtE; rw [if_neg (by omega), if_neg (by rw [hPn]; omega)]
    have hMn : mtN (pmP C n) C n = n := by unfold mtN; rw [if_pos hMe]; rfl
    have hMt : ∀ (A1 : Option Addr) (c1 : Nat) (w1 : World), Rd w1 w1.heap.size A1 (pmP C n) (U8 (pmF X Y C)) → Calls Try.prog 19 #[.slice A1 (pmP C n) c1, .int .i64 C, .int .i64 n] w1 fun e w' => ∃ A' d, e = .returned (.tuple #[.slice A' n d, .int .i64 0]) ∧ Rd w' w'.heap.size A' (n * 2) (MtV X Y) ∧ Since w1 w' := fun A1 c1 w1 hR => by
      refine (lo_metrics A1 (pmP C n) c1 (pmF X Y C) C n w1 hR (fun j _ => pmF_range X Y C j) hc (by unfold In64; omega) (by omega)).mono ?_
      rintro e w' ⟨A', d', rfl, hd, hR', hS⟩
      rw [hMn] at hR' ⊢
      rw [hMe]
      refine ⟨A', d', rfl, hR'.congr (fun t ht => ?_), hS⟩
      rw [Int.toNat_natCast]
      unfold MtV
      obtain ⟨e1, e2⟩ := pm_back (X := X) (Y := Y) (n := n) (C := C) (i := t / 2) (by omega) h1 (by simpa using h2) (by omega)
      rw [e1, e2]
    unfold PmPost at hPm hPr
    rw [hE0, hN] at hPm hPr
    generalize pmP C n = P at *
    have HPm := Lib.hid hPm; have HPr := Lib.hid hPr; have HMt := Lib.hid hMt
    have tok1 := True.intro
    clear hPm hPr hMt hcs hE0 h1 h2 hN hPn hMe hMn
    go_enter Try.func7, Try.ntmps7
    go_wp2_with (first | (go_at_call 9; (with_reducible refine (alive06 _).mono ?_); rintro e w1 ⟨rfl, hS1⟩; have h1 := h.on hS1; have h1' := h1.on ((Since.refl w1).alloc (.cells #[] 52)); have h0 : (w1.alloc (.cells #[] 52)).ownsRow w1.heap.size 52 2 (.slice (some ⟨w1.heap.size, 0, none⟩) 0 0) 0 [] := (⟨rfl, .inr ⟨_, 0, #[], rfl, Nat.le_refl _, heap_alloc_new w1 _, Nat.le_refl _, by simp [maxLen], rfl, rfl⟩⟩)) | (at_builtin; refine wpList_append_k _ (by rfl) _ _ _ (by rfl) w1.heap.size 52 i0 _ 2 16 Try.underlying41 hi0 hz0 hz1 hz2 (by rfl) (by omega) _ 0 [] (by rfl) h0 _ A n d (MtV X Y) (by rfl) h1' mtv_ones b1 b2 (by simp) ?_; intro v2 w2 hown2 hgr2; simp only [Nat.zero_add, List.nil_append] at hown2; obtain ⟨A2, c2, rfl, hc2, hI, _⟩ := own_k (by omega) hown2; have hT12 : Since w1 w2 := since_grown ((Since.refl w1).alloc _) hgr2 (fun k hk => by simp [Value.ownBlock] at hk; omega); have h2 := h1.on hT12; have hT := hS1.trans hT12; clear h0 h1 h1' hown2 hgr2 hT12 hS1 h) | (go_at_call 22; (with_reducible refine (HPm.out _ _ _ hI).mono ?_); rintro e w3 ⟨A3, c3, rfl, hR3, hS3⟩; have h3 := h2.on hS3; have hI3 := hI.on hS3; have hT3 := hT.trans hS3; clear h2 hI hT hS3) | (go_at_call 23; (with_reducible refine (HPr.out _ _ _ h3).mono ?_); rintro e w4 ⟨A4, c4, rfl, hR4, hS4⟩; have h4 := h3.on hS4; have hI4 := hI3.on hS4; have hT4 := hT3.trans hS4; have hQ4 := hR3.on hS4; clear h3 hI3 hT3 hS4 hR3) | (go_at_call 14; refine (ref_same _ _ _ _ _ _ _ _ hQ4 hR4 (fun _ _ => rfl)).mono ?_; rintro e w6 ⟨rfl, rfl⟩; clear hR4) | (go_at_call 21; have _t := tok1; refine (ref_msame _ _ n _ _ _ _ _ hI4 h4 hlen).mono ?_; rintro e w7 ⟨rfl, hS7⟩; have h7 := h4.on hS7; have hQ7 := hQ4.on hS7; have hT7 := hT4.trans hS7; clear tok1 h4 hI4 hQ4 hT4 hS7; have tok2 := True.intro) | (go_at_call 19; (with_reducible refine (HMt.out _ _ _ hQ7).mono ?_); rintro e w8 ⟨A8, c8, rfl, hR8, hS8⟩; have h8 := h7.on hS8; have hT8 := hT7.trans hS8; clear h7 hQ7 hT7 hS8) | (go_at_call 21; have _t := tok2; refine (ref_msame _ _ n _ _ _ _ _ hR8 h8 hlen).mono ?_; rintro e w9 ⟨rfl, hS9⟩; have hT9 := hT8.trans hS9))
    go_ret
    exact ⟨by first | rfl | simp, hT9⟩
  · have hE1 : pmE X Y n c = 2 ∨ pmE X Y n c = 4 ∨ pmE X Y n c = 6 := by omega
    have hN : pmN X Y n c = 0 := by unfold pmN; rw [if_neg hE0]
    unfold PmPost at hPm hPr
    rw [hN] at hPm hPr
    clear hcs hE0 hN
    generalize pmE X Y n c = E at *
    have HPm := Lib.hid hPm; have HPr := Lib.hid hPr
    clear hPm hPr
    rcases hE1 with rfl | rfl | rfl
    all_goals
      go_enter Try.func7, Try.ntmps7
      go_wp2_with (first | (go_at_call 9; (with_reducible refine (alive06 _).mono ?_); rintro e w1 ⟨rfl, hS1⟩; have h1 := h.on hS1; have h1' := h1.on ((Since.refl w1).alloc (.cells #[] 52)); have h0 : (w1.alloc (.cells #[] 52)).ownsRow w1.heap.size 52 2 (.slice (some ⟨w1.heap.size, 0, none⟩) 0 0) 0 [] := (⟨rfl, .inr ⟨_, 0, #[], rfl, Nat.le_refl _, heap_alloc_new w1 _, Nat.le_refl _, by simp [maxLen], rfl, rfl⟩⟩)) | (at_builtin; refine wpList_append_k _ (by rfl) _ _ _ (by rfl) w1.heap.size 52 i0 _ 2 16 Try.underlying41 hi0 hz0 hz1 hz2 (by rfl) (by omega) _ 0 [] (by rfl) h0 _ A n d (MtV X Y) (by rfl) h1' mtv_ones b1 b2 (by simp) ?_; intro v2 w2 hown2 hgr2; simp only [Nat.zero_add, List.nil_append] at hown2; obtain ⟨A2, c2, rfl, hc2, hI, _⟩ := own_k (by omega) hown2; have hT12 : Since w1 w2 := since_grown ((Since.refl w1).alloc _) hgr2 (fun k hk => by simp [Value.ownBlock] at hk; omega); have h2 := h1.on hT12; have hT := hS1.trans hT12; clear h0 h1 h1' hown2 hgr2 hT12 hS1 h) | (go_at_call 22; (with_reducible refine (HPm.out _ _ _ hI).mono ?_); rintro e w3 ⟨A3, c3, rfl, hR3, hS3⟩; have h3 := h2.on hS3; have hI3 := hI.on hS3; have hT3 := hT.trans hS3; clear h2 hI hT hS3) | (go_at_call 23; (with_reducible refine (HPr.out _ _ _ h3).mono ?_); rintro e w4 ⟨A4, c4, rfl, hR4, hS4⟩; have h4 := h3.on hS4; have hI4 := hI3.on hS4; have hT4 := hT3.trans hS4; have hQ4 := hR3.on hS4; clear h3 hI3 hT3 hS4 hR3) | (go_at_call 14; refine (ref_same _ _ _ _ _ _ _ _ hQ4 hR4 (fun _ _ => rfl)).mono ?_; rintro e w6 ⟨rfl, rfl⟩; clear hR4) | (go_at_call 21; refine (ref_msame _ _ n _ _ _ _ _ hI4 h4 hlen).mono ?_; rintro e w7 ⟨rfl, hS7⟩; have hT7 := hT4.trans hS7))
      go_ret
      exact ⟨by first | rfl | simp, hT7⟩
end Go.Proofs.Ytefalfdillnkfaa
