/-
  Layer 7: the reference's Read, walked.
-/
import Derived.Test.YtcjjcjpkmjbfkaaMhH
import Derived.Test.YtcjjcjpkmjbfkaaMhG
namespace Go.Proofs.Ytcjjcjpkmjbfkaa
open Go.RowKit Go.ChangeShapes Go.WideShapes Go.Deep
set_option linter.unusedVariables false
set_option linter.unusedSimpArgs false

set_option maxRecDepth 1000000 in
set_option maxHeartbeats 64000000 in
theorem rf_read7 (A : Option Addr) (n c : Nat) (f : Nat → Int) (w : World) (h : Rd w w.heap.size A n (U8 f)) (hf : ∀ j, j < n → 0 ≤ f j ∧ f j ≤ 255) (hn : n ≤ 140737488355328) :
    Calls Try.prog 37 #[.slice A n c] w (RrPost7 f n w) := by
  have hnI : (n : Int) ≤ 140737488355328 := by omega
  by_cases h0 : n = 0
  · have E := Lib.hid (show rdAns7 f n = no7 0 by unfold rdAns7; rw [if_pos h0])
    have d0 : (n : Int) = 0 := by omega
    clear h
    go_enter Try.func37, Try.ntmps37
    go_wp2_with fail
    refine bodyPost_ret (by simp only [results, Try.results37]; go_simp) rfl (rrpost7_no E.out (by (repeat (first | with_reducible (exact Since.refl _) | with_reducible assumption | with_reducible (refine Since.drew ?_) | with_reducible (refine Since.drewN ?_ _) | with_reducible (refine Since.alloc ?_ _) | (with_reducible (refine Since.setCell ?_ ?_ _); rotate_left; focus (first | (simp; done) | (simp; omega) | omega)) | (with_reducible (refine Since.trans ?_ (by with_reducible assumption)))))))
  have d0 : ¬ (n : Int) = 0 := by omega
  by_cases h10 : n < 10
  · have E := Lib.hid (show rdAns7 f n = no7 3 by unfold rdAns7; rw [if_neg h0, if_pos h10])
    have d1 : (n : Int) < 10 := by omega
    clear h
    go_enter Try.func37, Try.ntmps37
    go_wp2_with fail
    refine bodyPost_ret (by simp only [results, Try.results37]; go_simp) rfl (rrpost7_no E.out (by (repeat (first | with_reducible (exact Since.refl _) | with_reducible assumption | with_reducible (refine Since.drew ?_) | with_reducible (refine Since.drewN ?_ _) | with_reducible (refine Since.alloc ?_ _) | (with_reducible (refine Since.setCell ?_ ?_ _); rotate_left; focus (first | (simp; done) | (simp; omega) | omega)) | (with_reducible (refine Since.trans ?_ (by with_reducible assumption)))))))
  have d1 : ¬ (n : Int) < 10 := by omega
  have HF := Lib.hid hf
  have hr := numAt_range (f := f) (p := 0) (k := 2) (fun j hj => hf j (by omega))
  have e0 : sgn 2 (numAt f 0 2) = s2 f 0 := rfl
  have hsr : -32768 ≤ s2 f 0 ∧ s2 f 0 ≤ 32767 := by
    rw [← e0]; unfold sgn; simp only [Int.reducePow] at hr ⊢; split <;> omega
  have E0 : rdAns7 f n = if s2 f 0 < 0 then no7 11 else if s2 f 0 = 0 then no7 0 else rdA7 f n (s2 f 0).toNat := by unfold rdAns7; rw [if_neg h0, if_neg h10]
  clear hr hf
  obtain ⟨gb, hgb⟩ : ∃ gb, gb = w.heap.size := ⟨_, rfl⟩
  obtain ⟨q, hq0⟩ : ∃ q, q = w.heap.size + 1 := ⟨_, rfl⟩
  have HQ := Lib.hid hq0
  have HGB := Lib.hid hgb
  have HH := Lib.hid h
  clear hq0 hgb h
  go_enter Try.func37, Try.ntmps37
  go_upto_region 6 with fail
  refine wp_named fun w1 hw1 => ?_
  have hS1 : Since w w1 := by subst hw1; (repeat (first | with_reducible (exact Since.refl _) | with_reducible assumption | with_reducible (refine Since.drew ?_) | with_reducible (refine Since.drewN ?_ _) | with_reducible (refine Since.alloc ?_ _) | (with_reducible (refine Since.setCell ?_ ?_ _); rotate_left; focus (first | (simp; done) | (simp; omega) | omega)) | (with_reducible (refine Since.trans ?_ (by with_reducible assumption)))))
  have hT1 : Two w1 gb (.slice none 0 0) (.slice none 0 0) := by subst hw1; exact (two_new w gb HGB.out _ _ _).since ((Since.refl _).alloc _)
  have hR1 : Row w1 q 3 (RdrF A n c 0 0) := by subst hw1; exact rdr_new _ q (by rw [HQ.out]; simp) _ A n c
  rw [← HQ.out, ← HGB.out]
  clear hw1
  have hgq : gb ≠ q := by rw [HQ.out, HGB.out]; omega
  have hwq : w.heap.size ≤ q := by rw [HQ.out]; omega
  have hwg : w.heap.size ≤ gb := by rw [HGB.out]; omega
  have HS := Lib.hid (rf_s2_in q w.heap.size A n c f 0 w1 hR1 (HH.out.since (Nat.le_refl _) hS1) hwq HF.out (by omega) hn)
  rw [e0] at HS
  obtain ⟨hk1, hk2⟩ := hsr
  by_cases hk0 : s2 f 0 < 0
  · rw [if_pos hk0] at E0
    have E := Lib.hid E0
    generalize s2 f 0 = k at *
    clear E0 e0
    go_wp2_with (go_at_call 45; (with_reducible refine HS.out.mono ?_); rintro e w2 ⟨rfl, _, hR2, hN2⟩; have hT2 := hT1.near hN2 hgq; have hS2 := hN2.2 w hS1 hwq; obtain ⟨p1, p2, p3, p4, p5⟩ := id hT2)
    refine bodyPost_ret (by simp only [results, Try.results37]; go_simp) rfl (rrpost7_no E.out (by (repeat (first | with_reducible (exact Since.refl _) | with_reducible assumption | with_reducible (refine Since.drew ?_) | with_reducible (refine Since.drewN ?_ _) | with_reducible (refine Since.alloc ?_ _) | (with_reducible (refine Since.setCell ?_ ?_ _); rotate_left; focus (first | (simp; done) | (simp; omega) | omega)) | (with_reducible (refine Since.trans ?_ (by with_reducible assumption)))))))
  rw [if_neg hk0] at E0
  by_cases hkz : s2 f 0 = 0
  · rw [if_pos hkz] at E0
    have E := Lib.hid E0
    rw [hkz] at HS
    clear E0 e0 hkz hk0
    go_wp2_with (go_at_call 45; (with_reducible refine HS.out.mono ?_); rintro e w2 ⟨rfl, _, hR2, hN2⟩; have hT2 := hT1.near hN2 hgq; have hS2 := hN2.2 w hS1 hwq; obtain ⟨p1, p2, p3, p4, p5⟩ := id hT2)
    refine bodyPost_ret (by simp only [results, Try.results37]; go_simp) rfl (rrpost7_no E.out (by (repeat (first | with_reducible (exact Since.refl _) | with_reducible assumption | with_reducible (refine Since.drew ?_) | with_reducible (refine Since.drewN ?_ _) | with_reducible (refine Since.alloc ?_ _) | (with_reducible (refine Since.setCell ?_ ?_ _); rotate_left; focus (first | (simp; done) | (simp; omega) | omega)) | (with_reducible (refine Since.trans ?_ (by with_reducible assumption)))))))
  rw [if_neg hkz] at E0
  obtain ⟨k, hk⟩ : ∃ k : Nat, s2 f 0 = k := ⟨(s2 f 0).toNat, by omega⟩
  rw [hk] at HS E0 hk1 hk2 hk0 hkz
  rw [Int.toNat_natCast] at E0
  have hk3 : 1 ≤ k := by omega
  have hk9 : k ≤ 32767 := by omega
  have hkz' : ((k : Int) == 0) = false := by simp; omega
  have hkz2 : decide ((k : Int) < 0) = false := by simp
  have E1 := Lib.hid E0
  clear E0 e0 hk hkz hk0 hk1
  go_upto_region 13 with (go_at_call 45; (with_reducible refine HS.out.mono ?_); rintro e w2 ⟨rfl, _, hR2, hN2⟩; obtain ⟨c0, c1, c2, f1, f2, hq⟩ := rdr_cells hR2)
  refine wp_named fun w3 hw3 => ?_
  have hR3 : Row w3 q 3 (RdrF A n c ((10 + 2 * 0 : Nat) : Int) 0) := by subst hw3; exact rdr_at hR2 10
  have hN3 : Nigh q w1 w3 := by subst hw3; exact hN2.set _ _
  have hS3 := hN3.2 w hS1 hwq
  have hT3 := hT1.near hN3 hgq
  clear hw3 c0 c1 c2 f1 f2 hq hR2 hN2 hN3 HS hR1 hT1 hS1
  have hRb3 := HH.out.since (Nat.le_refl _) hS3
  have hq3 := hR3.2.2
  by_cases hfit : n < 10 + 2 * k
  · have E := Lib.hid (show rdAns7 f n = no7 3 by rw [E1.out]; unfold rdA7; rw [if_pos hfit])
    clear E1
    go_wp2_with fail
    go_loopw [6, 7] (fun v y wr => ∃ (i : Nat) (X : List Int), i ≤ k ∧ X.length = i ∧ y = .int .i64 (i : Int) ∧ OwnI wr w3.heap.size v X ∧ Nigh q w3 wr ∧ Hid ((10 + 2 * i ≤ n ∧ Row wr q 3 (RdrF A n c ((10 + 2 * i : Nat) : Int) 0)) ∨ (∃ p : Int, Row wr q 3 (RdrF A n c p 3)))) (fun _ y _ => k - (intOf y).toNat)
    case atStart => exact ⟨0, [], by omega, rfl, rfl, OwnG.nil _ _ _ _ _, Nigh.refl q w3, Lib.hid (.inl ⟨by omega, hR3⟩)⟩
    case round =>
      obtain ⟨i, X, hi, hX, rfl, hO, hN, HD⟩ := hrel
      obtain ⟨A6, c6, rfl, hc6, hr6⟩ := hO.rd (by omega) inL_len
      rw [hX] at hc6 hO ⊢
      have hRb := hRb3.near hN hwq hq3
      have hTr := hT3.near hN hgq
      have hSr := hN.2 w hS3 hwq
      clear hr6
      rcases HD.out with ⟨h5, hR⟩ | ⟨p, hR⟩
      · have hik : i < k := by omega
        have hik' : (i : Int) < (k : Int) := by omega
        obtain ⟨c0, c1, c2, f1, f2, hq⟩ := rdr_cells hR
        have hlen : X.length ≤ 3000000 := by omega
        by_cases h6 : 10 + 2 * (i + 1) ≤ n
        · have HU := Lib.hid (rf_u2_in q w.heap.size A n c f (10 + 2 * i) wr hR hRb hwq HF.out (by omega) hn)
          generalize numAt f (10 + 2 * i) 2 = z at *
          clear HD hR
          go_wp2_with (first | (go_at_call 46; (with_reducible refine HU.out.mono ?_); rintro e w4 ⟨rfl, hR4, hN4⟩; have hNN := hN.trans hN4; have hO4 := OwnG.near hO hN4 (fun e => by have := hO.lt e; omega)) | (at_builtin; refine wpList_append_near rfl (.tmp 54) (.tmp 57) rfl _ q hq3 hNN 3 _ hR4 _ X (by rfl) hO4 _ _ _ (by rfl) rfl hlen ?_; intro v7 w7 hO7 hN7 hR7))
          go_roundw
          case rel => first | exact ⟨i + 1, X ++ [z], by omega, by rw [List.length_append, hX]; rfl, by first | rfl | go_num | simp, hO7, hN7, Lib.hid (.inl ⟨h6, hR7⟩)⟩ | ((repeat apply Exists.intro); refine ⟨?_, rfl⟩; exact ⟨i + 1, X ++ [z], by omega, by rw [List.length_append, hX]; rfl, by first | rfl | go_num | simp, hO7, hN7, Lib.hid (.inl ⟨h6, hR7⟩)⟩)
          case measure => simp [intOf]; omega
        · have HU := Lib.hid (rf_u2_out q w.heap.size A n c f (10 + 2 * i) wr hR hRb hwq HF.out (by omega) (by omega) hn)
          clear HD hR
          go_wp2_with (first | (go_at_call 46; (with_reducible refine HU.out.mono ?_); rintro e w4 ⟨rfl, ⟨p4, hR4⟩, hN4⟩; have hNN := hN.trans hN4; have hO4 := OwnG.near hO hN4 (fun e => by have := hO.lt e; omega)) | (at_builtin; refine wpList_append_near rfl (.tmp 54) (.tmp 57) rfl _ q hq3 hNN 3 _ hR4 _ X (by rfl) hO4 _ _ _ (by rfl) rfl hlen ?_; intro v7 w7 hO7 hN7 hR7))
          go_roundw
          case rel => first | exact ⟨i + 1, X ++ [0], by omega, by rw [List.length_append, hX]; rfl, by first | rfl | go_num | simp, hO7, hN7, Lib.hid (.inr ⟨p4, hR7⟩)⟩ | ((repeat apply Exists.intro); refine ⟨?_, rfl⟩; exact ⟨i + 1, X ++ [0], by omega, by rw [List.length_append, hX]; rfl, by first | rfl | go_num | simp, hO7, hN7, Lib.hid (.inr ⟨p4, hR7⟩)⟩)
          case measure => simp [intOf]; omega
      · obtain ⟨c0, c1, c2, f1, f2, hq⟩ := rdr_cells hR
        obtain ⟨p1, p2, p3, p4, p5⟩ := id hTr
        clear HD hR hO hN
        by_cases hik : (i : Int) < (k : Int)
        all_goals
          go_upto_region 18 with fail
          go_region
          all_goals go_wp2_with fail
          all_goals refine bodyPost_ret (by simp only [results, Try.results37]; go_simp) rfl (rrpost7_no E.out (by (repeat (first | with_reducible (exact Since.refl _) | with_reducible assumption | with_reducible (refine Since.drew ?_) | with_reducible (refine Since.drewN ?_ _) | with_reducible (refine Since.alloc ?_ _) | (with_reducible (refine Since.setCell ?_ ?_ _); rotate_left; focus (first | (simp; done) | (simp; omega) | omega)) | (with_reducible (refine Since.trans ?_ (by with_reducible assumption)))))))
  · have E2 := Lib.hid (show rdAns7 f n = if ∃ i, i < k ∧ 0 < i ∧ en7 f i ≤ en7 f (i - 1) then no7 12 else if 4096 ≤ en7 f (k - 1) then no7 7 else rdB7 f n k (en7 f (k - 1) + 1).toNat by rw [E1.out]; unfold rdA7; rw [if_neg hfit])
    have hfit' : 10 + 2 * k ≤ n := by omega
    clear E1 hfit
    go_wp2_with fail
    go_loopw [6, 7] (fun v y wr => ∃ (i : Nat), i ≤ k ∧ y = .int .i64 (i : Int) ∧ OwnI wr w3.heap.size v ((List.range i).map (en7 f)) ∧ Nigh q w3 wr ∧ Row wr q 3 (RdrF A n c ((10 + 2 * i : Nat) : Int) 0)) (fun _ y _ => k - (intOf y).toNat)
    case atStart => exact ⟨0, by omega, rfl, OwnG.nil _ _ _ _ _, Nigh.refl q w3, hR3⟩
    case round =>
      obtain ⟨i, hi, rfl, hO, hN, hR⟩ := hrel
      obtain ⟨A6, c6, rfl, hc6, hr6⟩ := hO.rd (by omega) inL_len
      have hX : ((List.range i).map (en7 f)).length = i := by simp
      rw [hX] at hc6 hO ⊢
      have hRb := hRb3.near hN hwq hq3
      have hTr := hT3.near hN hgq
      have hSr := hN.2 w hS3 hwq
      obtain ⟨c0, c1, c2, f1, f2, hq⟩ := rdr_cells hR
      clear hR3 hT3 hRb3
      by_cases hik : i < k
      · have hik' : (i : Int) < (k : Int) := by omega
        have HU := Lib.hid (rf_u2_in q w.heap.size A n c f (10 + 2 * i) wr hR hRb hwq HF.out (by omega) hn)
        have HEI := Lib.hid (show (List.range (i + 1)).map (en7 f) = (List.range i).map (en7 f) ++ [numAt f (10 + 2 * i) 2] by rw [List.range_succ, List.map_append]; rfl)
        have hlen : ((List.range i).map (en7 f)).length ≤ 3000000 := by rw [hX]; omega
        generalize (List.range i).map (en7 f) = X at *
        generalize numAt f (10 + 2 * i) 2 = z at *
        clear hR hX hr6
        go_wp2_with (first | (go_at_call 46; (with_reducible refine HU.out.mono ?_); rintro e w4 ⟨rfl, hR4, hN4⟩; have hNN := hN.trans hN4; have hO4 := OwnG.near hO hN4 (fun e => by have := hO.lt e; omega)) | (at_builtin; refine wpList_append_near rfl (.tmp 54) (.tmp 57) rfl _ q hq3 hNN 3 _ hR4 _ X (by rfl) hO4 _ _ _ (by rfl) rfl hlen ?_; intro v7 w7 hO7 hN7 hR7))
        go_roundw
        case rel => first | exact ⟨i + 1, by omega, by first | rfl | go_num | simp, by rw [HEI.out]; exact hO7, hN7, hR7⟩ | ((repeat apply Exists.intro); refine ⟨?_, rfl⟩; exact ⟨i + 1, by omega, by first | rfl | go_num | simp, by rw [HEI.out]; exact hO7, hN7, hR7⟩)
        case measure => simp [intOf]; omega
      · obtain rfl : k = i := by omega
        have hik' : ¬ (k : Int) < (k : Int) := by omega
        obtain ⟨b6, o6, rfl, hb6, hc6'⟩ := hr6 (by rw [hX]; omega)
        have HC := Lib.hid (show ∀ j, j < k → wr.cell? ⟨b6, o6 + j, none⟩ = some (.int .i64 (en7 f j)) from fun j hj => by
          have := hc6' j (en7 f j) (by simp [hj]) 0 (by omega)
          rw [Nat.mul_one, Nat.add_zero] at this
          exact this)
        have hqb : b6 ≠ q := by have := (hO.lt (g := b6) rfl).1; omega
        obtain ⟨p1, p2, p3, p4, p5⟩ := id hTr
        have HR := Lib.hid hR
        obtain ⟨w4, hw4⟩ : ∃ w4, w4 = wr := ⟨wr, rfl⟩
        subst hw4
        clear hX hc6' hr6 hO hR hi hik
        go_wp2_with fail
        go_loopw [71] (fun y wx => ∃ (i d : Nat), i ≤ k ∧ y = .int .i64 (i : Int) ∧ Hid (wx = w4.drewN d) ∧ Hid (∀ t, t < i → 0 < t → en7 f (t - 1) < en7 f t)) (fun y _ => k - (intOf y).toNat)
        case atStart => exact ⟨0, 0, by omega, rfl, Lib.hid rfl, Lib.hid (fun t ht => absurd ht (by omega))⟩
        case round =>
          obtain ⟨i, d, hi, rfl, hw, HM⟩ := hrel
          have hw' := hw.out
          subst hw'
          clear hw
          by_cases hik : i < k
          · have hik' : (i : Int) < (k : Int) := by omega
            have k1 := HC.out i hik
            by_cases hi0 : i = 0
            · subst hi0
              have dz : decide ((0 : Int) < ((0 : Nat) : Int)) = false := by simp
              go_wp2_with fail
              go_quiet (fail)
              go_wp2_with fail
              go_roundw
              case rel => first | exact ⟨1, d + nq, by omega, by first | rfl | go_num | simp, Lib.hid (by first | rfl | simp), Lib.hid (fun t ht h0 => by omega)⟩ | ((repeat apply Exists.intro); refine ⟨?_, rfl⟩; exact ⟨1, d + nq, by omega, by first | rfl | go_num | simp, Lib.hid (by first | rfl | simp), Lib.hid (fun t ht h0 => by omega)⟩)
              case measure => simp [intOf]; omega
            · have k2 := HC.out (i - 1) (by omega)
              have m1 : IntKind.i64.wrap ((i : Int) - 1) = ((i - 1 : Nat) : Int) := by rw [IntKind.wrap_i64]; omega
              have dz : (0 : Int) < (i : Int) := by omega
              have dz2 : decide ((0 : Int) < (i : Int)) = true := by simpa using dz
              have dz3 : 0 < i := by omega
              have dz4 : decide (0 < i) = true := by simpa using dz3
              have hn1 : i - 1 < k := by omega
              have HNX := Lib.hid (fun (hlt : en7 f (i - 1) < en7 f i) => (fun t ht h0 => by
                by_cases e : t = i
                · subst e; exact hlt
                · exact HM.out t (by omega) h0 : ∀ t, t < i + 1 → 0 < t → en7 f (t - 1) < en7 f t))
              have HNE := Lib.hid (fun (hle : en7 f i ≤ en7 f (i - 1)) => (by rw [E2.out, if_pos ⟨i, hik, by omega, hle⟩] : rdAns7 f n = no7 12))
              clear HM E2 HC
              generalize en7 f i = x at *
              generalize en7 f (i - 1) = y at *
              by_cases hle : x ≤ y
              · have E := Lib.hid (HNE.out hle)
                have d2 : decide (x ≤ y) = true := by simpa using hle
                clear HNE HNX
                go_wp2_with fail
                go_quiet (fail)
                go_wp2_with fail
                refine bodyPost_ret (by simp only [results, Try.results37]; go_simp) rfl (rrpost7_no E.out (by (repeat (first | with_reducible (exact Since.refl _) | with_reducible assumption | with_reducible (refine Since.drew ?_) | with_reducible (refine Since.drewN ?_ _) | with_reducible (refine Since.alloc ?_ _) | (with_reducible (refine Since.setCell ?_ ?_ _); rotate_left; focus (first | (simp; done) | (simp; omega) | omega)) | (with_reducible (refine Since.trans ?_ (by with_reducible assumption)))))))
              · have HN2 := Lib.hid (HNX.out (by omega))
                have d2 : decide (x ≤ y) = false := by simpa using hle
                clear HNE HNX
                go_wp2_with fail
                go_quiet (fail)
                go_wp2_with fail
                go_roundw
                case rel => first | exact ⟨i + 1, d + nq, by omega, by first | rfl | go_num | simp, Lib.hid (by first | rfl | simp), HN2⟩ | ((repeat apply Exists.intro); refine ⟨?_, rfl⟩; exact ⟨i + 1, d + nq, by omega, by first | rfl | go_num | simp, Lib.hid (by first | rfl | simp), HN2⟩)
                case measure => simp [intOf]; omega
          · obtain rfl : k = i := by omega
            have hik' : ¬ (k : Int) < (k : Int) := by omega
            have hord : ∀ t, t < k → 0 < t → en7 f (t - 1) < en7 f t := HM.out
            have E3 := E2.out
            rw [if_neg (by rintro ⟨i, i1, i2, i3⟩; have := hord i i1 i2; omega)] at E3
            have k1 := HC.out (k - 1) (by omega)
            have hrange : ∀ i, i < k → 0 ≤ en7 f i ∧ en7 f i ≤ 65535 := fun i hi => by
              have := numAt_range (f := f) (p := 10 + 2 * i) (k := 2) (fun j hj => HF.out j (by omega))
              unfold en7; simp only [Int.reducePow] at this; omega
            have hr0 := hrange (k - 1) (by omega)
            have m1 : IntKind.i64.wrap ((k : Int) - 1) = ((k - 1 : Nat) : Int) := by rw [IntKind.wrap_i64]; omega
            have hn1 : k - 1 < k := by omega
            clear HM E2 hi hik
            by_cases hbig : 4096 ≤ en7 f (k - 1)
            · have E := Lib.hid (show rdAns7 f n = no7 7 by rw [E3, if_pos hbig])
              generalize en7 f (k - 1) = x at *
              have m2 : IntKind.i64.wrap (x + 1) = x + 1 := by rw [IntKind.wrap_i64]; omega
              have d2 : decide (4096 < x + 1) = true := by simp; omega
              clear E3 hord hrange HC
              go_wp2_with fail
              refine bodyPost_ret (by simp only [results, Try.results37]; go_simp) rfl (rrpost7_no E.out (by (repeat (first | with_reducible (exact Since.refl _) | with_reducible assumption | with_reducible (refine Since.drew ?_) | with_reducible (refine Since.drewN ?_ _) | with_reducible (refine Since.alloc ?_ _) | (with_reducible (refine Since.setCell ?_ ?_ _); rotate_left; focus (first | (simp; done) | (simp; omega) | omega)) | (with_reducible (refine Since.trans ?_ (by with_reducible assumption)))))))
            · rw [if_neg hbig] at E3
              obtain ⟨m, hm⟩ : ∃ m : Nat, en7 f (k - 1) + 1 = m := ⟨(en7 f (k - 1) + 1).toNat, by omega⟩
              have hm4 : m ≤ 4096 := by omega
              have hmI : (m : Int) ≤ 4096 := by omega
              have d2 : ¬ (4096 : Int) < (m : Int) := by omega
              have m2 : IntKind.i64.wrap (en7 f (k - 1) + 1) = (m : Int) := by rw [IntKind.wrap_i64]; omega
              rw [hm, Int.toNat_natCast] at E3
              have E4 := Lib.hid E3
              have HM := Lib.hid hm
              have HORD := Lib.hid hord
              have HRG := Lib.hid hrange
              have hS5 := hSr.drewN d
              have hT5 := hTr.drewN d
              have HR5 := Lib.hid (HR.out.drewN d)
              have HC5 := Lib.hid (show ∀ j, j < k → (w4.drewN d).cell? ⟨b6, o6 + j, none⟩ = some (.int .i64 (en7 f j)) from HC.out)
              have hb5 : b6 < (w4.drewN d).heap.size := hb6
              have hc5 := HC5.out (k - 1) (by omega)
              clear E3 hord hrange hm hbig hr0 HR HC hb6 hSr hTr hRb hN k1 p1 p2 p3 p4 p5 c0 c1 c2 f1 f2
              generalize w4.drewN d = w5 at *
              go_upto_region 29 with fail
              refine wp_named fun w6 hw6 => ?_
              obtain ⟨bg, hbg⟩ : ∃ bg, bg = w5.heap.size := ⟨_, rfl⟩
              have hG6 : Two w6 bg (.slice none 0 0) (.slice none 0 0) := by subst hw6; exact two_new w5 bg hbg _ _ _
              have hN6 : Nigh q w5 w6 := by subst hw6; exact (Nigh.refl q w5).alloc _
              have hS6 : Since w w6 := hN6.2 w hS5 hwq
              have HR6 : Hid (Row w6 q 3 (RdrF A n c ((10 + 2 * k : Nat) : Int) 0)) := Lib.hid (by subst hw6; exact HR5.out.alloc _)
              have HZ6 : Hid (w6.heap.size = bg + 1) := Lib.hid (by subst hw6; rw [hbg]; simp)
              rw [← hbg]
              have HBG := Lib.hid hbg
              have hqg : bg ≠ q := by have := HR5.out.2.2; omega
              have hbg5 : w5.heap.size ≤ bg := by omega
              have hqbg : q < bg := by rw [hbg]; exact HR5.out.2.2
              clear hw6 hbg
              go_cut [11] (fun v wx => ∃ (zz : Nat) (E p : Int), v = .int .i64 (zz : Int) ∧ zz ≤ 65535 ∧ Nigh q w5 wx ∧ Two wx bg (.slice none 0 0) (.slice none 0 0) ∧ Row wx q 3 (RdrF A n c p E) ∧ Hid ((E = 0 ∧ p = ((12 + 2 * k : Nat) : Int) ∧ 12 + 2 * k ≤ n ∧ numAt f (10 + 2 * k) 2 = (zz : Int)) ∨ (E = 3 ∧ n < 12 + 2 * k)))
              case first =>
                by_cases h12 : n < 12 + 2 * k
                · have HU := Lib.hid (rf_u2_out q w.heap.size A n c f (10 + 2 * k) w6 HR6.out (HH.out.since (Nat.le_refl _) hS6) hwq HF.out hfit' (by omega) hn)
                  go_wp2_with (go_at_call 46; (with_reducible refine HU.out.mono ?_); rintro e w7 ⟨rfl, ⟨p7, hR7⟩, hN7⟩)
                  go_meet
                  exact ⟨0, 3, p7, rfl, by omega, hN6.trans hN7, hG6.near hN7 hqg, hR7, Lib.hid (.inr ⟨rfl, h12⟩)⟩
                · have hsz := numAt_range (f := f) (p := 10 + 2 * k) (k := 2) (fun j hj => HF.out j (by omega))
                  simp only [Int.reducePow] at hsz
                  obtain ⟨z, hz⟩ : ∃ z : Nat, numAt f (10 + 2 * k) 2 = z := ⟨(numAt f (10 + 2 * k) 2).toNat, by omega⟩
                  have HU := Lib.hid (rf_u2_in q w.heap.size A n c f (10 + 2 * k) w6 HR6.out (HH.out.since (Nat.le_refl _) hS6) hwq HF.out (by omega) hn)
                  rw [hz] at HU
                  have HZ := Lib.hid hz
                  have hz9 : z ≤ 65535 := by omega
                  clear hz hsz
                  go_wp2_with (go_at_call 46; (with_reducible refine HU.out.mono ?_); rintro e w7 ⟨rfl, hR7, hN7⟩)
                  go_meet
                  exact ⟨z, 0, _, rfl, hz9, hN6.trans hN7, hG6.near hN7 hqg, hR7, Lib.hid (.inl ⟨rfl, by omega, by omega, HZ.out⟩)⟩
              obtain ⟨zz, E7, p7, rfl, hzz, hN7, hG7, hR7, HE7⟩ := hcut
              have hzI : (zz : Int) ≤ 65535 := by omega
              clear hG6 hN6 hS6 HR6
              go_upto_block 4 with fail
              go_cut [12] (fun _ wx => ∃ (v : Value) (X : List Int) (E p : Int), Nigh q w5 wx ∧ Two wx bg (.slice none 0 0) v ∧ OwnB wx (bg + 1) v X ∧ Row wx q 3 (RdrF A n c p E) ∧ Hid ((E = 0 ∧ p = ((12 + 2 * k + zz : Nat) : Int) ∧ 12 + 2 * k + zz ≤ n ∧ numAt f (10 + 2 * k) 2 = (zz : Int) ∧ X = (List.range zz).map (fun j => f (12 + 2 * k + j))) ∨ (E = 3 ∧ (n < 12 + 2 * k ∨ (12 + 2 * k ≤ n ∧ numAt f (10 + 2 * k) 2 = (zz : Int) ∧ n < 12 + 2 * k + zz)))))
              case first =>
                go_wp2_with fail
                go_loopw [12] (fun y wr => ∃ (i : Nat) (X : List Int) (v : Value) (E p : Int), i ≤ zz ∧ X.length = i ∧ y = .int .i64 (i : Int) ∧ Nigh q w5 wr ∧ Two wr bg (.slice none 0 0) v ∧ OwnB wr (bg + 1) v X ∧ Row wr q 3 (RdrF A n c p E) ∧ Hid ((E = 0 ∧ p = ((12 + 2 * k + i : Nat) : Int) ∧ 12 + 2 * k + i ≤ n ∧ numAt f (10 + 2 * k) 2 = (zz : Int) ∧ X = (List.range i).map (fun j => f (12 + 2 * k + j))) ∨ (E = 3 ∧ (n < 12 + 2 * k ∨ (12 + 2 * k ≤ n ∧ numAt f (10 + 2 * k) 2 = (zz : Int) ∧ n < 12 + 2 * k + zz))))) (fun y _ => zz - (intOf y).toNat)
                case atStart =>
                  refine ⟨0, [], _, E7, p7, by omega, rfl, rfl, hN7, hG7, OwnG.nil _ _ _ _ _, hR7, Lib.hid ?_⟩
                  rcases HE7.out with ⟨h1, h2, h3, h4⟩ | ⟨h1, h2⟩
                  · exact .inl ⟨h1, by rw [h2]; rfl, by omega, h4, rfl⟩
                  · exact .inr ⟨h1, .inl h2⟩
                case round =>
                  obtain ⟨i, X, v, E, p, hi, hX, rfl, hN, hG, hO, hR, HE⟩ := hrel
                  clear HE7 hN7 hG7 hR7
                  obtain ⟨c0, c1, c2, f1, f2, hq⟩ := rdr_cells hR
                  rcases HE.out with ⟨rfl, rfl, hp3, hp4, hp5⟩ | ⟨rfl, hp2⟩
                  · by_cases hiz : i < zz
                    · have hiz' : (i : Int) < (zz : Int) := by omega
                      obtain ⟨A7, c7, rfl, hc7, hr7⟩ := hO.rd (by omega) byL_len
                      rw [hX] at hc7 hO hG
                      obtain ⟨g1, g2, g3, g4, g5⟩ := id hG
                      have hRb := HH.out.since (Nat.le_refl _) (hN.2 w hS5 hwq)
                      have HUX : ∃ (z E' : Int), (0 ≤ z ∧ z ≤ 255) ∧ Hid (Calls Try.prog 46 #[.pointer (some ⟨q, 0, none⟩), .int .i64 1] wr.drew fun e w' => ∃ p' : Int, e = .returned (.int .i64 z) ∧ Row w' q 3 (RdrF A n c p' E') ∧ Nigh q wr.drew w' ∧ Hid ((E' = 0 ∧ p' = ((12 + 2 * k + (i + 1) : Nat) : Int) ∧ 12 + 2 * k + (i + 1) ≤ n ∧ X ++ [z] = (List.range (i + 1)).map (fun j => f (12 + 2 * k + j))) ∨ (E' = 3 ∧ n < 12 + 2 * k + zz))) := by
                        by_cases hfi : 12 + 2 * k + i + 1 ≤ n
                        · refine ⟨f (12 + 2 * k + i), 0, HF.out _ (by omega), Lib.hid ((rf_u1_in q w.heap.size A n c f (12 + 2 * k + i) wr.drew hR.drew hRb.drew hwq HF.out hfi hn).mono ?_)⟩
                          rintro e w' ⟨rfl, h1, h2⟩
                          exact ⟨_, rfl, h1, h2, Lib.hid (.inl ⟨rfl, rfl, by omega, by rw [List.range_succ, List.map_append, ← hp5]; rfl⟩)⟩
                        · refine ⟨0, 3, by omega, Lib.hid ((rf_u1_out q w.heap.size A n c f (12 + 2 * k + i) wr.drew hR.drew hRb.drew hwq HF.out hp3 (by omega) hn).mono ?_)⟩
                          rintro e w' ⟨rfl, ⟨p', h1⟩, h2⟩
                          exact ⟨p', rfl, h1, h2, Lib.hid (.inr ⟨rfl, by omega⟩)⟩
                      obtain ⟨z, E', hzb, HU⟩ := HUX
                      have hwz : IntKind.u8.wrap z = z := by rw [IntKind.wrap_u8]; omega
                      have HPP := Lib.hid (show 12 + 2 * k ≤ n ∧ numAt f (10 + 2 * k) 2 = (zz : Int) from ⟨by omega, hp4⟩)
                      have hlen : X.length ≤ 3000000 := by omega
                      have hl1 : (X.length + [z].length) * 1 ≤ 140737488355328 := by simp only [List.length_cons, List.length_nil]; omega
                      have hl2 : X.length + [z].length ≤ maxLen := by simp only [List.length_cons, List.length_nil, maxLen]; omega
                      have HX := Lib.hid hX
                      have hqg2 : bg ≠ q := hqg
                      clear HE hp5 hp4 hr7 hX hR
                      go_upto_region 33 with fail
                      go_region_law (first | (rw [if_pos (by rfl)]; refine oper_append_g (.tmp 115) (.tmp 119) 25 5 (by rfl) (by omega) byL_len byL_one 1 Try.underlying25 infoBy (bg + 1) (.slice A7 i c7) X (by rfl) (hO4.alloc _) _ (some ⟨w4.heap.size, 0, none⟩) 1 1 [z] rfl (by rfl) (rdb_new w4 w4.heap.size rfl _ #[.int .u8 z] [z] rfl) hl1 hl2 (by simp; omega) ?_; intro v7 w7 hO7 hg7 hb7; have hT7 := (hT4.alloc (.cells #[.int .u8 z] 5)).grown hg7 (fun e => by have := hO.lt e; omega); have hR7 := (hR4.alloc (.cells #[.int .u8 z] 5)).grownB hg7 (fun e => by have := hO.lt e; omega); have hN7 := (hNN.alloc (.cells #[.int .u8 z] 5)).grown hg7 (fun x e => by have := hO.lt e; omega); obtain ⟨b1, b2, b3, b4, b5⟩ := id hT7; obtain ⟨A8, c8, rfl, hc8, hr8⟩ := hO7.rd (by omega) byL_len) | (go_simp; go_wp2_with (go_at_call 46; (with_reducible refine HU.out.mono ?_); rintro e w4 ⟨p4, rfl, hR4, hN4, HP4⟩; have hNN := hN.drew.trans hN4; have hT4 := hG.drew.near hN4 hqg; have hO4 := OwnG.near (hO.since ((Since.refl wr).drew)) hN4 (fun e => by have := hO.lt e; omega); have hb4 := hT4.2.2.2.2; obtain ⟨a1, a2, a3, a4, a5⟩ := id hT4)))
                      all_goals go_wp2_with fail
                      all_goals go_roundw
                      all_goals first | (simp [intOf]; omega) | skip
                      all_goals
                        have hO9 : OwnB w7 (bg + 1) (.slice A8 (X.length + 1) c8) (X ++ [z]) := by rw [List.length_append] at hO7; exact hO7
                        have hHE : Hid ((E' = 0 ∧ p4 = ((12 + 2 * k + (i + 1) : Nat) : Int) ∧ 12 + 2 * k + (i + 1) ≤ n ∧ numAt f (10 + 2 * k) 2 = (zz : Int) ∧ X ++ [z] = (List.range (i + 1)).map (fun j => f (12 + 2 * k + j))) ∨ (E' = 3 ∧ (n < 12 + 2 * k ∨ (12 + 2 * k ≤ n ∧ numAt f (10 + 2 * k) 2 = (zz : Int) ∧ n < 12 + 2 * k + zz)))) := by
                          rcases HP4.out with ⟨e1, e2, e3, e4⟩ | ⟨e1, e2⟩
                          · exact Lib.hid (.inl ⟨e1, e2, e3, HPP.out.2, e4⟩)
                          · exact Lib.hid (.inr ⟨e1, .inr ⟨HPP.out.1, HPP.out.2, e2⟩⟩)
                        first | exact ⟨i + 1, X ++ [z], .slice A8 (X.length + 1) c8, E', p4, by omega, by rw [List.length_append, HX.out]; rfl, by first | rfl | go_num | simp, hN7.setNew hbg5 _ _, hT7.set1 _, hO9.set (Nat.lt_succ_self _) _ _, hR7.far hqg2 _ _, hHE⟩ | ((repeat apply Exists.intro); refine ⟨?_, rfl⟩; exact ⟨i + 1, X ++ [z], .slice A8 (X.length + 1) c8, E', p4, by omega, by rw [List.length_append, HX.out]; rfl, by first | rfl | go_num | simp, hN7.setNew hbg5 _ _, hT7.set1 _, hO9.set (Nat.lt_succ_self _) _ _, hR7.far hqg2 _ _, hHE⟩)
                    · obtain rfl : i = zz := by omega
                      have hiz' : ¬ (i : Int) < (i : Int) := by omega
                      have HEE := Lib.hid (show 12 + 2 * k + i ≤ n ∧ numAt f (10 + 2 * k) 2 = (i : Int) ∧ X = (List.range i).map (fun j => f (12 + 2 * k + j)) from ⟨hp3, hp4, hp5⟩)
                      have HR := Lib.hid hR
                      clear HE hp5 hp4 hX hR
                      go_wp2_with fail
                      go_meet
                      exact ⟨v, X, 0, _, hN, hG, hO, HR.out, Lib.hid (.inl ⟨rfl, rfl, HEE.out.1, HEE.out.2.1, HEE.out.2.2⟩)⟩
                  · have HEE := Lib.hid hp2
                    have HR := Lib.hid hR
                    clear HE hX hR hp2
                    by_cases hiz : (i : Int) < (zz : Int)
                    all_goals
                      go_wp2_with fail
                      go_meet
                      exact ⟨v, X, 3, p, hN, hG, hO, HR.out, Lib.hid (.inr ⟨rfl, HEE.out⟩)⟩
              obtain ⟨v8, X8, E8, p8, hN8, hG8, hO8, hR8, HE8⟩ := hcut
              have hSc := hN8.2 w hS5 hwq
              have hqc := hR8.2.2
              have hRbc := HH.out.since (Nat.le_refl _) hSc
              have HA8 := Lib.hid (at8_of E4.out HE8.out)
              clear HE8 E4
              have hh1 := hN8
              have HFL := Lib.hid (rf_flagsU q w.heap.size A n c f m p8 E8 wc hR8 hRbc hwq HF.out HA8.out.at_ hn hm4)
              unfold RfFlU at HFL
              have HST2 := Lib.hid (fun (w2 : World) (p E : Int) (D : Option Addr) (mm d : Nat) (L : List Int) (h1 : Row w2 q 3 (RdrF A n c p E)) (h2 : Nigh q wc w2) (hp : E = 0 → Bytes L ∧ ∃ t : Nat, p = (t : Int) ∧ t ≤ n) (hg : RdQ q w2 D mm (I64 (fnL L))) (hm : mm = L.length) (hm4 : mm ≤ 4096) => rf_stepsU2 q w.heap.size A n c f p E D mm d L w2 h1 (hRbc.near h2 hwq hqc) hwq HF.out hp hn hg hm hm4)
              have HST4 := Lib.hid (fun (w2 : World) (p E : Int) (D : Option Addr) (mm d : Nat) (L : List Int) (h1 : Row w2 q 3 (RdrF A n c p E)) (h2 : Nigh q wc w2) (hp : E = 0 → Bytes L ∧ ∃ t : Nat, p = (t : Int) ∧ t ≤ n) (hg : RdQ q w2 D mm (I64 (fnL L))) (hm : mm = L.length) (hm4 : mm ≤ 4096) => rf_stepsU4 q w.heap.size A n c f p E D mm d L w2 h1 (hRbc.near h2 hwq hqc) hwq HF.out hp hn hg hm hm4)
              unfold RfStU at HST2 HST4
              have tokX : True := trivial
              have tokY : True := trivial
              go_upto_region 37 with (first | (go_at_call 47; (with_reducible refine HFL.out.mono ?_); rintro e w9 ⟨v9, L9, p9, E9, rfl, hO9, hR9, hN9, hL9, hs9⟩; have HA9 := Lib.hid (HA8.out.flags HF.out hs9); clear hs9; obtain ⟨A9, c9, rfl, hc9, hq9⟩ := own_rdq hO9 hqc; obtain ⟨m9, hm9⟩ : ∃ m9, m9 = L9.length := ⟨_, rfl⟩; rw [← hm9] at hO9 hc9 hq9 hL9 ⊢; have HM9 := Lib.hid hm9; clear hm9) | (go_at_call 48; have _t := tokX; (with_reducible refine (HST2.out _ _ _ A9 m9 c9 L9 hR9 hN9 HA9.out.at_ hq9 HM9.out hL9).mono ?_); rintro e w10 ⟨vx, Lx, px, Ex, rfl, hOx, hRx, hNx, hsx⟩; have HAX := Lib.hid (HA9.out.xs hsx); clear hsx tokX; have hqx := hq9.near hNx; have hNNx := hN9.trans hNx; have hO9x := OwnG.near hO9 hNx (fun e => by have := hO9.lt e; omega); have hOx' := hOx.low hN9.1.1; clear hOx) | (go_at_call 48; have _t := tokY; (with_reducible refine (HST4.out _ _ _ A9 m9 c9 L9 hRx hNNx HAX.out.at_ hqx HM9.out hL9).mono ?_); rintro e w11 ⟨vy, Ly, py, Ey, rfl, hOy, hRy, hNy, hsy⟩; have HAY := Lib.hid (HAX.out.ys hsy); clear hsy tokY; have hqy := hqx.near hNy; have hNNy := hNNx.trans hNy; have hO9y := OwnG.near hO9x hNy (fun e => by have := hO9x.lt e; omega); have hOxy := OwnG.near hOx' hNy (fun e => by have := hOx'.lt e; omega); have hOyy := hOy.low hNNx.1.1; clear hOy))
              have hNall := hN8.trans hNNy
              have hT11 := hT5.near hNall hgq
              have hS11 := hNall.2 w hS5 hwq
              have hG11 := hG8.near hNNy hqg
              have hO811 := OwnG.near hO8 hNNy (fun e => by have := hO8.lt e; omega)
              have hbgc : bg < wc.heap.size := hG8.2.2.2.2
              have hbg11 : bg < w11.heap.size := hG11.2.2.2.2
              have HAYY := HAY.out
              rcases HAYY with ⟨hE, hAns⟩ | ⟨hE, hx8, hl9, hb9, hlx, hly, hAns⟩
              · have E := Lib.hid hAns
                have d5 : (Ey == 0) = false := by simpa using hE
                have d6 : (Ey != 0) = true := by simpa using hE
                obtain ⟨c0, c1, c2, f1, f2, hq⟩ := rdr_cells hRy
                obtain ⟨p1, p2, p3, p4, p5⟩ := id hT11
                clear hE hAns hRy hT11 hG11 hO811 hOxy hOyy hO9y hqy hG8 hO8 hR8 hN8 hT5 HC5 hc5 hq9 hqx hOx' hO9x hO9 hRx hR9
                go_upto_region 38 with fail
                go_region
                all_goals go_wp2_with fail
                all_goals refine bodyPost_ret (by simp only [results, Try.results37]; go_simp) rfl (rrpost7_no E.out (by (repeat (first | with_reducible (exact Since.refl _) | with_reducible assumption | with_reducible (refine Since.drew ?_) | with_reducible (refine Since.drewN ?_ _) | with_reducible (refine Since.alloc ?_ _) | (with_reducible (refine Since.setCell ?_ ?_ _); rotate_left; focus (first | (simp; done) | (simp; omega) | omega)) | (with_reducible (refine Since.trans ?_ (by with_reducible assumption)))))))
              · subst hE
                have hmm : m = m9 := (HM9.out.trans hl9).symm
                subst hmm
                obtain ⟨AX, cX, rfl, hcX, hRX⟩ := own_rdq hOxy hbgc
                obtain ⟨AY, cY, rfl, hcY, hRY⟩ := own_rdq hOyy hbgc
                have hRF := own_rdq2 hO9y hbgc hl9.symm
                rw [hlx] at hcX hRX hOxy ⊢
                rw [hly] at hcY hRY hOyy ⊢
                have hne6 : b6 ≠ bg := by omega
                have hb11 : b6 < w11.heap.size := Nat.lt_of_lt_of_le hb5 hNall.1.1
                have HC11 := Lib.hid (show ∀ j, j < k → w11.cell? ⟨b6, o6 + j, none⟩ = some (.int .i64 (en7 f j)) from fun j hj => hNall.1.cell (HC5.out j hj) hb5 hqb)
                have HSEG := Lib.hid (ends_seg HM.out HORD.out HRG.out)
                have HANS := Lib.hid hAns
                have HX8 := Lib.hid hx8
                obtain ⟨KL, hKL⟩ : ∃ KL, KL = ktL m (fnL Lx) (fnL Ly) (fun j => decide (Has8 (fnL L9 j) 1)) := ⟨_, rfl⟩
                have HLAY := Lib.hid (lay7_of hAns hl9 hlx hly)
                rw [← hKL] at HLAY
                have HKG := Lib.hid (show ∀ t, t < m → KL[t]? = some ⟨fnL Lx t, fnL Ly t, decide (Has8 (fnL L9 t) 1)⟩ from fun t ht => by rw [hKL]; exact ktL_get ht)
                have HKL := Lib.hid (show KL.length = m by rw [hKL, ktL_len])
                have HB9 := Lib.hid (show ∀ t, t < m → 0 ≤ fnL L9 t from fun t ht => (hb9 _ (List.mem_of_getElem? (fnL_get (by omega)))).1)
                obtain ⟨c0, c1, c2, f1, f2, hq⟩ := rdr_cells hRy
                have hgblt : gb < bg := by have := hT5.2.2.2.2; have := HBG.out; omega
                have hgbg : gb ≠ bg := by omega
                clear hKL hAns hx8 hl9 hb9 hlx hly hG8 hO8 hR8 hT5 HC5 hc5 hq9 hqx hOx' hO9x hO9 hRx hR9 HA8 HA9 HAX HAY HFL HST2 HST4 hOxy hOyy hO9y hqy HM9 hRy
                go_wp2_with fail
                clear c0 c1 c2 f1 f2 hq
                go_loopw [16, 143] (fun a y wr => ∃ (j : Nat) (vS : Value), j ≤ k ∧ y = .int .i64 (j : Int) ∧ a = .int .i64 (st7 (en7 f) j) ∧ Nigh bg w11 wr ∧ Two wr bg vS v8 ∧ OwnO wr w11.heap.size vS ((List.range j).map (seg7 (en7 f) KL))) (fun _ y _ => k - (intOf y).toNat)
                case atStart => exact ⟨0, _, by omega, rfl, rfl, Nigh.refl _ _, hG11, OwnO.nil _ _⟩
                case round =>
                  obtain ⟨j, vS, hj, rfl, rfl, hN, hG, hO⟩ := hrel
                  obtain ⟨w12, hw12⟩ : ∃ w12, w12 = wr := ⟨wr, rfl⟩
                  subst hw12
                  clear hG11
                  obtain ⟨AS, cS, rfl, hcS, hrS⟩ := hO.rd
                  have hlj : ((List.range j).map (seg7 (en7 f) KL)).length = j := by simp
                  rw [hlj] at hcS hO hG
                  by_cases hjk : j < k
                  · have hjk' : (j : Int) < (k : Int) := by omega
                    obtain ⟨g1, g2, g3⟩ := HSEG.out j hjk
                    have hc6j := hN.1.cell (HC11.out j hjk) hb11 hne6
                    have HST := Lib.hid (show st7 (en7 f) (j + 1) = en7 f j + 1 by unfold st7; rw [if_neg (by omega), Nat.add_sub_cancel])
                    have HSG := Lib.hid (show seg7 (en7 f) KL j = (KL.take (en7 f j + 1).toNat).drop (st7 (en7 f) j).toNat from rfl)
                    have HRJ := Lib.hid (show (List.range (j + 1)).map (seg7 (en7 f) KL) = (List.range j).map (seg7 (en7 f) KL) ++ [seg7 (en7 f) KL j] by rw [List.range_succ, List.map_append]; rfl)
                    obtain ⟨bx, ox, rfl, nx, lx, cx⟩ := (hRX.near hN) (by omega)
                    obtain ⟨by_, oy, rfl, ny, ly, cy⟩ := (hRY.near hN) (by omega)
                    obtain ⟨bf, of_, rfl, nf, lf, cf⟩ := (hRF.near hN) (by omega)
                    have HCX := Lib.hid cx
                    have HCY := Lib.hid cy
                    have HCF := Lib.hid cf
                    have HOO := Lib.hid hO
                    have HG := Lib.hid hG
                    have hbg12 : bg < w12.heap.size := hG.2.2.2.2
                    have hz12 := hN.1.1
                    generalize hsgj : seg7 (en7 f) KL j = SG at *
                    obtain ⟨sn, hsn⟩ : ∃ sn : Nat, st7 (en7 f) j = sn := ⟨(st7 (en7 f) j).toNat, by omega⟩
                    obtain ⟨xn, hxn⟩ : ∃ xn : Nat, en7 f j = xn := ⟨(en7 f j).toNat, by omega⟩
                    rw [hsn, hxn] at HSG
                    rw [hxn] at HST hc6j
                    have hm1 : xn + 1 ≤ m := by omega
                    have hsx : sn ≤ xn := by omega
                    rw [hsn]
                    have HSG2 := Lib.hid (show SG = (KL.take (xn + 1)).drop sn from HSG.out)
                    clear g1 g2 g3 cx cy cf hO hG hsn hxn HSG hlj hrS hsgj
                    go_wp2_with fail
                    go_loopw [16, 19] (fun a v wx => ∃ (t : Nat), sn ≤ t ∧ t ≤ xn + 1 ∧ a = .int .i64 (t : Int) ∧ OwnK wx w12.heap.size v ((KL.take t).drop sn) ∧ Since w12 wx) (fun a _ _ => xn + 1 - (intOf a).toNat)
                    case atStart => exact ⟨sn, Nat.le_refl _, by omega, rfl, by rw [List.drop_eq_nil_of_le (by rw [List.length_take]; omega)]; exact OwnG.nil _ _ _ _ _, Since.refl _⟩
                    case round =>
                      obtain ⟨t, ht1, ht2, rfl, hOK, hSt⟩ := hrel
                      by_cases htx : t ≤ xn
                      · have htx' : (t : Int) ≤ (xn : Int) := by omega
                        have htm : t < m := by omega
                        have htm' : (t : Int) < (m : Int) := by omega
                        have x0 := (hSt.1 _ _ lx).trans (HCX.out t htm)
                        have x1 := (hSt.1 _ _ ly).trans (HCY.out t htm)
                        have x2 := (hSt.1 _ _ lf).trans (HCF.out t htm)
                        simp only [I64, IntRow] at x0 x1 x2
                        have HSN := Lib.hid (take_drop_snoc (HKG.out t htm) ht1)
                        have hg0 := HB9.out t htm
                        have hlen : ((KL.take t).drop sn).length ≤ 3000000 := by rw [List.length_drop, List.length_take]; omega
                        obtain ⟨o, ho⟩ : ∃ o, decide (Has8 (fnL L9 t) 1) = o := ⟨_, rfl⟩
                        rw [ho] at HSN
                        have e1 : (fnL L9 t).tmod 2 = fnL L9 t % 2 := Int.tmod_eq_emod_of_nonneg hg0
                        have e2 := has8_b (fnL L9 t) 1 ho
                        rw [Int.ediv_one] at e2
                        have hz13 := hSt.below.size
                        have hlx2 := hSt.2.2.1 _ lx
                        have hly2 := hSt.2.2.1 _ ly
                        have hlf2 := hSt.2.2.1 _ lf
                        have HOK := Lib.hid hOK
                        generalize fnL Lx t = vx at *
                        generalize fnL Ly t = vy at *
                        generalize fnL L9 t = vf at *
                        generalize (KL.take t).drop sn = KS at *
                        clear ho hg0 hOK
                        go_upto_region 46 with fail
                        go_region_held3 (fun w' => w'.cell? ⟨bx, ox + t, none⟩ = some (.int .i64 vx) ∧ w'.cell? ⟨by_, oy + t, none⟩ = some (.int .i64 vy) ∧ w'.cell? ⟨bf, of_ + t, none⟩ = some (.int .i64 vf)) ((refine ⟨?_, ?_, ?_⟩ <;> (first | with_reducible assumption | ((repeat (first | rw [cell_drew7] | (rw [cell_alloc7]; rotate_left; focus (first | with_reducible assumption | (simp; done) | (simp; omega))))); with_reducible assumption)))) ((rw [if_pos (by rfl)]; refine oper_append_g (.tmp 152) (.tmp 168) 64 62 (by rfl) (by omega) knL_len knL_one 24 Try.underlying64 infoKn w12.heap.size _ KS (by rfl) (show OwnG 62 3 knL (wr.alloc _) _ _ _ from OwnG.alloc HOK.out _) _ _ 1 _ [⟨vx, vy, o⟩] rfl (by rfl) (show RdG 3 knL (wr.alloc _) _ _ _ from kn_one wr _ rfl _ ⟨vx, vy, o⟩) ?_ ?_ ?_ ?_; (focus (simp only [List.length_cons, List.length_nil]; omega)); (focus (simp only [List.length_cons, List.length_nil, maxLen]; omega)); (focus (have := hSt.below.size; simp; omega)); intro v7 w7 hO7 hg7 hb7; have k0 := (grown_cell7 hlx2 hg7 (fun e => by have := HOK.out.lt e; omega) (ox + t)).trans x0; have k1 := (grown_cell7 hly2 hg7 (fun e => by have := HOK.out.lt e; omega) (oy + t)).trans x1; have k2 := (grown_cell7 hlf2 hg7 (fun e => by have := HOK.out.lt e; omega) (of_ + t)).trans x2; have HS7 := Lib.hid (since_grown ((hSt.alloc _).drew) hg7 (fun q hq => (hb7 q hq).1)); have HO7 := Lib.hid hO7; clear x0 x1 x2 hO7 hg7 hb7; have x0 := k0; have x1 := k1; have x2 := k2; clear k0 k1 k2))
                        all_goals (go_wp2_with fail)
                        all_goals go_roundw
                        case rel => first | exact ⟨t + 1, by omega, by omega, by first | rfl | go_num | simp, by rw [HSN.out]; exact HO7.out, HS7.out⟩ | ((repeat apply Exists.intro); refine ⟨?_, rfl⟩; exact ⟨t + 1, by omega, by omega, by first | rfl | go_num | simp, by rw [HSN.out]; exact HO7.out, HS7.out⟩)
                        case measure => simp [intOf]; omega
                      · have ht3 : t = xn + 1 := by omega
                        subst ht3
                        have htx' : ¬ ((xn + 1 : Nat) : Int) ≤ (xn : Int) := by omega
                        have htx2 : ¬ (xn + 1 ≤ xn) := by omega
                        rw [← HSG2.out] at hOK
                        obtain ⟨AK, cK, rfl, hcK, hrK⟩ := hOK.rd (by omega) knL_len
                        have hOSt := HOO.out.since hSt
                        have hGSt := HG.out.since hSt
                        have hOKl := OwnG.low hOK hz12
                        have hNt : Nigh bg w11 wr := hN.since hSt
                        obtain ⟨a1, a2, a3, a4, a5⟩ := id hGSt
                        have HGS := Lib.hid hGSt
                        have HNT := Lib.hid hNt
                        have hlen : ((List.range j).map (seg7 (en7 f) KL)).length ≤ 1000000 := by rw [List.length_map, List.length_range]; omega
                        have hbt : w11.heap.size ≤ wr.heap.size := hNt.1.1
                        generalize (List.range j).map (seg7 (en7 f) KL) = LJ at *
                        obtain ⟨sl, hsl⟩ : ∃ sl, sl = SG.length := ⟨_, rfl⟩
                        rw [← hsl] at hcK hOKl ⊢
                        clear hrK hGSt hNt hsl hOK
                        go_wp2_with (at_builtin; refine wpList_append_hd rfl (.tmp 171) (.tmp 173) rfl w11.heap.size _ LJ (by rfl) hOSt _ 1 AK sl cK SG (by rfl) _ rfl hOKl hlen hbt ?_; intro v9 w9 hO9 hg9 hb9; obtain ⟨A10, c10, rfl, hc10, hr10⟩ := hO9.rd; have hG9 := (HGS.out.alloc (.cells #[.slice AK sl cK] 64)).grown hg9 (fun e => by have := (hb9 _ e).1; omega); have HN9 := Lib.hid ((HNT.out.alloc (.cells #[.slice AK sl cK] 64)).grown hg9 (fun x e => (hb9 _ e).1)); obtain ⟨b1, b2, b3, b4, b5⟩ := id hG9)
                        have hO10 : OwnO w9 w11.heap.size (.slice A10 (LJ.length + 1) c10) (LJ ++ [SG]) := by rw [List.length_append] at hO9; exact hO9
                        go_roundw
                        case rel => first | exact ⟨j + 1, .slice A10 (LJ.length + 1) c10, by omega, by first | rfl | go_num | simp, by rw [HST.out], HN9.out.setNewIn _ _, hG9.set0 _, by rw [HRJ.out]; exact hO10.keepB (fun b hb _ => by simp [World.setCell, Array.getElem?_modify, show ¬ bg = b by omega])⟩ | ((repeat apply Exists.intro); refine ⟨?_, rfl⟩; exact ⟨j + 1, .slice A10 (LJ.length + 1) c10, by omega, by first | rfl | go_num | simp, by rw [HST.out], HN9.out.setNewIn _ _, hG9.set0 _, by rw [HRJ.out]; exact hO10.keepB (fun b hb _ => by simp [World.setCell, Array.getElem?_modify, show ¬ bg = b by omega])⟩)
                        case measure => simp [intOf]; omega
                  · obtain rfl : k = j := by omega
                    have hjk' : ¬ (k : Int) < (k : Int) := by omega
                    have hT12 := hT11.near hN hgbg
                    have hO812 := OwnG.near hO811 hN (fun e => by have := hO811.lt e; omega)
                    have hS12 := hN.2 w hS11 (by omega)
                    have hgb5 : gb < bg + 1 := by omega
                    obtain ⟨AC, cC, rfl, hcC, hrC⟩ := hO812.rd (by omega) byL_len
                    have hX8l : X8.length = zz := by rw [HX8.out]; simp
                    rw [hX8l] at hcC hO812 hG ⊢
                    obtain ⟨p1, p2, p3, p4, p5⟩ := id hT12
                    obtain ⟨a1, a2, a3, a4, a5⟩ := id hG
                    have HO := Lib.hid hO
                    have HO8 := Lib.hid hO812
                    have HL8 := Lib.hid hX8l
                    have hn9 : gb ≠ bg := hgbg
                    have hn10 : bg ≠ gb := fun e => hgbg e.symm
                    clear hO hO812 hrS hrC hX8l hT11 hO811 hT12 hG
                    go_wp2_with fail
                    have hkb : KeepBut gb w12 ((w12.setCell ⟨gb, 0, none⟩ (.slice AS k cS)).setCell ⟨gb, 1, none⟩ (.slice AC zz cC)) := ((KeepBut.refl _ w12).set 0 _).set 1 _
                    obtain ⟨A8, c8, e8, hc8, hR8⟩ := (HO.out.keepB (fun b hb hb2 => hkb.2 b hb2 (by omega))).rd
                    injection e8 with e81 e82 e83
                    subst e81
                    obtain ⟨A7, c7, e7, hc7, hC7⟩ := (OwnG.but HO8.out hkb (fun e => by have := HO8.out.lt e; omega)).rd (by omega) byL_len
                    injection e7 with e71 e72 e73
                    subst e71
                    have HR8 := Lib.hid hR8
                    have HC7 := Lib.hid hC7
                    clear e72 e73 e82 e83 hc7 hc8 hR8 hC7 hkb
                    refine bodyPost_ret (by simp only [results, Try.results37]; go_simp) rfl (?_ : RrPost7 f n w (.returned (.tuple #[.agg #[.slice AS k cS, .slice AC zz cC], .int .i64 0])) _)
                    unfold RrPost7
                    rw [HLAY.out, HANS.out]
                    exact ⟨AS, cS, AC, cC, by rw [List.length_map, List.length_range], HR8.out, (rdb_rd' HC7.out HL8.out.symm).congr (fun j hj => by simp only [U8, IntRow]; rw [HX8.out, fnL_map hj]), (hS12.setCell hwg _).setCell hwg _⟩
end Go.Proofs.Ytcjjcjpkmjbfkaa
