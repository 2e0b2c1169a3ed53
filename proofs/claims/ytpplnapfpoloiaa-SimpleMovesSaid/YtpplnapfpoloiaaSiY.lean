/-
  Layer 7: the laws SimpleCut, SimpleBack, walked.
-/
import Derived.Test.YtpplnapfpoloiaaSiX
namespace Go.Proofs.Ytpplnapfpoloiaa
open Go.RowKit Go.ChangeShapes Go.WideShapes Go.Deep
set_option linter.unusedVariables false
set_option linter.unusedSimpArgs false

theorem si_read_no (A : Option Addr) (n c : Nat) (f : Nat → Int) (x : Int) (w : World) (h : Rd w w.heap.size A n (U8 f)) (hf : ∀ j, j < n → 0 ≤ f j ∧ f j ≤ 255) (hn : n ≤ 140737488355328) (hnc : n ≤ c) (hx : rdAns7 f n = no7 x) :
    Calls Try.prog 33 #[.slice A n c] w fun e w' => ∃ A1 c1 A2 c2, e = .returned (.tuple #[.agg #[.slice A1 0 c1, .slice A2 0 c2], .int .i64 x]) ∧ Since w w' := by
  refine (si_read A n c f w h hf hn hnc).mono ?_
  rintro e w' ⟨A1, c1, A2, c2, rfl, _, _, _, hS⟩
  rw [hx]
  exact ⟨A1, c1, A2, c2, rfl, hS⟩
/-- What was written is read, whatever stands behind it. -/
theorem si_read_back {LL : List (List Kt)} {C M : List Int} (he : glE LL C = 0) (hM : glB LL C = [] → M = []) (hC : Bytes C) (hMb : Bytes M) (A : Option Addr) (n c : Nat) (w : World) (h : RdB w w.heap.size A (glB LL C ++ M)) (hn : n = (glB LL C ++ M).length) (hn4 : n ≤ 140737488355328) (hnc : n ≤ c) (N m : Nat) (hN : N = LL.length) (hm : m = C.length) :
    Calls Try.prog 33 #[.slice A n c] w fun e w' => ∃ A1 c1 A2 c2, e = .returned (.tuple #[.agg #[.slice A1 N c1, .slice A2 m c2], .int .i64 0]) ∧ RdOL w' w'.heap.size A1 LL ∧ RdB w' w'.heap.size A2 C ∧ Since w w' := by
  subst hN; subst hm
  refine (si_read A n c (fnL (glB LL C ++ M)) w (rdb_rd' h hn) (by rw [hn]; exact bytes_fn (bytes_app (gl_bytes LL C hC) hMb)) hn4 hnc).mono ?_
  have key : (rdAns7 (fnL (glB LL C ++ M)) n).e = 0 ∧ lay7 (rdAns7 (fnL (glB LL C ++ M)) n) = LL ∧ (rdAns7 (fnL (glB LL C ++ M)) n).m = C.length ∧ ∀ j, j < C.length → fnL (glB LL C ++ M) ((rdAns7 (fnL (glB LL C ++ M)) n).s + j) = C.getD j 0 := by
    by_cases h0 : LL = []
    · subst h0
      have hc : C = [] := by
        unfold glE wrE7 lsK at he
        rw [if_pos (by rfl)] at he
        by_cases hc : C = []
        · exact hc
        · rw [if_neg hc] at he; cases he
      subst hc
      have e1 := hM gl_nil
      subst e1
      have e2 : n = 0 := by rw [hn, gl_nil]; rfl
      subst e2
      refine ⟨rfl, rfl, rfl, fun j hj => by cases hj⟩
    · exact (gl_back (fnL (glB LL C ++ M)) n h0 he (atL_app _ _)).1 (by rw [hn, List.length_append]; omega)
  obtain ⟨k1, k2, k3, k4⟩ := key
  rintro e w' ⟨A1, c1, A2, c2, rfl, h1, _, h3, hS⟩
  rw [k2] at h1 ⊢
  rw [k3] at h3 ⊢
  rw [k1]
  exact ⟨A1, c1, A2, c2, rfl, h1, rdb_of h3.rd rfl (fun j hj => k4 j hj), hS⟩
set_option maxRecDepth 1000000 in
set_option maxHeartbeats 16000000 in
theorem walk_simplecut (A : Option Addr) (c : Nat) (LL : List (List Kt)) (B : Option Addr) (m d : Nat) (C : List Int) (x : Int) (w : World) (h : RdOL w w.heap.size A LL) (hn : LL.length ≤ maxLen) (hm : ∀ L, L ∈ LL → L.length ≤ maxLen) (hC : RdB w w.heap.size B C) (hmm : m = C.length) (hmx : m ≤ maxLen) (hCb : Bytes C) (hx : 0 ≤ x ∧ x ≤ 65535) :
    Calls Try.prog 12 #[.agg #[.slice A LL.length c, .slice B m d], .int .u16 x] w fun e w' => e = .returned (.bool true) ∧ Since w w' := by
  have HG := Lib.hid (fun (w2 : World) (h2 : Since w w2) => rf_great A c LL w2 (h.on h2) hn hm)
  obtain ⟨N, hN⟩ : ∃ N, N = LL.length := ⟨_, rfl⟩
  rw [← hN] at hn HG ⊢
  have hmI : (m : Int) ≤ 9223372036854775807 := by simp only [maxLen] at hmx; omega
  have HN := Lib.hid hN
  have HMM := Lib.hid hmm
  have HO := Lib.hid h
  have HCC := Lib.hid hC
  clear hN hmm h hC hm
  go_enter Try.func12, Try.ntmps12
  go_upto_region 1 with fail
  refine wp_named fun w1 hw1 => ?_
  have hS1 : Since w w1 := by subst hw1; (repeat (first | with_reducible (exact Since.refl _) | with_reducible assumption | with_reducible (refine Since.drew ?_) | with_reducible (refine Since.drewN ?_ _) | with_reducible (refine Since.alloc ?_ _) | (with_reducible (refine Since.setCell ?_ ?_ _); rotate_left; focus (first | (simp; done) | (simp; omega) | omega)) | (with_reducible (refine Since.trans ?_ (by with_reducible assumption)))))
  obtain ⟨gb, hgb0⟩ : ∃ gb, gb = w.heap.size := ⟨_, rfl⟩
  have hT1 : Two w1 gb (.slice A N c) (.slice B m d) := by subst hw1; exact two_new w gb hgb0 _ _ _
  rw [← hgb0]
  clear hw1 hgb0
  go_upto_region 3 with (go_at_call 32; (with_reducible refine (alive07 _).mono ?_); rintro e w2 ⟨rfl, hS2⟩; have hT2 := hT1.since hS2; have hA2 := hS1.trans hS2; obtain ⟨p1, p2, p3, p4, p5⟩ := id hT2; clear hT1)
  by_cases hbig : 1000 < m
  · have d1 : (1000 : Int) < (m : Int) := by omega
    go_wp2_with (go_at_call 36; (with_reducible refine (HG.out _ hA2).mono ?_); rintro e w3 ⟨g, rfl, hg, hS3⟩; have hT3 := hT2.since hS3; have hA3 := hA2.trans hS3; obtain ⟨q1, q2, q3, q4, q5⟩ := id hT3; have HNG := Lib.hid hg; clear hg; cases g)
    all_goals go_ret
    all_goals exact ⟨by first | rfl | simp, hA3⟩
  · have d1 : ¬ (1000 : Int) < (m : Int) := by omega
    go_upto_region 5 with (go_at_call 36; (with_reducible refine (HG.out _ hA2).mono ?_); rintro e w3 ⟨g, rfl, hg, hS3⟩; have hT3 := hT2.since hS3; have hA3 := hA2.trans hS3; obtain ⟨q1, q2, q3, q4, q5⟩ := id hT3; have HNG := Lib.hid hg; clear hg; cases g)
    · obtain ⟨n1, n2, n3⟩ := HNG.out (by simp)
      have hN6 : N ≤ 600 := by rw [HN.out]; exact n1
      have HW := Lib.hid (fun (w2 : World) (h2 : Since w w2) => si_write A c LL B m d C w2 (HO.out.on h2) (by omega) (fun L hL => by have := n2 L hL; omega) (HCC.out.on h2) HMM.out (by rw [← HMM.out]; omega))
      rw [← HN.out] at HW
      unfold WrPost7 at HW
      by_cases hz : glE LL C ≠ 0 ∨ LL = []
      · have hB0 : glB LL C = [] := by
          rcases hz with h | h
          · exact gl_err h
          · rw [h]; exact gl_nil
        rw [hB0] at HW
        clear n1 n2 n3 HNG hz
        by_cases he : glE LL C = 0
        · rw [he] at HW
          go_wp2_with (go_at_call 38; (with_reducible refine (HW.out _ hA3).mono ?_); rintro e w4 ⟨v, rfl, hO4, hS4⟩; obtain ⟨A4, c4, rfl, hc4, hR4⟩ := hO4.rd (by omega) byL_len)
          go_ret
          exact ⟨by first | rfl | simp, hA3.trans hS4⟩
        · have d0 : (glE LL C == 0) = false := by simpa using he
          generalize glE LL C = y at *
          go_wp2_with (go_at_call 38; (with_reducible refine (HW.out _ hA3).mono ?_); rintro e w4 ⟨v, rfl, hO4, hS4⟩; obtain ⟨A4, c4, rfl, hc4, hR4⟩ := hO4.rd (by omega) byL_len)
          go_ret
          exact ⟨by first | rfl | simp, hA3.trans hS4⟩
      · have he : glE LL C = 0 := Decidable.byContradiction fun h => hz (.inl h)
        have h0 : LL ≠ [] := fun h => hz (.inr h)
        obtain ⟨l1, l2⟩ := gl_len h0 he
        have hcut := fun k => (gl_back (fnL (glB LL C)) k h0 he (atL_self _)).2
        have hby := gl_bytes LL C hCb
        rw [he] at HW
        obtain ⟨X, hX⟩ : ∃ X, X = glB LL C := ⟨_, rfl⟩
        rw [← hX] at HW l1 l2 hcut hby
        rw [← HN.out, ← HMM.out] at l1 l2
        have n3' : sumL LL ≤ 9000 := n3
        obtain ⟨xl, hxl⟩ : ∃ xl, xl = X.length := ⟨_, rfl⟩
        rw [← hxl] at l1 l2
        obtain ⟨xn, rfl⟩ := Int.eq_ofNat_of_zero_le hx.1
        obtain ⟨k, hk⟩ : ∃ k, k = xn % xl := ⟨_, rfl⟩
        have hkl : k < xl := by rw [hk]; exact Nat.mod_lt _ (by omega)
        have hrem : (xn : Int).tmod (xl : Int) = (k : Int) := by rw [hk, Int.tmod_eq_emod_of_nonneg (by omega)]; omega
        have hxz : ¬ (xl : Int) = 0 := by omega
        have hxp : 0 < xl := by omega
        have hwk : IntKind.i64.wrap (k : Int) = (k : Int) := by rw [IntKind.wrap_i64]; omega
        have hwx : IntKind.i64.wrap (xn : Int) = (xn : Int) := by rw [IntKind.wrap_i64]; omega
        have hR : ∀ (A4 : Option Addr) (c4 : Nat) (w2 : World), RdB w2 w2.heap.size A4 X → xl ≤ c4 → Calls Try.prog 33 #[.slice A4 k c4] w2 fun e w' => ∃ A1 c1 A2 c2, e = .returned (.tuple #[.agg #[.slice A1 0 c1, .slice A2 0 c2], .int .i64 (if k = 0 then 0 else 3)]) ∧ Since w2 w' := fun A4 c4 w2 hr hc => by
          refine si_read_no A4 k c4 (fnL X) _ w2 ((rdb_rd' hr hxl).take (by omega)) (fun j hj => bytes_fn hby j (by omega)) (by omega) (by omega) ?_
          by_cases h0 : k = 0
          · rw [if_pos h0, h0]; rfl
          · rw [if_neg h0]; exact hcut k (by omega) (by omega)
        have HRD := Lib.hid hR
        have HXL := Lib.hid hxl
        clear n1 n2 n3 HNG hX hxl hR hcut hz l1 l2 hk
        by_cases hk0 : k = 0
        · subst hk0
          rw [if_pos rfl] at HRD
          go_wp2_with (first | (go_at_call 38; (with_reducible refine (HW.out _ hA3).mono ?_); rintro e w4 ⟨v, rfl, hO4, hS4⟩; obtain ⟨A4, c4, rfl, hc4, hR4⟩ := hO4.rd (by omega) byL_len; rw [← HXL.out] at hc4 ⊢; have hA4 := hA3.trans hS4; clear hO4) | (go_at_call 33; (with_reducible refine (HRD.out A4 c4 _ hR4 hc4).mono ?_); rintro e w5 ⟨A5, c5, A6, c6, rfl, hS5⟩; have hA5 := hA4.trans hS5))
          go_ret
          exact ⟨by first | rfl | simp, by (repeat (first | with_reducible (exact Since.refl _) | with_reducible assumption | with_reducible (refine Since.drew ?_) | with_reducible (refine Since.drewN ?_ _) | with_reducible (refine Since.alloc ?_ _) | (with_reducible (refine Since.setCell ?_ ?_ _); rotate_left; focus (first | (simp; done) | (simp; omega) | omega)) | (with_reducible (refine Since.trans ?_ (by with_reducible assumption)))))⟩
        · rw [if_neg hk0] at HRD
          have hkz : ¬ (k : Int) = 0 := by omega
          go_wp2_with (first | (go_at_call 38; (with_reducible refine (HW.out _ hA3).mono ?_); rintro e w4 ⟨v, rfl, hO4, hS4⟩; obtain ⟨A4, c4, rfl, hc4, hR4⟩ := hO4.rd (by omega) byL_len; rw [← HXL.out] at hc4 ⊢; have hA4 := hA3.trans hS4; clear hO4) | (go_at_call 33; (with_reducible refine (HRD.out A4 c4 _ hR4 hc4).mono ?_); rintro e w5 ⟨A5, c5, A6, c6, rfl, hS5⟩; have hA5 := hA4.trans hS5))
          go_ret
          exact ⟨by first | rfl | simp, by (repeat (first | with_reducible (exact Since.refl _) | with_reducible assumption | with_reducible (refine Since.drew ?_) | with_reducible (refine Since.drewN ?_ _) | with_reducible (refine Since.alloc ?_ _) | (with_reducible (refine Since.setCell ?_ ?_ _); rotate_left; focus (first | (simp; done) | (simp; omega) | omega)) | (with_reducible (refine Since.trans ?_ (by with_reducible assumption)))))⟩
    · go_ret
      exact ⟨by first | rfl | simp, hA3⟩
end Go.Proofs.Ytpplnapfpoloiaa
