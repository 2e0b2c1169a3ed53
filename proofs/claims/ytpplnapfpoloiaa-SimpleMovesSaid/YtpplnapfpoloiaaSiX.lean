/-
  Layer 7: what is written is bytes, and is read; the law SimpleShort, walked.
-/
import Derived.Test.YtpplnapfpoloiaaSiW
import Derived.Test.YtpplnapfpoloiaaOuY
namespace Go.Proofs.Ytpplnapfpoloiaa
open Go.RowKit Go.ChangeShapes Go.WideShapes Go.Deep
set_option linter.unusedVariables false
set_option linter.unusedSimpArgs false

theorem bytes_nums (l : List Int) : Bytes (nums8 l) := fun v hv => by
  unfold nums8 at hv
  obtain ⟨x, _, hx⟩ := List.mem_flatMap.1 hv
  exact bytes_put x 2 v hx
theorem bytes_rle : ∀ l : List Int, (∀ g ∈ l, FlOk g) → Bytes (rle7 l) := by
  refine len7_ind (fun _ => by rw [rle7_nil]; intro v hv; cases hv) (fun f r ih hok => ?_)
  have hf := hok f (by simp)
  have hr := run7_le f 255 r
  have h8 : f + 8 ≤ 255 := by obtain ⟨a, b, c⟩ := hf; unfold Has8 at c; omega
  rw [rle7_cons]
  split
  · intro v hv
    rcases List.mem_cons.1 hv with rfl | hv
    · obtain ⟨a, b, c⟩ := hf; omega
    · exact ih r (Nat.le_refl _) (fun x hx => hok x (by simp [hx])) v hv
  · intro v hv
    rcases List.mem_cons.1 hv with rfl | hv
    · obtain ⟨a, b, c⟩ := hf; omega
    · rcases List.mem_cons.1 hv with rfl | hv
      · omega
      · exact ih _ (by simp [List.length_drop]) (fun x hx => hok x (by simp [List.mem_of_mem_drop hx])) v hv
theorem bytes_stp (d : Int) : Bytes (stp7 d) := by
  unfold stp7
  split
  · intro v hv; cases hv
  · split
    · intro v hv; rw [List.mem_singleton] at hv; omega
    · split
      · intro v hv; rw [List.mem_singleton] at hv; omega
      · exact bytes_put _ _
theorem bytes_stps : ∀ (l : List Int) (v : Int), Bytes (stps7 v l) := by
  intro l
  induction l with
  | nil => intro v x hx; cases hx
  | cons a l ih => intro v; unfold stps7; exact bytes_app (bytes_stp _) (ih a)
theorem gl_bytes (LL : List (List Kt)) (C : List Int) (hC : Bytes C) : Bytes (glB LL C) := by
  unfold glB
  split
  · unfold wr7
    split
    · intro v hv; cases hv
    · unfold wrB7 kn7
      exact bytes_app (bytes_put _ _) (bytes_app (bytes_nums _) (bytes_app (bytes_nums _) (bytes_app (bytes_put _ _) (bytes_app hC (bytes_app (bytes_rle _ (fun g hg => (flK_ok LL.flatten g hg).1)) (bytes_app (bytes_stps _ _) (bytes_stps _ _)))))))
  · intro v hv; cases hv
theorem atL_self (L : List Int) : AtL (fnL L) 0 L := fun j hj => by rw [Nat.zero_add]; rfl
theorem atL_app (L M : List Int) : AtL (fnL (L ++ M)) 0 L := (atL_self (L ++ M)).left
theorem gl_parts {LL : List (List Kt)} {C : List Int} (h0 : LL ≠ []) (he : glE LL C = 0) :
    glB LL C = wrB7 (lsK LL) (boxK LL) C (xsK LL.flatten) (ysK LL.flatten) (osK LL.flatten) ∧ (∀ l ∈ lsK LL, 1 ≤ l) ∧ (lsK LL).sum = (xsK LL.flatten).length ∧ (xsK LL.flatten).length ≤ 4096 ∧ C.length ≤ 65535 ∧ StepsOk 0 (xsK LL.flatten) ∧ StepsOk 0 (ysK LL.flatten) ∧ lsK LL ≠ [] := by
  have hl : lsK LL ≠ [] := fun e => h0 (List.map_eq_nil_iff.1 e)
  obtain ⟨h1, h2, h3, h4, h5⟩ := wrE7_ok hl he
  have hs : (lsK LL).sum = (xsK LL.flatten).length := by unfold lsK xsK; rw [List.length_map, List.length_flatten]
  refine ⟨?_, h1, hs, by omega, h3, h4, h5, hl⟩
  unfold glB
  rw [if_pos he]
  unfold wr7
  rw [if_neg hl]
theorem lay_written (LL : List (List Kt)) (gs : List Int) (s m : Nat) (hgs : gs.map (fun g => decide (Has8 g 1)) = osK LL.flatten) : lay7 ⟨0, ends7 (-1) (lsK LL), s, m, gs, xsK LL.flatten, ysK LL.flatten⟩ = LL := by
  unfold lay7
  simp only [hgs]
  have h1 : zip7 Kt.mk (xsK LL.flatten) (ysK LL.flatten) (osK LL.flatten) = LL.flatten := zip7_map (fun k => rfl) LL.flatten
  rw [h1]
  exact cutE7_all LL
/-- What was written is read, and less of it is too short. -/
theorem gl_back {LL : List (List Kt)} {C : List Int} (f : Nat → Int) (n : Nat) (h0 : LL ≠ []) (he : glE LL C = 0) (hat : AtL f 0 (glB LL C)) :
    ((glB LL C).length ≤ n → (rdAns7 f n).e = 0 ∧ lay7 (rdAns7 f n) = LL ∧ (rdAns7 f n).m = C.length ∧ ∀ j, j < C.length → f ((rdAns7 f n).s + j) = C.getD j 0) ∧ (0 < n → n < (glB LL C).length → rdAns7 f n = no7 3) := by
  obtain ⟨e, h1, h2, h3, h4, h5, h6, h7⟩ := gl_parts h0 he
  rw [e] at hat ⊢
  obtain ⟨b1, b2⟩ := back7 f n (lsK LL) (boxK LL) C (xsK LL.flatten) (ysK LL.flatten) (osK LL.flatten) rfl h7 h1 h2 h3 h4 (by unfold xsK ysK; rw [List.length_map, List.length_map]) (by unfold xsK osK; rw [List.length_map, List.length_map]) h5 h6 hat
  refine ⟨fun hn => ?_, b2⟩
  obtain ⟨gs, g1, g2, g3⟩ := b1 hn
  rw [g1]
  exact ⟨rfl, lay_written LL gs _ _ g2, rfl, g3⟩
theorem gl_len {LL : List (List Kt)} {C : List Int} (h0 : LL ≠ []) (he : glE LL C = 0) : (glB LL C).length ≤ 12 + 2 * LL.length + C.length + 5 * sumL LL ∧ 12 + 2 * LL.length + C.length < (glB LL C).length := by
  obtain ⟨e, h1, h2, h3, h4, h5, h6, h7⟩ := gl_parts h0 he
  have h := short7 (lsK LL) C (xsK LL.flatten) (ysK LL.flatten) (osK LL.flatten) h7 h1 h2 (by unfold xsK ysK; rw [List.length_map, List.length_map]) (by unfold xsK osK; rw [List.length_map, List.length_map])
  unfold wr7 at h
  rw [if_neg h7] at h
  rw [e]
  have e1 : (lsK LL).length = LL.length := by unfold lsK; rw [List.length_map]
  have e2 : (xsK LL.flatten).length = sumL LL := by rw [sumL_flat]; unfold xsK; rw [List.length_map]
  rw [e1, e2] at h
  exact h
theorem gl_nil {C : List Int} : glB [] C = [] := by unfold glB; split <;> rfl
theorem gl_err {LL : List (List Kt)} {C : List Int} (he : glE LL C ≠ 0) : glB LL C = [] := by unfold glB; rw [if_neg he]
set_option maxRecDepth 1000000 in
set_option maxHeartbeats 16000000 in
theorem walk_simpleshort (A : Option Addr) (c : Nat) (LL : List (List Kt)) (B : Option Addr) (m d : Nat) (C : List Int) (w : World) (h : RdOL w w.heap.size A LL) (hn : LL.length ≤ maxLen) (hm : ∀ L, L ∈ LL → L.length ≤ maxLen) (hC : RdB w w.heap.size B C) (hmm : m = C.length) (hmx : m ≤ maxLen) :
    Calls Try.prog 11 #[.agg #[.slice A LL.length c, .slice B m d]] w fun e w' => e = .returned (.bool true) ∧ Since w w' := by
  have HG := Lib.hid (fun (w2 : World) (h2 : Since w w2) => rf_great A c LL w2 (h.on h2) hn hm)
  obtain ⟨N, hN⟩ : ∃ N, N = LL.length := ⟨_, rfl⟩
  rw [← hN] at hn HG ⊢
  have hmI : (m : Int) ≤ 9223372036854775807 := by simp only [maxLen] at hmx; omega
  have HN := Lib.hid hN
  have HMM := Lib.hid hmm
  have HO := Lib.hid h
  have HCC := Lib.hid hC
  clear hN hmm h hC hm
  go_enter Try.func11, Try.ntmps11
  go_upto_region 1 with fail
  refine wp_named fun w1 hw1 => ?_
  have hS1 : Since w w1 := by subst hw1; (repeat (first | with_reducible (exact Since.refl _) | with_reducible assumption | with_reducible (refine Since.drew ?_) | with_reducible (refine Since.drewN ?_ _) | with_reducible (refine Since.alloc ?_ _) | (with_reducible (refine Since.setCell ?_ ?_ _); rotate_left; focus (first | (simp; done) | (simp; omega) | omega)) | (with_reducible (refine Since.trans ?_ (by with_reducible assumption)))))
  obtain ⟨gb, hgb0⟩ : ∃ gb, gb = w.heap.size := ⟨_, rfl⟩
  have hT1 : Two w1 gb (.slice A N c) (.slice B m d) := by subst hw1; exact two_new w gb hgb0 _ _ _
  rw [← hgb0]
  clear hw1 hgb0
  go_upto_region 3 with (go_at_call 32; (with_reducible refine (alive07 _).mono ?_); rintro e w2 ⟨rfl, hS2⟩; have hT2 := hT1.since hS2; have hA2 := hS1.trans hS2; obtain ⟨p1, p2, p3, p4, p5⟩ := id hT2; clear hT1)
  by_cases hbig : 70000 < m
  · have d1 : (70000 : Int) < (m : Int) := by omega
    go_wp2_with (go_at_call 36; (with_reducible refine (HG.out _ hA2).mono ?_); rintro e w3 ⟨g, rfl, hg, hS3⟩; have hT3 := hT2.since hS3; have hA3 := hA2.trans hS3; obtain ⟨q1, q2, q3, q4, q5⟩ := id hT3; have HNG := Lib.hid hg; clear hg; cases g)
    all_goals go_ret
    all_goals exact ⟨by first | rfl | simp, hA3⟩
  · have d1 : ¬ (70000 : Int) < (m : Int) := by omega
    go_upto_region 5 with (go_at_call 36; (with_reducible refine (HG.out _ hA2).mono ?_); rintro e w3 ⟨g, rfl, hg, hS3⟩; have hT3 := hT2.since hS3; have hA3 := hA2.trans hS3; obtain ⟨q1, q2, q3, q4, q5⟩ := id hT3; have HNG := Lib.hid hg; clear hg; cases g)
    · obtain ⟨n1, n2, n3⟩ := HNG.out (by simp)
      have hN6 : N ≤ 600 := by rw [HN.out]; exact n1
      have hNI : (N : Int) ≤ 600 := by omega
      have HW := Lib.hid (fun (w2 : World) (h2 : Since w w2) => si_write A c LL B m d C w2 (HO.out.on h2) (by omega) (fun L hL => by have := n2 L hL; omega) (HCC.out.on h2) HMM.out (by rw [← HMM.out]; omega))
      rw [← HN.out] at HW
      unfold WrPost7 at HW
      by_cases he : glE LL C = 0
      · by_cases h0 : LL = []
        · have hN0 : N = 0 := by rw [HN.out, h0]; rfl
          subst hN0
          have hB0 : glB LL C = [] := by rw [h0]; exact gl_nil
          rw [he, hB0] at HW
          clear n1 n2 n3 HNG
          go_wp2_with (go_at_call 38; (with_reducible refine (HW.out _ hA3).mono ?_); rintro e w4 ⟨v, rfl, hO4, hS4⟩; have hT4 := hT3.since hS4; obtain ⟨r1, r2, r3, r4, r5⟩ := id hT4; obtain ⟨A4, c4, rfl, hc4, hR4⟩ := hO4.rd (by omega) byL_len)
          go_ret
          exact ⟨by first | rfl | simp, hA3.trans hS4⟩
        · have hN0 : 0 < N := by rw [HN.out]; exact List.length_pos_iff.2 h0
          have hNz : ¬ (N : Int) = 0 := by omega
          obtain ⟨l1, l2⟩ := gl_len h0 he
          rw [he] at HW
          obtain ⟨X, hX⟩ : ∃ X, X = glB LL C := ⟨_, rfl⟩
          rw [← hX] at HW l1 l2
          rw [← HN.out, ← HMM.out] at l1 l2
          have n3' : sumL LL ≤ 9000 := n3
          obtain ⟨xl, hxl⟩ : ∃ xl, xl = X.length := ⟨_, rfl⟩
          rw [← hxl] at l1 l2
          have HXL := Lib.hid hxl
          have HN2 := Lib.hid n2
          clear n1 n2 n3 HNG hX hxl
          go_wp2_with (go_at_call 38; (with_reducible refine (HW.out _ hA3).mono ?_); rintro e w4 ⟨v, rfl, hO4, hS4⟩; have hT4 := hT3.since hS4; obtain ⟨r1, r2, r3, r4, r5⟩ := id hT4; obtain ⟨A4, c4, rfl, hc4, hR4⟩ := hO4.rd (by omega) byL_len; rw [← HXL.out]; have hA4 := hA3.trans hS4; clear hO4 hc4 hR4)
          go_loopw [5, 39] (fun v y wr => ∃ (j : Nat), j ≤ N ∧ y = .int .i64 (j : Int) ∧ v = .int .i64 ((sumL (LL.take j) : Nat) : Int) ∧ wr = w4) (fun _ y _ => N - (intOf y).toNat)
          case atStart => exact ⟨0, by omega, rfl, by first | rfl | simp [sumL], rfl⟩
          case round =>
            obtain ⟨j, hj, rfl, rfl, rfl⟩ := hrel
            by_cases hjn : j < N
            · have hjn' : (j : Int) < N := by omega
              have hL : LL[j]? = some (LL[j]'(by rw [← HN.out]; exact hjn)) := List.getElem?_eq_getElem _
              have hml := HN2.out _ (List.mem_of_getElem? hL)
              have hst := sum_take hL
              generalize (LL[j]'(by rw [← HN.out]; exact hjn)) = L at *
              obtain ⟨b, o, A', c', rfl, hb, hcell, hK⟩ := HO.out.row hL
              have c1 := (hA4.1 _ _ hb).trans hcell
              have hle : sumL (LL.take (j + 1)) ≤ 9000 := by
                obtain ⟨R, hR⟩ := flat_pre (k := L.length) hL
                have h2 := n3'
                rw [sumL_flat, hR, List.take_length] at h2
                rw [hst, sumL_flat]
                simp only [List.length_append] at h2
                omega
              have HST := Lib.hid hst
              rw [hst] at hle
              generalize hll : L.length = n at *
              generalize sumL (LL.take j) = S at *
              have u1 : IntKind.i64.wrap ((S : Int) + (n : Int)) = (S : Int) + (n : Int) := by rw [IntKind.wrap_i64]; omega
              clear hL hst hcell hK hll
              go_wp2_with fail
              go_roundw
              case rel => exact ⟨j + 1, by omega, by go_num, by rw [HST.out]; go_num, by first | rfl | trivial⟩
              case measure => simp [intOf]; omega
            · obtain rfl : N = j := by omega
              have e : LL.take N = LL := by rw [HN.out]; exact List.take_length
              rw [e]
              generalize sumL LL = S at *
              have m1 : IntKind.i64.wrap (2 * (N : Int)) = 2 * (N : Int) := by rw [IntKind.wrap_i64]; omega
              have m2 : IntKind.i64.wrap (12 + 2 * (N : Int)) = 12 + 2 * (N : Int) := by rw [IntKind.wrap_i64]; omega
              have m3 : IntKind.i64.wrap (12 + 2 * (N : Int) + (m : Int)) = 12 + 2 * (N : Int) + (m : Int) := by rw [IntKind.wrap_i64]; omega
              have m4 : IntKind.i64.wrap (5 * (S : Int)) = 5 * (S : Int) := by rw [IntKind.wrap_i64]; omega
              have m5 : IntKind.i64.wrap (12 + 2 * (N : Int) + (m : Int) + 5 * (S : Int)) = 12 + 2 * (N : Int) + (m : Int) + 5 * (S : Int) := by rw [IntKind.wrap_i64]; omega
              have e1 : decide ((xl : Int) ≤ 12 + 2 * (N : Int) + (m : Int) + 5 * (S : Int)) = true := by simp; omega
              have e2 : decide (12 + 2 * (N : Int) + (m : Int) < (xl : Int)) = true := by simp; omega
              clear e l1 l2
              go_wp2_with fail
              go_ret
              exact ⟨by first | rfl | simp, hA4⟩
      · rw [gl_err he] at HW
        have d0 : (glE LL C == 0) = false := by simpa using he
        generalize glE LL C = x at *
        clear n1 n2 n3 HNG
        go_wp2_with (go_at_call 38; (with_reducible refine (HW.out _ hA3).mono ?_); rintro e w4 ⟨v, rfl, hO4, hS4⟩; obtain ⟨A4, c4, rfl, hc4, hR4⟩ := hO4.rd (by omega) byL_len)
        go_ret
        exact ⟨by first | rfl | simp, hA3.trans hS4⟩
    · go_ret
      exact ⟨by first | rfl | simp, hA3⟩
end Go.Proofs.Ytpplnapfpoloiaa
