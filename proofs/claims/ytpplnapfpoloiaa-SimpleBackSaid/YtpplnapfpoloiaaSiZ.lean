/-
  Layer 7: the law SimpleBack, walked.
-/
import Derived.Test.YtpplnapfpoloiaaSiY
namespace Go.Proofs.Ytpplnapfpoloiaa
open Go.RowKit Go.ChangeShapes Go.WideShapes Go.Deep
set_option linter.unusedVariables false
set_option linter.unusedSimpArgs false

theorem same7_n (A A' : Option Addr) (c c' N : Nat) (LL : List (List Kt)) (w : World) (hN : N = LL.length) (h : RdOL w w.heap.size A LL) (h' : RdOL w w.heap.size A' LL) (hn : LL.length ≤ maxLen) (hm : ∀ L, L ∈ LL → L.length ≤ maxLen) :
    Calls Try.prog 35 #[.slice A N c, .slice A' N c'] w fun e w' => e = .returned (.bool true) ∧ Since w w' := by
  subst hN
  exact rf_sameL A A' c c' LL w h h' hn hm
set_option maxRecDepth 1000000 in
set_option maxHeartbeats 32000000 in
theorem walk_simpleback (A : Option Addr) (c : Nat) (LL : List (List Kt)) (B : Option Addr) (m d : Nat) (C : List Int) (D : Option Addr) (k e9 : Nat) (M : List Int) (w : World) (h : RdOL w w.heap.size A LL) (hn : LL.length ≤ maxLen) (hm : ∀ L, L ∈ LL → L.length ≤ maxLen) (hC : RdB w w.heap.size B C) (hmm : m = C.length) (hmx : m ≤ maxLen) (hCb : Bytes C) (hD : RdB w w.heap.size D M) (hk : k = M.length) (hkx : k ≤ maxLen) (hMb : Bytes M) :
    Calls Try.prog 10 #[.agg #[.slice A LL.length c, .slice B m d], .slice D k e9] w fun e w' => e = .returned (.bool true) ∧ Since w w' := by
  have HK := Lib.hid hk
  have HMO := Lib.hid hD
  have hkI : (k : Int) ≤ 9223372036854775807 := by simp only [maxLen] at hkx; omega
  clear hk hD
  have HG := Lib.hid (fun (w2 : World) (h2 : Since w w2) => rf_great A c LL w2 (h.on h2) hn hm)
  obtain ⟨N, hN⟩ : ∃ N, N = LL.length := ⟨_, rfl⟩
  rw [← hN] at hn HG ⊢
  have hmI : (m : Int) ≤ 9223372036854775807 := by simp only [maxLen] at hmx; omega
  have HN := Lib.hid hN
  have HMM := Lib.hid hmm
  have HO := Lib.hid h
  have HCC := Lib.hid hC
  clear hN hmm h hC hm
  go_enter Try.func10, Try.ntmps10
  go_upto_region 1 with fail
  refine wp_named fun w1 hw1 => ?_
  have hS1 : Since w w1 := by subst hw1; (repeat (first | with_reducible (exact Since.refl _) | with_reducible assumption | with_reducible (refine Since.drew ?_) | with_reducible (refine Since.drewN ?_ _) | with_reducible (refine Since.alloc ?_ _) | (with_reducible (refine Since.setCell ?_ ?_ _); rotate_left; focus (first | (simp; done) | (simp; omega) | omega)) | (with_reducible (refine Since.trans ?_ (by with_reducible assumption)))))
  obtain ⟨gb, hgb0⟩ : ∃ gb, gb = w.heap.size := ⟨_, rfl⟩
  have hT1 : Two w1 gb (.slice A N c) (.slice B m d) := by subst hw1; exact two_new w gb hgb0 _ _ _
  rw [← hgb0]
  clear hw1 hgb0
  go_upto_region 3 with (go_at_call 32; (with_reducible refine (alive07 _).mono ?_); rintro e w2 ⟨rfl, hS2⟩; have hT2 := hT1.since hS2; have hA2 := hS1.trans hS2; obtain ⟨p1, p2, p3, p4, p5⟩ := id hT2; clear hT1)
  by_cases hbig : 70000 < m
  · have d1 : (70000 : Int) < (m : Int) := by omega
    go_wp2_with (go_at_call 36; (with_reducible refine (HG.out _ hA2).mono ?_); rintro e w3 ⟨g, rfl, hg, hS3⟩; have hT3 := hT2.since hS3; have hA3 := hA2.trans hS3; obtain ⟨q1, q2, q3, q4, q5⟩ := id hT3; have HNG := Lib.hid hg; clear hg; cases g)
    all_goals go_ret
    all_goals exact ⟨by first | rfl | simp, hA3⟩
  have d1 : ¬ (70000 : Int) < (m : Int) := by omega
  by_cases hbigk : 1000 < k
  · have d2 : (1000 : Int) < (k : Int) := by omega
    go_wp2_with (go_at_call 36; (with_reducible refine (HG.out _ hA2).mono ?_); rintro e w3 ⟨g, rfl, hg, hS3⟩; have hT3 := hT2.since hS3; have hA3 := hA2.trans hS3; obtain ⟨q1, q2, q3, q4, q5⟩ := id hT3; have HNG := Lib.hid hg; clear hg; cases g)
    all_goals go_ret
    all_goals exact ⟨by first | rfl | simp, hA3⟩
  have d2 : ¬ (1000 : Int) < (k : Int) := by omega
  go_upto_region 5 with (go_at_call 36; (with_reducible refine (HG.out _ hA2).mono ?_); rintro e w3 ⟨g, rfl, hg, hS3⟩; have hT3 := hT2.since hS3; have hA3 := hA2.trans hS3; obtain ⟨q1, q2, q3, q4, q5⟩ := id hT3; have HNG := Lib.hid hg; clear hg; cases g)
  · obtain ⟨n1, n2, n3⟩ := HNG.out (by simp)
    have hN6 : N ≤ 600 := by rw [HN.out]; exact n1
    have HW := Lib.hid (fun (w2 : World) (h2 : Since w w2) => si_write A c LL B m d C w2 (HO.out.on h2) (by omega) (fun L hL => by have := n2 L hL; omega) (HCC.out.on h2) HMM.out (by rw [← HMM.out]; omega))
    rw [← HN.out] at HW
    unfold WrPost7 at HW
    by_cases he : glE LL C = 0
    · have HW2 := Lib.hid (fun (A7 : Option Addr) (c7 : Nat) (A8 : Option Addr) (c8 : Nat) (w2 : World) (h7 : RdOL w2 w2.heap.size A7 LL) (h8 : RdB w2 w2.heap.size A8 C) => si_write A7 c7 LL A8 m c8 C w2 h7 (by omega) (fun L hL => by have := n2 L hL; omega) h8 HMM.out (by rw [← HMM.out]; omega))
      rw [← HN.out] at HW2
      unfold WrPost7 at HW2
      have HSM := Lib.hid (fun (A7 : Option Addr) (c7 : Nat) (w2 : World) (h7 : RdOL w2 w2.heap.size A7 LL) (h8 : RdOL w2 w2.heap.size A LL) => same7_n A7 A c7 c N LL w2 HN.out h7 h8 (by simp only [maxLen]; omega) (fun L hL => by have := n2 L hL; simp only [maxLen]; omega))
      have hXB : (glB LL C).length ≤ 200000 := by
        by_cases h0 : LL = []
        · rw [h0, gl_nil]; simp
        · have := (gl_len h0 he).1; have h9 : sumL LL ≤ 9000 := n3; rw [← HMM.out] at this; omega
      have HRB := Lib.hid (fun (M : List Int) (hM : glB LL C = [] → M = []) (hMb : Bytes M) (A : Option Addr) (n c : Nat) (w : World) (h : RdB w w.heap.size A (glB LL C ++ M)) (hn : n = (glB LL C ++ M).length) (hn4 : n ≤ 140737488355328) (hnc : n ≤ c) => si_read_back he hM hCb hMb A n c w h hn hn4 hnc N m HN.out HMM.out)
      rw [he] at HW HW2
      obtain ⟨X, hX⟩ : ∃ X, X = glB LL C := ⟨_, rfl⟩
      rw [← hX] at HW HW2 HRB hXB
      obtain ⟨xl, hxl⟩ : ∃ xl, xl = X.length := ⟨_, rfl⟩
      have HXL := Lib.hid hxl
      have hxb : X.length ≤ 140737488355328 := by omega
      have hbig2 : X.length + M.length ≤ 140737488355328 := by rw [← HK.out]; omega
      have tok1 : True := trivial
      have tok2 : True := trivial
      have tok3 : True := trivial
      have tok4 : True := trivial
      clear hX n1 n2 n3 HNG he
      by_cases hx0 : X = []
      · have hxl0 : xl = 0 := by rw [hxl, hx0]; rfl
        have HRB2 := Lib.hid (fun A c w h => HRB.out [] (fun _ => rfl) (fun v hv => by cases hv) A xl c w h (by rw [List.append_nil]; exact HXL.out) (by omega))
        rw [List.append_nil] at HRB2
        have hxz : (xl : Int) = 0 := by omega
        have hxz2 : ¬ (0 : Int) < (xl : Int) := by omega
        clear hxl hx0 hbig2 hxl0
        go_wp2_with (first | (go_at_call 38; have _t := tok1; (with_reducible refine (HW.out _ hA3).mono ?_); rintro e w4 ⟨v, rfl, hO4, hS4⟩; have hT4 := hT3.since hS4; obtain ⟨r1, r2, r3, r4, r5⟩ := id hT4; obtain ⟨A4, c4, rfl, hc4, hR4⟩ := hO4.rd (by omega) byL_len; rw [← HXL.out] at hc4 ⊢; have hA4 := hA3.trans hS4; clear hO4 tok1) | (go_at_call 28; (with_reducible refine (copy_l A4 xl c4 X _ HXL.out hR4 hxb).mono ?_); rintro e w5 ⟨g5, p5, rfl, hp5, hg5, hO5, hR5, hS5⟩; have hT5 := hT4.since hS5; have hA5 := hA4.trans hS5; have hR45 := hR4.on hS5; obtain ⟨s1, s2, s3, s4, s5⟩ := id hT5) | (go_at_call 33; (with_reducible refine (HRB2.out (some ⟨g5, 0, none⟩) p5 _ hR5 hp5).mono ?_); rintro e w7 ⟨A7, c7, A8, c8, rfl, hR7, hC7, hS7⟩; have hT7 := hT5.since hS7; have hA7 := hA5.trans hS7; have hR47 := hR45.on hS7; have hS78 := (Since.refl w7).alloc (.cells #[.slice A7 N c7, .slice A8 m c8] 52); have hA8 := hA7.trans hS78; have hT8 := hT7.since hS78; have hU8 := two_new w7 w7.heap.size rfl (.slice A7 N c7) (.slice A8 m c8) 52; have hR48 := hR47.on hS78; have hR8 := hR7.on hS78; have hC8 := hC7.on hS78; obtain ⟨x1, x2, x3, x4, x5⟩ := id hT8) | (go_at_call 38; have _t := tok2; (with_reducible refine (HW2.out A7 c7 A8 c8 _ hR8 hC8).mono ?_); rintro e w9 ⟨v9, rfl, hO9, hS9⟩; have hT9 := hT8.since hS9; have hU9 := hU8.since hS9; have hA9 := hA8.trans hS9; obtain ⟨A9, c9, rfl, hc9, hR9⟩ := hO9.rd (by omega) byL_len; rw [← HXL.out] at hc9 ⊢; have hR49 := hR48.on hS9; have hRG9 := hR8.on hS9; have hCG9 := hC8.on hS9; have hG9 := HO.out.on hA9; have hH9 := HCC.out.on hA9; obtain ⟨y1, y2, y3, y4, y5⟩ := id hT9; obtain ⟨z1, z2, z3, z4, z5⟩ := id hU9; clear hO9 tok2) | (go_at_call 35; (with_reducible refine (HSM.out A7 c7 _ hRG9 hG9).mono ?_); rintro e wa ⟨rfl, hSa⟩; have hAa := hA9.trans hSa; have hCGa := hCG9.on hSa; have hHa := hH9.on hSa; have hR4a := hR49.on hSa; have hR9a := hR9.on hSa; have hTa := hT9.since hSa; have hUa := hU9.since hSa; obtain ⟨y1, y2, y3, y4, y5⟩ := id hTa; obtain ⟨z1, z2, z3, z4, z5⟩ := id hUa) | (go_at_call 22; have _t := tok3; (with_reducible refine (same_l A8 B m m c8 d C C _ HMM.out HMM.out hCGa hHa rfl).mono ?_); rintro e wb ⟨rfl, hwb⟩; have hwc := hwb.symm; subst hwc; clear hwb tok3) | (go_at_call 22; have _t := tok4; (with_reducible refine (same_l A4 A9 xl xl c4 c9 X X _ HXL.out HXL.out hR4a hR9a rfl).mono ?_); rintro e wc ⟨rfl, hwc⟩; have hwd := hwc.symm; subst hwd; clear hwc tok4))
        go_ret
        exact ⟨by first | rfl | simp, hAa⟩
      · have hxp : 0 < xl := by rw [hxl]; exact List.length_pos_iff.2 hx0
        have hxz : (0 : Int) < (xl : Int) := by omega
        have HRB2 := Lib.hid (fun A c w h hc => HRB.out M (fun e => absurd e hx0) hMb A (X.length + M.length) c w h (by rw [List.length_append]) hbig2 hc)
        clear hxl hx0
        go_wp2_with (first | (go_at_call 38; have _t := tok1; (with_reducible refine (HW.out _ hA3).mono ?_); rintro e w4 ⟨v, rfl, hO4, hS4⟩; have hT4 := hT3.since hS4; obtain ⟨r1, r2, r3, r4, r5⟩ := id hT4; obtain ⟨A4, c4, rfl, hc4, hR4⟩ := hO4.rd (by omega) byL_len; rw [← HXL.out] at hc4 ⊢; have hA4 := hA3.trans hS4; clear hO4 tok1) | (go_at_call 28; (with_reducible refine (copy_l A4 xl c4 X _ HXL.out hR4 hxb).mono ?_); rintro e w5 ⟨g5, p5, rfl, hp5, hg5, hO5, hR5, hS5⟩; have hT5 := hT4.since hS5; have hA5 := hA4.trans hS5; have hR45 := hR4.on hS5; obtain ⟨s1, s2, s3, s4, s5⟩ := id hT5) | (at_builtin; refine wpList_append_b rfl _ _ rfl hS5 _ X rfl hO5 _ D k e9 M HK.out rfl (HMO.out.on hA5) hbig2 ?_; intro v6 w6 hO6 hS6; have hA6 := hA4.trans hS6; have hT6 := hT4.since hS6; have hR46 := hR4.on hS6; obtain ⟨A6, c6, rfl, hc6, hR6⟩ := hO6.rd (by omega) byL_len; rw [List.length_append] at hc6 ⊢; obtain ⟨t1, t2, t3, t4, t5⟩ := id hT6) | (go_at_call 33; (with_reducible refine (HRB2.out A6 c6 _ hR6 hc6).mono ?_); rintro e w7 ⟨A7, c7, A8, c8, rfl, hR7, hC7, hS7⟩; have hT7 := hT6.since hS7; have hA7 := hA6.trans hS7; have hR47 := hR46.on hS7; have hS78 := (Since.refl w7).alloc (.cells #[.slice A7 N c7, .slice A8 m c8] 52); have hA8 := hA7.trans hS78; have hT8 := hT7.since hS78; have hU8 := two_new w7 w7.heap.size rfl (.slice A7 N c7) (.slice A8 m c8) 52; have hR48 := hR47.on hS78; have hR8 := hR7.on hS78; have hC8 := hC7.on hS78; obtain ⟨x1, x2, x3, x4, x5⟩ := id hT8) | (go_at_call 38; have _t := tok2; (with_reducible refine (HW2.out A7 c7 A8 c8 _ hR8 hC8).mono ?_); rintro e w9 ⟨v9, rfl, hO9, hS9⟩; have hT9 := hT8.since hS9; have hU9 := hU8.since hS9; have hA9 := hA8.trans hS9; obtain ⟨A9, c9, rfl, hc9, hR9⟩ := hO9.rd (by omega) byL_len; rw [← HXL.out] at hc9 ⊢; have hR49 := hR48.on hS9; have hRG9 := hR8.on hS9; have hCG9 := hC8.on hS9; have hG9 := HO.out.on hA9; have hH9 := HCC.out.on hA9; obtain ⟨y1, y2, y3, y4, y5⟩ := id hT9; obtain ⟨z1, z2, z3, z4, z5⟩ := id hU9; clear hO9 tok2) | (go_at_call 35; (with_reducible refine (HSM.out A7 c7 _ hRG9 hG9).mono ?_); rintro e wa ⟨rfl, hSa⟩; have hAa := hA9.trans hSa; have hCGa := hCG9.on hSa; have hHa := hH9.on hSa; have hR4a := hR49.on hSa; have hR9a := hR9.on hSa; have hTa := hT9.since hSa; have hUa := hU9.since hSa; obtain ⟨y1, y2, y3, y4, y5⟩ := id hTa; obtain ⟨z1, z2, z3, z4, z5⟩ := id hUa) | (go_at_call 22; have _t := tok3; (with_reducible refine (same_l A8 B m m c8 d C C _ HMM.out HMM.out hCGa hHa rfl).mono ?_); rintro e wb ⟨rfl, hwb⟩; have hwc := hwb.symm; subst hwc; clear hwb tok3) | (go_at_call 22; have _t := tok4; (with_reducible refine (same_l A4 A9 xl xl c4 c9 X X _ HXL.out HXL.out hR4a hR9a rfl).mono ?_); rintro e wc ⟨rfl, hwc⟩; have hwd := hwc.symm; subst hwd; clear hwc tok4))
        go_ret
        exact ⟨by first | rfl | simp, hAa⟩
    · rw [gl_err he] at HW
      have d0 : (glE LL C == 0) = false := by simpa using he
      generalize glE LL C = y at *
      clear n1 n2 n3 HNG
      go_wp2_with (go_at_call 38; (with_reducible refine (HW.out _ hA3).mono ?_); rintro e w4 ⟨v, rfl, hO4, hS4⟩; obtain ⟨A4, c4, rfl, hc4, hR4⟩ := hO4.rd (by omega) byL_len)
      go_ret
      exact ⟨by first | rfl | simp, hA3.trans hS4⟩
  · go_ret
    exact ⟨by first | rfl | simp, hA3⟩
end Go.Proofs.Ytpplnapfpoloiaa
