/-
  Layer 7: the law SimpleWrites, walked.
-/
import Derived.Test.YtpplnapfpoloiaaSjB
import Derived.Test.YtpplnapfpoloiaaSjC
import Derived.Deep.RegionWith
namespace Go.Proofs.Ytpplnapfpoloiaa
open Go.RowKit Go.ChangeShapes Go.WideShapes Go.Deep
set_option linter.unusedVariables false
set_option linter.unusedSimpArgs false

theorem same7_m (A A' : Option Addr) (c c' N : Nat) (LL : List (List Kt)) (w : World) (hN : N = LL.length) (h : RdOL w w.heap.size A LL) (h' : RdOL w w.heap.size A' LL) (hn : LL.length ≤ maxLen) (hm : ∀ L, L ∈ LL → L.length ≤ maxLen) :
    Calls Try.prog 35 #[.slice A N c, .slice A' N c'] w fun e w' => e = .returned (.bool true) ∧ Since w w' := by
  subst hN
  exact rf_sameL A A' c c' LL w h h' hn hm
set_option maxRecDepth 1000000 in
set_option maxHeartbeats 64000000 in
theorem walk_simplewrites (A : Option Addr) (c : Nat) (LL : List (List Kt)) (B : Option Addr) (m d : Nat) (C : List Int) (w : World) (h : RdOL w w.heap.size A LL) (hn : LL.length ≤ maxLen) (hm : ∀ L, L ∈ LL → L.length ≤ maxLen) (hC : RdB w w.heap.size B C) (hmm : m = C.length) (hmx : m ≤ maxLen) :
    Calls Try.prog 9 #[.agg #[.slice A LL.length c, .slice B m d]] w fun e w' => e = .returned (.bool true) ∧ Since w w' := by
  have HG := Lib.hid (fun (w2 : World) (h2 : Since w w2) => rf_great A c LL w2 (h.on h2) hn hm)
  obtain ⟨N, hN⟩ : ∃ N, N = LL.length := ⟨_, rfl⟩
  rw [← hN] at hn HG ⊢
  have hmI : (m : Int) ≤ 9223372036854775807 := by simp only [maxLen] at hmx; omega
  have HN := Lib.hid hN
  have HMM := Lib.hid hmm
  have HO := Lib.hid h
  have HCC := Lib.hid hC
  clear hN hmm h hC hm
  go_enter Try.func9, Try.ntmps9
  go_upto_region 1 with fail
  refine wp_named fun w1 hw1 => ?_
  have hS1 : Since w w1 := by subst hw1; (repeat (first | with_reducible (exact Since.refl _) | with_reducible assumption | with_reducible (refine Since.drew ?_) | with_reducible (refine Since.drewN ?_ _) | with_reducible (refine Since.alloc ?_ _) | (with_reducible (refine Since.setCell ?_ ?_ _); rotate_left; focus (first | (simp; done) | (simp; omega) | omega)) | (with_reducible (refine Since.trans ?_ (by with_reducible assumption)))))
  obtain ⟨gb, hgb0⟩ : ∃ gb, gb = w.heap.size := ⟨_, rfl⟩
  have hT1 : Two w1 gb (.slice A N c) (.slice B m d) := by subst hw1; exact two_new w gb hgb0 _ _ _
  rw [← hgb0]
  clear hw1 hgb0
  go_upto_region 3 with (go_at_call 32; (with_reducible refine (alive07 _).mono ?_); rintro e w2 ⟨rfl, hS2⟩; have hT2 := hT1.since hS2; have hA2 := hS1.trans hS2; obtain ⟨p1, p2, p3, p4, p5⟩ := id hT2; clear hT1)
  by_cases hbig : 70000 < m
  · have d1 : (70000 : Int) < (m : Int) := by omega
    go_wp2_with (go_at_call 36; (with_reducible refine (HG.out _ hA2).mono ?_); rintro e w3 ⟨g, rfl, hg, hS3⟩; have hT3 := hT2.since hS3; have hA3 := hA2.trans hS3; obtain ⟨q1, q2, q3, q4, q5⟩ := id hT3; have HNG := Lib.hid hg; clear hg; cases g)
    all_goals go_ret
    all_goals exact ⟨by first | rfl | simp, hA3⟩
  · have d1 : ¬ (70000 : Int) < (m : Int) := by omega
    go_upto_region 5 with (go_at_call 36; (with_reducible refine (HG.out _ hA2).mono ?_); rintro e w3 ⟨g, rfl, hg, hS3⟩; have hT3 := hT2.since hS3; have hA3 := hA2.trans hS3; obtain ⟨q1, q2, q3, q4, q5⟩ := id hT3; have HNG := Lib.hid hg; clear hg; cases g)
    · obtain ⟨n1, n2, n3⟩ := HNG.out (by simp)
      have hN6 : N ≤ 600 := by rw [HN.out]; exact n1
      have hNI : (N : Int) ≤ 600 := by omega
      have hN9 : LL.length ≤ 1000000 := by rw [← HN.out]; omega
      have HM9 := Lib.hid (show ∀ L, L ∈ LL → L.length ≤ 1000000 from fun L hL => by have := n2 L hL; omega)
      have HCP := Lib.hid (fun (w2 : World) (h2 : Since w3 w2) => rf_copyO A c LL w2 (HO.out.on (hA3.trans h2)) hN9 HM9.out)
      rw [← HN.out] at HCP
      have HCB := Lib.hid (fun (w2 : World) (h2 : Since w3 w2) => copy_l B m d C w2 HMM.out (HCC.out.on (hA3.trans h2)) (by rw [← HMM.out]; omega))
      clear p1 p2 p3 p4 p5 hT2 n1 n2 n3 HNG HG hS1 hS2 hA2 hS3
      have tok1 : True := trivial
      have tok2 : True := trivial
      go_cut [3] (fun v wx => ∃ g A5 c5 A6 c6, v = .pointer (some ⟨g, 0, none⟩) ∧ Two wx g (.slice A5 N c5) (.slice A6 m c6) ∧ RdOL wx wx.heap.size A5 LL ∧ RdB wx wx.heap.size A6 C ∧ Since w3 wx)
      case first =>
        go_region_with (first | (go_at_call 37; (with_reducible refine (HCP.out _ (by (repeat (first | with_reducible (exact Since.refl _) | with_reducible assumption | with_reducible (refine Since.drew ?_) | with_reducible (refine Since.drewN ?_ _) | with_reducible (refine Since.alloc ?_ _) | (with_reducible (refine Since.setCell ?_ ?_ _); rotate_left; focus (first | (simp; done) | (simp; omega) | omega)) | (with_reducible (refine Since.trans ?_ (by with_reducible assumption))))))).mono ?_); rintro e w4 ⟨A5, c5, rfl, hO5, hS5⟩; have hX5 : Since w3 w4 := (by (repeat (first | with_reducible (exact Since.refl _) | with_reducible assumption | with_reducible (refine Since.drew ?_) | with_reducible (refine Since.drewN ?_ _) | with_reducible (refine Since.alloc ?_ _) | (with_reducible (refine Since.setCell ?_ ?_ _); rotate_left; focus (first | (simp; done) | (simp; omega) | omega)) | (with_reducible (refine Since.trans ?_ (by with_reducible assumption)))))); have hz5 := hX5.below.size; obtain ⟨q1, q2, q3, q4, q5⟩ := hT3.since hX5; (try have hZ := two_sd hS5); (try have hZ := two_sn hS5); (try have hZ := hZ.since hS5); (first | have hY : Since w5 w4 := hS5 | have hY : Since w5 w4 := ((Since.refl w5).alloc _).trans hS5 | skip); (try (obtain ⟨z1, z2, z3, z4, z5⟩ := id hZ))) | (go_at_call 28; (with_reducible refine (HCB.out _ (by (repeat (first | with_reducible (exact Since.refl _) | with_reducible assumption | with_reducible (refine Since.drew ?_) | with_reducible (refine Since.drewN ?_ _) | with_reducible (refine Since.alloc ?_ _) | (with_reducible (refine Since.setCell ?_ ?_ _); rotate_left; focus (first | (simp; done) | (simp; omega) | omega)) | (with_reducible (refine Since.trans ?_ (by with_reducible assumption))))))).mono ?_); rintro e w5 ⟨g6, c6, rfl, hc6, hg6, hO6, hR6, hS6⟩; have hX6 : Since w3 w5 := (by (repeat (first | with_reducible (exact Since.refl _) | with_reducible assumption | with_reducible (refine Since.drew ?_) | with_reducible (refine Since.drewN ?_ _) | with_reducible (refine Since.alloc ?_ _) | (with_reducible (refine Since.setCell ?_ ?_ _); rotate_left; focus (first | (simp; done) | (simp; omega) | omega)) | (with_reducible (refine Since.trans ?_ (by with_reducible assumption)))))); have hz6 := hX6.below.size; obtain ⟨q1, q2, q3, q4, q5⟩ := hT3.since hX6; (try have hZ := two_sd hS6); (try have hZ := two_sn hS6); (try have hZ := hZ.since hS6); (first | have hY : Since w4 w5 := hS6 | have hY : Since w4 w5 := ((Since.refl w4).alloc _).trans hS6 | skip); (try (obtain ⟨z1, z2, z3, z4, z5⟩ := id hZ))))
        all_goals go_wp2_with fail
        all_goals go_meet
        all_goals first
          | exact ⟨_, A5, c5, _, c6, rfl, two_new _ _ rfl _ _ _, ownO_rdv (OwnO.since hO5 (by (repeat (first | with_reducible (exact Since.refl _) | with_reducible assumption | with_reducible (refine Since.drew ?_) | with_reducible (refine Since.drewN ?_ _) | with_reducible (refine Since.alloc ?_ _) | (with_reducible (refine Since.setCell ?_ ?_ _); rotate_left; focus (first | (simp; done) | (simp; omega) | omega)) | (with_reducible (refine Since.trans ?_ (by with_reducible assumption))))))), own_rdv (by omega) byL_len (OwnG.since hO6 (by (repeat (first | with_reducible (exact Since.refl _) | with_reducible assumption | with_reducible (refine Since.drew ?_) | with_reducible (refine Since.drewN ?_ _) | with_reducible (refine Since.alloc ?_ _) | (with_reducible (refine Since.setCell ?_ ?_ _); rotate_left; focus (first | (simp; done) | (simp; omega) | omega)) | (with_reducible (refine Since.trans ?_ (by with_reducible assumption))))))), by (repeat (first | with_reducible (exact Since.refl _) | with_reducible assumption | with_reducible (refine Since.drew ?_) | with_reducible (refine Since.drewN ?_ _) | with_reducible (refine Since.alloc ?_ _) | (with_reducible (refine Since.setCell ?_ ?_ _); rotate_left; focus (first | (simp; done) | (simp; omega) | omega)) | (with_reducible (refine Since.trans ?_ (by with_reducible assumption)))))⟩
          | exact ⟨_, A5, c5, _, c6, rfl, two_put hZ _ _, copy_rdO hO5 (by (repeat (first | with_reducible (exact Since.refl _) | with_reducible assumption | with_reducible (refine Since.drew ?_) | with_reducible (refine Since.drewN ?_ _) | with_reducible (refine Since.alloc ?_ _) | (with_reducible (refine Since.setCell ?_ ?_ _); rotate_left; focus (first | (simp; done) | (simp; omega) | omega)) | (with_reducible (refine Since.trans ?_ (by with_reducible assumption)))))) (by first | (left; simp; done) | (left; simp; omega) | (right; simp; done) | (right; simp; omega) | omega) _ _, copy_rdB hO6 (by (repeat (first | with_reducible (exact Since.refl _) | with_reducible assumption | with_reducible (refine Since.drew ?_) | with_reducible (refine Since.drewN ?_ _) | with_reducible (refine Since.alloc ?_ _) | (with_reducible (refine Since.setCell ?_ ?_ _); rotate_left; focus (first | (simp; done) | (simp; omega) | omega)) | (with_reducible (refine Since.trans ?_ (by with_reducible assumption)))))) (by first | (left; simp; done) | (left; simp; omega) | (right; simp; done) | (right; simp; omega) | omega) _ _, by (repeat (first | with_reducible (exact Since.refl _) | with_reducible assumption | with_reducible (refine Since.drew ?_) | with_reducible (refine Since.drewN ?_ _) | with_reducible (refine Since.alloc ?_ _) | (with_reducible (refine Since.setCell ?_ ?_ _); rotate_left; focus (first | (simp; done) | (simp; omega) | omega)) | (with_reducible (refine Since.trans ?_ (by with_reducible assumption)))))⟩
      obtain ⟨g, A5, c5, A6, c6, rfl, hU, hR5, hR6, hX⟩ := hcut
      have hml : C.length ≤ 140737488355328 := by rw [← HMM.out]; omega
      have hm0 : LL.length ≤ maxLen := by simp only [maxLen]; omega
      have HW := Lib.hid (si_write A5 c5 LL A6 m c6 C wc hR5 hN9 HM9.out hR6 HMM.out hml)
      have HRW := Lib.hid (fun (w2 : World) (h2 : Since w w2) => rf_write7 A c LL B m d C w2 (HO.out.on h2) hN9 HM9.out (HCC.out.on h2) HMM.out hml)
      have HBX := Lib.hid (fun (w2 : World) (h2 : Since wc w2) => si_box A5 c5 LL w2 (hR5.on h2) hN9 HM9.out)
      have HRB := Lib.hid (fun (w2 : World) (h2 : Since w w2) => rf_boxE A c LL w2 (HO.out.on h2) hN9 HM9.out)
      have HSM := Lib.hid (fun (w2 : World) (h2 : Since wc w2) (h3 : Since w w2) => same7_m A5 A c5 c N LL w2 HN.out (hR5.on h2) (HO.out.on h3) hm0 (fun L hL => by have := HM9.out L hL; simp only [maxLen]; omega))
      have HSC := Lib.hid (fun (w2 : World) (h2 : Since wc w2) (h3 : Since w w2) => same_l A6 B m m c6 d C C w2 HMM.out HMM.out (hR6.on h2) (HCC.out.on h3) rfl)
      rw [← HN.out] at HW HRW HBX HRB
      unfold WrPost7 at HW HRW
      unfold BoxPost7 at HBX HRB
      have hAc := hA3.trans hX
      have hTc := hT3.since hX
      obtain ⟨p1, p2, p3, p4, p5⟩ := id hTc
      obtain ⟨s1, s2, s3, s4, s5⟩ := id hU
      clear hT3 hX hml hm0 HCP HCB HCC HO HMM q1 q2 q3 q4 q5 hN9 HM9 hR5 hR6
      generalize glE LL C = E9 at *
      generalize glB LL C = G9 at *
      generalize mn7 (LL.flatten.map Kt.x) = bx1 at *
      generalize mn7 (LL.flatten.map Kt.y) = bx2 at *
      generalize mx7 (LL.flatten.map Kt.x) = bx3 at *
      generalize mx7 (LL.flatten.map Kt.y) = bx4 at *
      obtain ⟨gl, hgl⟩ : ∃ gl, gl = G9.length := ⟨_, rfl⟩
      have HGL := Lib.hid hgl
      clear hgl
      go_upto_region 8 with (first | (go_at_call 38; (with_reducible refine HW.out.mono ?_); rintro e w4 ⟨v4, rfl, hO4, hS4⟩; have hA4 := hAc.trans hS4; have hT4 := hTc.since hS4; have hU4 := hU.since hS4; obtain ⟨q1, q2, q3, q4, q5⟩ := id hT4) | (go_at_call 39; (with_reducible refine (HRW.out _ hA4).mono ?_); rintro e w5 ⟨v5, rfl, hO5, hS5⟩; have hA5 := hA4.trans hS5; have hT5 := hT4.since hS5; have hU5 := hU4.since hS5; have hB5 := hS4.trans hS5))
      obtain ⟨A7, c7, rfl, _, hR7⟩ := OwnG.rd (by omega) byL_len (OwnG.since hO4 hS5)
      obtain ⟨A8, c8, rfl, _, hR8⟩ := hO5.rd (by omega) byL_len
      rw [← HGL.out]
      clear hO4 hO5 hS4 hS5 hT4 hU4 hA4 hU hTc hAc p1 p2 p3 p4 p5 q1 q2 q3 q4 q5 s1 s2 s3 s4 s5 HW HRW
      obtain ⟨p1, p2, p3, p4, p5⟩ := id hT5
      obtain ⟨s1, s2, s3, s4, s5⟩ := id hU5
      go_upto_region 9 with (go_at_call 40; (with_reducible refine (HBX.out _ hB5).mono ?_); rintro e w6 ⟨rfl, hS6⟩; have hA6 := hA5.trans hS6; have hT6 := hT5.since hS6; have hU6 := hU5.since hS6; have hB6 := hB5.trans hS6; have hR76 := hR7.on hS6; have hR86 := hR8.on hS6)
      refine wp_named fun w7 hw7 => ?_
      have hS7 : Since w6 w7 := by subst hw7; (repeat (first | with_reducible (exact Since.refl _) | with_reducible assumption | with_reducible (refine Since.drew ?_) | with_reducible (refine Since.drewN ?_ _) | with_reducible (refine Since.alloc ?_ _) | (with_reducible (refine Since.setCell ?_ ?_ _); rotate_left; focus (first | (simp; done) | (simp; omega) | omega)) | (with_reducible (refine Since.trans ?_ (by with_reducible assumption)))))
      obtain ⟨ga, hga⟩ : ∃ ga, ga = w6.heap.size := ⟨_, rfl⟩
      have hP1 : Two w7 ga (.int .i64 bx1) (.int .i64 bx2) := by subst hw7; exact (two_new w6 ga hga _ _ _).since ((Since.refl _).alloc _)
      have hP2 : Two w7 (ga + 1) (.int .i64 bx3) (.int .i64 bx4) := by subst hw7; exact two_new _ (ga + 1) (by rw [hga]; simp) _ _ _
      rw [← hga]
      have hA7 := hA6.trans hS7
      have hB7 := hB6.trans hS7
      have hT7 := hT6.since hS7
      have hU7 := hU6.since hS7
      have hR77 := hR76.on hS7
      have hR87 := hR86.on hS7
      clear hw7 hga p1 p2 p3 p4 p5 s1 s2 s3 s4 s5
      obtain ⟨p1, p2, p3, p4, p5⟩ := id hT7
      go_upto_region 10 with (go_at_call 41; (with_reducible refine (HRB.out _ hA7).mono ?_); rintro e w8 ⟨rfl, hS8⟩)
      refine wp_named fun w9 hw9 => ?_
      have hS9 : Since w8 w9 := by subst hw9; (repeat (first | with_reducible (exact Since.refl _) | with_reducible assumption | with_reducible (refine Since.drew ?_) | with_reducible (refine Since.drewN ?_ _) | with_reducible (refine Since.alloc ?_ _) | (with_reducible (refine Since.setCell ?_ ?_ _); rotate_left; focus (first | (simp; done) | (simp; omega) | omega)) | (with_reducible (refine Since.trans ?_ (by with_reducible assumption)))))
      obtain ⟨gc, hgc⟩ : ∃ gc, gc = w8.heap.size := ⟨_, rfl⟩
      have hP3 : Two w9 gc (.int .i64 bx1) (.int .i64 bx2) := by subst hw9; exact (two_new w8 gc hgc _ _ _).since ((Since.refl _).alloc _)
      have hP4 : Two w9 (gc + 1) (.int .i64 bx3) (.int .i64 bx4) := by subst hw9; exact two_new _ (gc + 1) (by rw [hgc]; simp) _ _ _
      rw [← hgc]
      have hS79 := hS8.trans hS9
      have hA9 := hA7.trans hS79
      have hB9 := hB7.trans hS79
      have hT9 := hT7.since hS79
      have hU9 := hU7.since hS79
      have hR79 := hR77.on hS79
      have hR89 := hR87.on hS79
      clear hw9 hgc p1 p2 p3 p4 p5
      obtain ⟨p1, p2, p3, p4, p5⟩ := id hT9
      obtain ⟨s1, s2, s3, s4, s5⟩ := id hU9
      obtain ⟨a1, a2, a3, a4, a5⟩ := hP1.since hS79
      obtain ⟨b1, b2, b3, b4, b5⟩ := hP2.since hS79
      obtain ⟨y1, y2, y3, y4, y5⟩ := id hP3
      obtain ⟨z1, z2, z3, z4, z5⟩ := id hP4
      have tok1 : True := trivial
      clear hT5 hU5 hA5 hB5 hT6 hU6 hA6 hB6 hT7 hU7 hA7 hB7 hR7 hR8 hR76 hR86 hR77 hR87 hP1 hP2 hP3 hP4
      go_wp2_with (first | (go_at_call 22; have _t := tok1; (with_reducible refine (same_l A7 A8 gl gl c7 c8 G9 G9 _ HGL.out HGL.out hR79 hR89 rfl).mono ?_); rintro e wb ⟨rfl, hwb⟩; have hwc := hwb.symm; subst hwc; clear hwb tok1) | (go_at_call 35; (with_reducible refine (HSM.out _ hB9 hA9).mono ?_); rintro e wa ⟨rfl, hSa⟩; have hAa := hA9.trans hSa; have hBa := hB9.trans hSa; obtain ⟨v1, v2, v3, v4, v5⟩ := hT9.since hSa; obtain ⟨x1, x2, x3, x4, x5⟩ := hU9.since hSa) | (go_at_call 22; (with_reducible refine (HSC.out _ hBa hAa).mono ?_); rintro e wd ⟨rfl, hwd⟩; have hwe := hwd.symm; subst hwe; clear hwd))
      go_ret
      exact ⟨by first | rfl | simp, hAa⟩
    · go_ret
      exact ⟨by first | rfl | simp, hA3⟩
end Go.Proofs.Ytpplnapfpoloiaa
