/-
  Layer 7: the law SimpleMoves, walked.
-/
import Derived.Test.YtpplnapfpoloiaaSjM
namespace Go.Proofs.Ytpplnapfpoloiaa
open Go.RowKit Go.ChangeShapes Go.WideShapes Go.Deep
set_option linter.unusedVariables false
set_option linter.unusedSimpArgs false

theorem same7_v (A A' : Option Addr) (c c' N : Nat) (LL : List (List Kt)) (w : World) (hN : N = LL.length) (h : RdOL w w.heap.size A LL) (h' : RdOL w w.heap.size A' LL) (hn : LL.length ≤ maxLen) (hm : ∀ L, L ∈ LL → L.length ≤ maxLen) :
    Calls Try.prog 35 #[.slice A N c, .slice A' N c'] w fun e w' => e = .returned (.bool true) ∧ Since w w' := by
  subst hN
  exact rf_sameL A A' c c' LL w h h' hn hm
theorem ap_ne {g base b0 q : Nat} (h : g < base ∨ b0 ≤ g) (h1 : base ≤ q) (h2 : q < b0) : q ≠ g := by omega
set_option maxRecDepth 1000000 in
set_option maxHeartbeats 64000000 in
theorem walk_simplemoves (A : Option Addr) (c : Nat) (LL : List (List Kt)) (B : Option Addr) (m d : Nat) (C : List Int) (x y : Int) (w : World) (h : RdOL w w.heap.size A LL) (hn : LL.length ≤ maxLen) (hm : ∀ L, L ∈ LL → L.length ≤ maxLen) (hC : RdB w w.heap.size B C) (hmm : m = C.length) (hmx : m ≤ maxLen) (hCb : Bytes C) (hx : -32768 ≤ x ∧ x ≤ 32767) (hy : -32768 ≤ y ∧ y ≤ 32767) :
    Calls Try.prog 13 #[.agg #[.slice A LL.length c, .slice B m d], .int .i16 x, .int .i16 y] w fun e w' => e = .returned (.bool true) ∧ Since w w' := by
  have HG := Lib.hid (fun (w2 : World) (h2 : Since w w2) => rf_great A c LL w2 (h.on h2) hn hm)
  obtain ⟨N, hN⟩ : ∃ N, N = LL.length := ⟨_, rfl⟩
  rw [← hN] at hn HG ⊢
  have hmI : (m : Int) ≤ 9223372036854775807 := by simp only [maxLen] at hmx; omega
  obtain ⟨hx1, hx2⟩ := hx
  obtain ⟨hy1, hy2⟩ := hy
  have HN := Lib.hid hN
  have HMM := Lib.hid hmm
  have HO := Lib.hid h
  have HCC := Lib.hid hC
  have HCB := Lib.hid hCb
  clear hN hmm h hC hm hCb
  go_enter Try.func13, Try.ntmps13
  go_upto_region 1 with fail
  refine wp_named fun w1 hw1 => ?_
  have hS1 : Since w w1 := by subst hw1; (repeat (first | with_reducible (exact Since.refl _) | with_reducible assumption | with_reducible (refine Since.drew ?_) | with_reducible (refine Since.drewN ?_ _) | with_reducible (refine Since.alloc ?_ _) | (with_reducible (refine Since.setCell ?_ ?_ _); rotate_left; focus (first | (simp; done) | (simp; omega) | omega)) | (with_reducible (refine Since.trans ?_ (by with_reducible assumption)))))
  obtain ⟨gb, hgb0⟩ : ∃ gb, gb = w.heap.size := ⟨_, rfl⟩
  have hT1 : Two w1 gb (.slice A N c) (.slice B m d) := by subst hw1; exact two_new w gb hgb0 _ _ _
  rw [← hgb0]
  clear hw1 hgb0
  go_upto_region 3 with (go_at_call 32; (with_reducible refine (alive07 _).mono ?_); rintro e w2 ⟨rfl, hS2⟩; have hT2 := hT1.since hS2; have hA2 := hS1.trans hS2; obtain ⟨p1, p2, p3, p4, p5⟩ := id hT2; clear hT1)
  by_cases hbig : 1000 < m
  · have d1 : (1000 : Int) < (m : Int) := by omega
    go_wp2_with (go_at_call 36; (with_reducible refine (HG.out _ hA2).mono ?_); rintro e w3 ⟨g, rfl, hg, hS3⟩; have hT3 := hT2.since hS3; have hA3 := hA2.trans hS3; obtain ⟨q1, q2, q3, q4, q5⟩ := id hT3; have HNG := Lib.hid hg; clear hg; cases g)
    all_goals go_ret
    all_goals exact ⟨by first | rfl | simp, hA3⟩
  · have d1 : ¬ (1000 : Int) < (m : Int) := by omega
    go_upto_region 5 with (go_at_call 36; (with_reducible refine (HG.out _ hA2).mono ?_); rintro e w3 ⟨g, rfl, hg, hS3⟩; have hT3 := hT2.since hS3; have hA3 := hA2.trans hS3; obtain ⟨q1, q2, q3, q4, q5⟩ := id hT3; have HNG := Lib.hid hg; clear hg; cases g)
    · obtain ⟨n1, n2, n3⟩ := HNG.out (by simp)
      have hN6 : N ≤ 600 := by rw [HN.out]; exact n1
      have hNI : (N : Int) ≤ 600 := by omega
      have hN9 : LL.length ≤ 1000000 := by rw [← HN.out]; omega
      have HM9 := Lib.hid (show ∀ L, L ∈ LL → L.length ≤ 1000000 from fun L hL => by have := n2 L hL; omega)
      have HM5 := Lib.hid n2
      have HN3 := Lib.hid n3
      have HCP := Lib.hid (fun (w2 : World) (h2 : Since w3 w2) => rf_copyD A c LL w2 (HO.out.on (hA3.trans h2)) hN9 HM9.out)
      rw [← HN.out] at HCP
      clear p1 p2 p3 p4 p5 hT2 n1 n2 n3 HNG HG hS1 hS2 hA2 hS3
      go_cut [7] (fun v wx => ∃ g A5 c5 base b0, v = .pointer (some ⟨g, 0, none⟩) ∧ Two wx g (.slice A5 N c5) (.slice B m d) ∧ OwnD wx base b0 (.slice A5 N c5) LL ∧ (g < base ∨ b0 ≤ g) ∧ w3.heap.size ≤ base ∧ w3.heap.size ≤ g ∧ Since w3 wx)
      case first =>
        go_region_with (go_at_call 37; (with_reducible refine (HCP.out _ (by (repeat (first | with_reducible (exact Since.refl _) | with_reducible assumption | with_reducible (refine Since.drew ?_) | with_reducible (refine Since.drewN ?_ _) | with_reducible (refine Since.alloc ?_ _) | (with_reducible (refine Since.setCell ?_ ?_ _); rotate_left; focus (first | (simp; done) | (simp; omega) | omega)) | (with_reducible (refine Since.trans ?_ (by with_reducible assumption))))))).mono ?_); rintro e w4 ⟨A5, c5, rfl, hO5, hS5⟩; have hX5 : Since w3 w4 := (by (repeat (first | with_reducible (exact Since.refl _) | with_reducible assumption | with_reducible (refine Since.drew ?_) | with_reducible (refine Since.drewN ?_ _) | with_reducible (refine Since.alloc ?_ _) | (with_reducible (refine Since.setCell ?_ ?_ _); rotate_left; focus (first | (simp; done) | (simp; omega) | omega)) | (with_reducible (refine Since.trans ?_ (by with_reducible assumption)))))); have hz5 := hX5.below.size; obtain ⟨q1, q2, q3, q4, q5⟩ := hT3.since hX5; (try have hZ := two_sd hS5); (try have hZ := two_sn hS5); (try (obtain ⟨z1, z2, z3, z4, z5⟩ := id hZ)))
        all_goals go_wp2_with fail
        all_goals go_meet
        all_goals first
          | exact ⟨_, A5, c5, _, _, rfl, two_new _ _ rfl _ _ _, hO5.since ((Since.refl _).alloc _), .inr (Nat.le_refl _), Nat.le_refl _, hz5, by (repeat (first | with_reducible (exact Since.refl _) | with_reducible assumption | with_reducible (refine Since.drew ?_) | with_reducible (refine Since.drewN ?_ _) | with_reducible (refine Since.alloc ?_ _) | (with_reducible (refine Since.setCell ?_ ?_ _); rotate_left; focus (first | (simp; done) | (simp; omega) | omega)) | (with_reducible (refine Since.trans ?_ (by with_reducible assumption)))))⟩
          | exact ⟨_, A5, c5, _, _, rfl, two_put hZ _ _, hO5.keepB (fun b hb hb2 => (set2_but w4 w3.heap.size _ _).2 b hb2 (by simp at hb; omega)), .inl (by simp), by simp, Nat.le_refl _, by (repeat (first | with_reducible (exact Since.refl _) | with_reducible assumption | with_reducible (refine Since.drew ?_) | with_reducible (refine Since.drewN ?_ _) | with_reducible (refine Since.alloc ?_ _) | (with_reducible (refine Since.setCell ?_ ?_ _); rotate_left; focus (first | (simp; done) | (simp; omega) | omega)) | (with_reducible (refine Since.trans ?_ (by with_reducible assumption)))))⟩
      obtain ⟨g, A5, c5, base, b0, rfl, hU, hD, hap, hbw, hgw, hX⟩ := hcut
      have hTc := hT3.since hX
      have hAc := hA3.trans hX
      have hgbg : gb ≠ g := by have := hT3.2.2.2.2; omega
      have hgb3 : gb < w3.heap.size := hT3.2.2.2.2
      have H0 := Lib.hid (cur_start x y LL)
      obtain ⟨p1, p2, p3, p4, p5⟩ := id hTc
      obtain ⟨s1, s2, s3, s4, s5⟩ := id hU
      clear q1 q2 q3 q4 q5 HCP
      go_wp2_with fail
      go_loopw [39] (fun v wr => ∃ (i : Nat) (LLs : List (List Kt)), i ≤ N ∧ v = .int .i64 (i : Int) ∧ Hid (Cur7 x y i 0 LL LLs) ∧ OwnD wr base b0 (.slice A5 N c5) LLs ∧ Two wr g (.slice A5 N c5) (.slice B m d) ∧ Since w3 wr) (fun v _ => N - (intOf v).toNat)
      case atStart => exact ⟨0, LL, by omega, rfl, H0, hD, hU, hX⟩
      case round =>
        obtain ⟨i, LLs, hi, rfl, HCU, hDr, hUr, hXr⟩ := hrel
        clear s1 s2 s3 s4 s5 p1 p2 p3 p4 p5 hU hD hX hTc hAc H0
        obtain ⟨s1, s2, s3, s4, s5⟩ := id hUr
        by_cases hiN : i < N
        · have hiN' : (i : Int) < N := by omega
          have hiL : i < LL.length := by rw [← HN.out]; exact hiN
          have hL : LL[i]? = some LL[i] := List.getElem?_eq_getElem hiL
          have hml := HM5.out _ (List.mem_of_getElem? hL)
          have HL := Lib.hid hL
          have hrow := cur_row hL HCU.out
          rw [inL7_zero] at hrow
          clear hL
          generalize LL[i] = L at *
          obtain ⟨gh, ch, A', c', hv, hgh, hghz, hhc, hkn⟩ := hDr.row hrow
          injection hv with hv1 hv2 hv3
          subst hv1
          obtain ⟨n, hn0⟩ : ∃ n, n = L.length := ⟨_, rfl⟩
          rw [← hn0] at hhc hml
          have HNL := Lib.hid hn0
          have hnI : (n : Int) ≤ 5000 := by omega
          clear hv2 hv3 hkn hrow hiL hn0
          go_wp2_with fail
          go_loopw [48] (fun v wr => ∃ (t : Nat) (LLs : List (List Kt)), t ≤ n ∧ v = .int .i64 (t : Int) ∧ Hid (Cur7 x y i t LL LLs) ∧ OwnD wr base b0 (.slice (some ⟨gh, 0, none⟩) N c5) LLs ∧ Two wr g (.slice (some ⟨gh, 0, none⟩) N c5) (.slice B m d) ∧ Since w3 wr) (fun v _ => n - (intOf v).toNat)
          case atStart => exact ⟨0, LLs, by omega, rfl, HCU, hDr, hUr, hXr⟩
          case round =>
            clear hhc hghz s1 s2 s3 s4 s5 hDr hUr hXr HCU
            obtain ⟨t, LLt, ht, rfl, HCU, hDr, hUr, hXr⟩ := hrel
            obtain ⟨s1, s2, s3, s4, s5⟩ := id hUr
            by_cases htn : t < n
            · have htn' : (t : Int) < n := by omega
              have htL : t < L.length := by rw [← HNL.out]; exact htn
              have hK : L[t]? = some L[t] := List.getElem?_eq_getElem htL
              have hrow := cur_row HL.out HCU.out
              have hgk := inL7_get x y hK
              have HCN := Lib.hid (cur_step HL.out hK HCU.out)
              obtain ⟨gh', ch', A'', c'', hv, _, hghz, hhc, hkn⟩ := hDr.row hrow
              rw [inL7_len, ← HNL.out] at hhc hkn
              generalize L[t] = K at *
              injection hv with hv1 hv2 hv3
              injection hv1 with hv1
              injection hv1 with hv1 hv4
              subst hv1
              obtain ⟨q, rfl, hqb, hqz, hq0, hgq, hq⟩ := hkn (by omega)
              obtain ⟨k0, k1, k2, k3, hput⟩ := hq t K hgk
              have HPUT := Lib.hid (hput (K.x + x) (K.y + y))
              have hne : q ≠ g := ap_ne hap hqb hq0
              have hne2 : g ≠ q := fun e => hne e.symm
              have hgq2 : q ≠ gh := fun e => hgq e.symm
              generalize K.x = kx at *
              generalize K.y = ky at *
              clear hput hq hv2 hv3 hv4 hK hrow hgk hkn htL HCU hDr
              by_cases t1 : kx < -32768
              · have d2 : decide (kx < -32768) = true := by simpa using t1
                go_wp2_with fail
                go_ret
                exact ⟨by first | rfl | simp, hA3.trans hXr⟩
              by_cases t2 : 32767 < kx
              · have d2 : decide (kx < -32768) = false := by simpa using t1
                have d3 : decide (32767 < kx) = true := by simpa using t2
                go_wp2_with fail
                go_ret
                exact ⟨by first | rfl | simp, hA3.trans hXr⟩
              by_cases t3 : ky < -32768
              · have d2 : decide (kx < -32768) = false := by simpa using t1
                have d3 : decide (32767 < kx) = false := by simpa using t2
                have d4 : decide (ky < -32768) = true := by simpa using t3
                go_wp2_with fail
                go_ret
                exact ⟨by first | rfl | simp, hA3.trans hXr⟩
              by_cases t4 : 32767 < ky
              · have d2 : decide (kx < -32768) = false := by simpa using t1
                have d3 : decide (32767 < kx) = false := by simpa using t2
                have d4 : decide (ky < -32768) = false := by simpa using t3
                have d5 : decide (32767 < ky) = true := by simpa using t4
                go_wp2_with fail
                go_ret
                exact ⟨by first | rfl | simp, hA3.trans hXr⟩
              have d2 : decide (kx < -32768) = false := by simpa using t1
              have d3 : decide (32767 < kx) = false := by simpa using t2
              have d4 : decide (ky < -32768) = false := by simpa using t3
              have d5 : decide (32767 < ky) = false := by simpa using t4
              have m1 : IntKind.i64.wrap (kx + x) = kx + x := by rw [IntKind.wrap_i64]; omega
              have m2 : IntKind.i64.wrap (ky + y) = ky + y := by rw [IntKind.wrap_i64]; omega
              have m3 : IntKind.i64.wrap x = x := by rw [IntKind.wrap_i64]; omega
              have m4 : IntKind.i64.wrap y = y := by rw [IntKind.wrap_i64]; omega
              have hw3q : w3.heap.size ≤ q := Nat.le_trans hbw hqb
              go_upto_region 15 with fail
              go_region
              all_goals go_wp2_with fail
              all_goals go_roundw
              all_goals first | (simp [intOf]; omega) | skip
              all_goals first
                | exact ⟨t + 1, _, by omega, by first | rfl | go_num | simp, HCN, HPUT.out.since ((Since.refl _).drew), ((hUr.far hne _ _).far hne _ _).drew, ((hXr.setCell hw3q _).setCell hw3q _).drew⟩
                | exact ⟨t + 1, _, by omega, by first | rfl | go_num | simp, HCN, HPUT.out, ((hUr.far hne _ _).far hne _ _), ((hXr.setCell hw3q _).setCell hw3q _)⟩
            · obtain rfl : n = t := by omega
              have htn' : ¬ (n : Int) < (n : Int) := by omega
              have HCN := Lib.hid (cur_next HL.out (by rw [← HNL.out]; exact HCU.out))
              go_wp2_with fail
              go_roundw
              case rel => first | exact ⟨i + 1, LLt, by omega, by first | rfl | go_num | simp, HCN, hDr, hUr, hXr⟩ | ((repeat apply Exists.intro); refine ⟨?_, rfl⟩; exact ⟨i + 1, LLt, by omega, by first | rfl | go_num | simp, HCN, hDr, hUr, hXr⟩)
              case measure => simp [intOf]; omega
        · obtain rfl : N = i := by omega
          have hiN' : ¬ (N : Int) < (N : Int) := by omega
          have hLL := cur_end (by rw [← HN.out]; exact HCU.out)
          subst hLL
          obtain ⟨LM, hLM⟩ : ∃ LM, LM = LL.map (List.map (mvK x y)) := ⟨_, rfl⟩
          have HLM := Lib.hid hLM
          have hLMl : LM.length = N := by rw [hLM, List.length_map]; exact HN.out.symm
          have hm9 : ∀ L, L ∈ LM → L.length ≤ 1000000 := fun L hL => by
            rw [hLM] at hL
            obtain ⟨L0, h0, rfl⟩ := List.mem_map.1 hL
            rw [List.length_map]
            exact HM9.out L0 h0
          rw [← hLM] at hDr
          have hR5 := ownO_rdv hDr.o
          have hAr := hA3.trans hXr
          have hTr := hT3.since hXr
          have hn9 : LM.length ≤ 1000000 := by omega
          have hm0 : LM.length ≤ maxLen := by simp only [maxLen]; omega
          have hml : C.length ≤ 140737488355328 := by rw [← HMM.out]; omega
          have HW := Lib.hid (si_write A5 c5 LM B m d C wr hR5 hn9 hm9 (HCC.out.on hAr) HMM.out hml)
          have HBM := Lib.hid (fun (w2 : World) (h2 : Since wr w2) => si_box A5 c5 LM w2 (hR5.on h2) hn9 hm9)
          have HBG := Lib.hid (fun (w2 : World) (h2 : Since w w2) => si_box A c LL w2 (HO.out.on h2) hN9 HM9.out)
          have HSM := Lib.hid (fun (w2 : World) (A8 : Option Addr) (c8 : Nat) (h1 : RdOL w2 w2.heap.size A8 LM) (h2 : Since wr w2) => same7_v A8 A5 c8 c5 N LM w2 hLMl.symm h1 (hR5.on h2) hm0 (fun L hL => by have := hm9 L hL; simp only [maxLen]; omega))
          rw [hLMl] at HW HBM
          rw [← HN.out] at HBG
          unfold WrPost7 at HW
          unfold BoxPost7 at HBM HBG
          obtain ⟨w5, hw5⟩ : ∃ w5, w5 = wr := ⟨wr, rfl⟩
          subst hw5
          have HR5 := Lib.hid hR5
          have hsum : sumL LM ≤ 9000 := by
            have h1 : sumL LM = sumL LL := by unfold sumL; rw [hLM, List.map_map]; congr 1; exact List.map_congr_left (fun L _ => by simp)
            have h2 : sumL LL ≤ 9000 := HN3.out
            omega
          have hAX := hXr
          clear hLM hR5 hDr hXr HCU
          obtain ⟨p1, p2, p3, p4, p5⟩ := id hTr
          by_cases he : glE LM C = 0
          · have hXB : (glB LM C).length ≤ 200000 := by
              by_cases h0 : LM = []
              · rw [h0, gl_nil]; simp
              · have := (gl_len h0 he).1; rw [← HMM.out] at this; omega
            have HX0 := Lib.hid (show N = 0 → (glB LM C).length = 0 from fun e => by
              have : LM = [] := List.eq_nil_of_length_eq_zero (by omega)
              rw [this, gl_nil]; rfl)
            have HRB := Lib.hid (fun (A : Option Addr) (n c : Nat) (w : World) (h : RdB w w.heap.size A (glB LM C ++ [])) (hn : n = (glB LM C ++ []).length) (hn4 : n ≤ 140737488355328) (hnc : n ≤ c) => si_read_back he (fun _ => rfl) HCB.out (fun v hv => by cases hv) A n c w h hn hn4 hnc N m hLMl.symm HMM.out)
            have HBX := Lib.hid (show N ≠ 0 → _ from fun e => mv_box (x := x) (y := y) (LL := LL) (C := C) (fun e2 => e (by rw [HN.out, e2]; rfl)) (by rw [← HLM.out]; exact he))
            rw [← HLM.out] at HBX
            rw [List.append_nil] at HRB
            rw [he] at HW
            obtain ⟨X, hX⟩ : ∃ X, X = glB LM C := ⟨_, rfl⟩
            rw [← hX] at HW HRB hXB HX0
            obtain ⟨xl, hxl⟩ : ∃ xl, xl = X.length := ⟨_, rfl⟩
            rw [← hxl] at hXB HX0
            have HXL := Lib.hid hxl
            have hx4 : xl ≤ 140737488355328 := by omega
            clear hX hxl he
            generalize mn7 (LM.flatten.map Kt.x) = y1 at *
            generalize mn7 (LM.flatten.map Kt.y) = y2 at *
            generalize mx7 (LM.flatten.map Kt.x) = y3 at *
            generalize mx7 (LM.flatten.map Kt.y) = y4 at *
            generalize mn7 (LL.flatten.map Kt.x) = x1 at *
            generalize mn7 (LL.flatten.map Kt.y) = x2 at *
            generalize mx7 (LL.flatten.map Kt.x) = x3 at *
            generalize mx7 (LL.flatten.map Kt.y) = x4 at *
            go_upto_region 22 with (first | (go_at_call 38; (with_reducible refine HW.out.mono ?_); rintro e w6 ⟨v6, rfl, hO6, hS6⟩; obtain ⟨A6, c6, rfl, hc6, hR6⟩ := hO6.rd (by omega) byL_len; rw [← HXL.out] at hc6 ⊢; have hA6 := hAr.trans hS6; have hT6 := hTr.since hS6; have hU6 := hUr.since hS6; obtain ⟨q1, q2, q3, q4, q5⟩ := id hT6; obtain ⟨r1, r2, r3, r4, r5⟩ := id hU6; clear hO6) | (go_at_call 33; (with_reducible refine (HRB.out A6 xl c6 _ hR6 HXL.out hx4 hc6).mono ?_); rintro e w7 ⟨A7, c7, A8, c8, rfl, hR7, hC7, hS7⟩; have hA7 := hA6.trans hS7; have hT7 := hT6.since hS7; have hU7 := hU6.since hS7; have hB7 := hS6.trans hS7))
            refine wp_named fun w8 hw8 => ?_
            have hS8 : Since w7 w8 := by subst hw8; (repeat (first | with_reducible (exact Since.refl _) | with_reducible assumption | with_reducible (refine Since.drew ?_) | with_reducible (refine Since.drewN ?_ _) | with_reducible (refine Since.alloc ?_ _) | (with_reducible (refine Since.setCell ?_ ?_ _); rotate_left; focus (first | (simp; done) | (simp; omega) | omega)) | (with_reducible (refine Since.trans ?_ (by with_reducible assumption)))))
            obtain ⟨g8, hg8⟩ : ∃ g8, g8 = w7.heap.size := ⟨_, rfl⟩
            have hV8 : Two w8 g8 (.slice A7 N c7) (.slice A8 m c8) := by subst hw8; exact two_new w7 g8 hg8 _ _ _
            rw [← hg8]
            have hA8 := hA7.trans hS8
            have hB8 := hB7.trans hS8
            have hT8 := hT7.since hS8
            have hU8 := hU7.since hS8
            have hR8 := hR7.on hS8
            clear hw8 hg8 p1 p2 p3 p4 p5 q1 q2 q3 q4 q5 r1 r2 r3 r4 r5 s1 s2 s3 s4 s5 hTr hT6 hT7 hU6 hU7 hR7 hA6 hA7 hB7 hC7 hR6
            obtain ⟨p1, p2, p3, p4, p5⟩ := id hT8
            obtain ⟨s1, s2, s3, s4, s5⟩ := id hU8
            go_upto_region 23 with (go_at_call 40; (with_reducible refine (HBM.out _ hB8).mono ?_); rintro e w9 ⟨rfl, hS9⟩)
            refine wp_named fun wa hwa => ?_
            have hSa : Since w9 wa := by subst hwa; (repeat (first | with_reducible (exact Since.refl _) | with_reducible assumption | with_reducible (refine Since.drew ?_) | with_reducible (refine Since.drewN ?_ _) | with_reducible (refine Since.alloc ?_ _) | (with_reducible (refine Since.setCell ?_ ?_ _); rotate_left; focus (first | (simp; done) | (simp; omega) | omega)) | (with_reducible (refine Since.trans ?_ (by with_reducible assumption)))))
            obtain ⟨ga, hga⟩ : ∃ ga, ga = w9.heap.size := ⟨_, rfl⟩
            have hP1 : Two wa ga (.int .i64 y1) (.int .i64 y2) := by subst hwa; exact (two_new w9 ga hga _ _ _).since ((Since.refl _).alloc _)
            have hP2 : Two wa (ga + 1) (.int .i64 y3) (.int .i64 y4) := by subst hwa; exact two_new _ (ga + 1) (by rw [hga]; simp) _ _ _
            rw [← hga]
            have hS8a := hS9.trans hSa
            have hAa := hA8.trans hS8a
            have hBa := hB8.trans hS8a
            have hTa := hT8.since hS8a
            have hUa := hU8.since hS8a
            have hVa := hV8.since hS8a
            have hRa := hR8.on hS8a
            clear hwa hga p1 p2 p3 p4 p5 s1 s2 s3 s4 s5 hT8 hU8 hV8 hR8 hA8 hB8
            obtain ⟨p1, p2, p3, p4, p5⟩ := id hTa
            go_upto_region 24 with (go_at_call 40; (with_reducible refine (HBG.out _ hAa).mono ?_); rintro e wb ⟨rfl, hSb⟩)
            refine wp_named fun wd hwd => ?_
            have hSd : Since wb wd := by subst hwd; (repeat (first | with_reducible (exact Since.refl _) | with_reducible assumption | with_reducible (refine Since.drew ?_) | with_reducible (refine Since.drewN ?_ _) | with_reducible (refine Since.alloc ?_ _) | (with_reducible (refine Since.setCell ?_ ?_ _); rotate_left; focus (first | (simp; done) | (simp; omega) | omega)) | (with_reducible (refine Since.trans ?_ (by with_reducible assumption)))))
            obtain ⟨gd, hgd⟩ : ∃ gd, gd = wb.heap.size := ⟨_, rfl⟩
            have hP3 : Two wd gd (.int .i64 x1) (.int .i64 x2) := by subst hwd; exact (two_new wb gd hgd _ _ _).since ((Since.refl _).alloc _)
            have hP4 : Two wd (gd + 1) (.int .i64 x3) (.int .i64 x4) := by subst hwd; exact two_new _ (gd + 1) (by rw [hgd]; simp) _ _ _
            rw [← hgd]
            have hSad := hSb.trans hSd
            have hAd := hAa.trans hSad
            have hBd := hBa.trans hSad
            have hTd := hTa.since hSad
            have hUd := hUa.since hSad
            have hVd := hVa.since hSad
            have hRd := hRa.on hSad
            have hP1d := hP1.since hSad
            have hP2d := hP2.since hSad
            clear hwd hgd p1 p2 p3 p4 p5 hTa hUa hVa hRa hAa hBa hP1 hP2
            obtain ⟨p1, p2, p3, p4, p5⟩ := id hTd
            obtain ⟨s1, s2, s3, s4, s5⟩ := id hUd
            obtain ⟨q1, q2, q3, q4, q5⟩ := id hVd
            obtain ⟨a1, a2, a3, a4, a5⟩ := id hP1d
            obtain ⟨b1, b2, b3, b4, b5⟩ := id hP2d
            obtain ⟨u1, u2, u3, u4, u5⟩ := id hP3
            obtain ⟨z1, z2, z3, z4, z5⟩ := id hP4
            by_cases hN0 : N = 0
            · have hx0 := HX0.out hN0
              have dN : ((N : Int) == 0) = true := by simp; omega
              have dX : ((xl : Int) == 0) = true := by simp; omega
              go_wp2_with fail
              go_ret
              exact ⟨by first | rfl | simp, hAd⟩
            · have dN : ((N : Int) == 0) = false := by simp; omega
              obtain ⟨⟨e1, k1⟩, ⟨e2, k2⟩, ⟨e3, k3⟩, ⟨e4, k4⟩⟩ := HBX.out hN0
              subst e1 e2 e3 e4
              unfold Sh at k1 k2 k3 k4
              have m1 : IntKind.i64.wrap x = x := by rw [IntKind.wrap_i64]; omega
              have m2 : IntKind.i64.wrap y = y := by rw [IntKind.wrap_i64]; omega
              have m3 : IntKind.i64.wrap (x1 + x) = x1 + x := by rw [IntKind.wrap_i64]; omega
              have m4 : IntKind.i64.wrap (x2 + y) = x2 + y := by rw [IntKind.wrap_i64]; omega
              have m5 : IntKind.i64.wrap (x3 + x) = x3 + x := by rw [IntKind.wrap_i64]; omega
              have m6 : IntKind.i64.wrap (x4 + y) = x4 + y := by rw [IntKind.wrap_i64]; omega
              have hn0 : ¬ N = 0 := hN0
              go_wp2_with (go_at_call 35; (with_reducible refine (HSM.out _ A7 c7 hRd hBd).mono ?_); rintro e we ⟨rfl, hSe⟩; have hAe := hAd.trans hSe; obtain ⟨g1, g2, g3, g4, g5⟩ := hP1d.since hSe; obtain ⟨j1, j2, j3, j4, j5⟩ := hP2d.since hSe; obtain ⟨o1, o2, o3, o4, o5⟩ := hP3.since hSe; obtain ⟨v1, v2, v3, v4, v5⟩ := hP4.since hSe)
              go_ret
              exact ⟨by first | rfl | simp, hAe⟩
          · have d7 : (glE LM C == 0) = false := by simpa using he
            have d8 : (glE LM C != 0) = true := by simpa using he
            generalize glE LM C = E9 at *
            generalize glB LM C = G9 at *
            go_wp2_with (go_at_call 38; (with_reducible refine HW.out.mono ?_); rintro e w6 ⟨v6, rfl, hO6, hS6⟩; obtain ⟨A6, c6, rfl, _, _⟩ := hO6.rd (by omega) byL_len)
            go_ret
            exact ⟨by first | rfl | simp, hAr.trans hS6⟩
    · go_ret
      exact ⟨by first | rfl | simp, hA3⟩
end Go.Proofs.Ytpplnapfpoloiaa
