/-
  Layer 9: FontPass walked.
-/
import Derived.Test.YteckkcpnfeoehaaDoorMpU
namespace Go.Proofs.YteckkcpnfeoehaaDoor
set_option maxRecDepth 100000
open Go.RowKit Go.ChangeShapes Go.WideShapes Go.Deep
set_option linter.unusedVariables false
set_option linter.unusedSimpArgs false

theorem sync_bad (x : Fh) (F : Fn9) (C : Array Value) (hC : CV x F C) (w : World) (hT : Tabs w) (hR : FnR w w.heap.size x F) (hG : NoGr F) (hW : FnW F) (E : Int) (hE : syE F = E) (h0 : E ≠ 0) :
    Calls Tryd.prog 16 #[.agg C] w fun e w' => ∃ y D, e = .returned (.tuple #[.agg D, .int .i64 E]) ∧ CV y none9 D ∧ Since w w' := by
  refine (fn_sync x F C hC w hT hR hG hW).mono ?_
  rintro e w' ⟨y, D, rfl, hD, hO, hS⟩
  have e1 : sync9 F = (E, none9) := by unfold sync9; rw [if_pos (by rw [hE]; exact h0), hE]
  rw [e1] at hD ⊢
  exact ⟨y, D, rfl, hD, hS⟩
theorem sync_good (x : Fh) (F : Fn9) (C : Array Value) (hC : CV x F C) (w : World) (hT : Tabs w) (hR : FnR w w.heap.size x F) (hG : NoGr F) (hW : FnW F) (hE : syE F = 0) :
    Calls Tryd.prog 16 #[.agg C] w fun e w' => ∃ y D, e = .returned (.tuple #[.agg D, .int .i64 0]) ∧ CV y (syF F) D ∧ FnO w' w.heap.size y (syF F) ∧ Since w w' := by
  refine (fn_sync x F C hC w hT hR hG hW).mono ?_
  rintro e w' ⟨y, D, rfl, hD, hO, hS⟩
  have e1 : sync9 F = (0, syF F) := by unfold sync9; rw [if_neg (by rw [hE]; simp)]
  rw [e1] at hD hO ⊢
  exact ⟨y, D, rfl, hD, hO, hS⟩
theorem syE_three {F : Fn9} (h : syE F = 0) : three9 F.TT = true := by
  unfold syE at h
  cases h3 : three9 F.TT
  · rw [if_pos h3] at h; cases h
  · rfl
set_option maxRecDepth 1000000 in
set_option maxHeartbeats 64000000 in
theorem walk_fontpass (x : Fh) (F : Fn9) (C : Array Value) (hC : CV x F C) (w : World) (hT : Tabs w) (hI : InF w x F) :
    Calls Tryd.prog 5 #[.agg C] w fun e w' => e = .returned (.bool true) ∧ Since w w' := by
  have HT := Lib.hid (fun (w2 : World) (h2 : Since w w2) => hT.since h2)
  have HGR := Lib.hid (in_great hI hC)
  have HRD := Lib.hid (fun (w2 : World) (h2 : Since w w2) => hI.rd.on h2)
  have HNU := Lib.hid hI.num
  have HGC := Lib.hid hI.gc
  have HBX := Lib.hid (fun (t : TypeId) => (fn_box (x := x) (nt := F.TT.length) (h := F.h) (m := F.m) (nm := F.MM.length) (ct := F.ct) (ng := F.GG.length) w w.heap.size rfl t))
  have HC := Lib.hid hC
  unfold GreatP9 at HGR
  clear hT hI
  go_enter Tryd.func5, Tryd.ntmps5
  go_upto_region 1 with fail
  refine wp_named fun w0 hw0 => ?_
  have hS0 : Since w w0 := by subst hw0; (repeat (first | with_reducible (exact Since.refl _) | with_reducible assumption | with_reducible (refine Since.drew ?_) | with_reducible (refine Since.drewN ?_ _) | with_reducible (refine Since.alloc ?_ _) | (with_reducible (refine Since.setCell ?_ ?_ _); rotate_left; focus (first | (simp; done) | (simp; omega) | omega)) | (with_reducible (refine Since.trans ?_ (by with_reducible assumption)))))
  have hB0 : FB w0 w.heap.size x F := by subst hw0; rw [HC.out]; exact HBX.out _
  clear hw0 HBX HC
  go_upto_region 5 with (first | (go_at_call 7; (with_reducible refine (alive09 _ (HT.out _ hS0)).mono ?_); rintro e w1 ⟨rfl, hS1⟩; have hS01 := hS0.trans hS1; have hB1 := hB0.since hS1) | (refine fb_load rfl _ rfl (by rfl) (by with_reducible exact hB1) hC ?_) | (go_at_call 8; (with_reducible refine (HGR.out _ hS01).mono ?_); rintro e w2 ⟨g, rfl, hng, hS2⟩; have hS02 := hS01.trans hS2; have hB2 := hB1.since hS2; have HNG := Lib.hid hng; clear hng hB0 hB1 hS1 hS2 hS0; cases g))
  rotate_left
  · go_wp2_with fail
    go_ret
    exact ⟨by first | rfl | simp, hS02⟩
  have HNR := Lib.hid (HNG.out (by first | exact trivial | rfl))
  clear HNG
  by_cases hE : syE F = 0
  rotate_left
  · have HE := Lib.hid (fun (w2 : World) (h2 : Since w w2) => sync_bad x F C hC w2 (HT.out _ h2) (HRD.out _ h2) HNR.out HNU.out (syE F) rfl hE)
    have dE : (syE F != 0) = true := by simpa using hE
    clear hE
    generalize syE F = E at *
    go_wp2_with (first | (refine fb_load rfl _ rfl (by rfl) (by with_reducible exact hB2) hC ?_) | (go_at_call 16; (with_reducible refine (HE.out _ hS02).mono ?_); rintro e w3 ⟨y, D, rfl, hD, hS3⟩; have hS03 := hS02.trans hS3) | (refine fb_store rfl _ _ rfl (by rfl) (by with_reducible exact new_fn w3 w3.heap.size rfl _) hD (by rfl) ?_; intro w5 hB5 hN5; have hS35 := hN5.2 w3 ((Since.refl w3).alloc _) (Nat.le_refl _); have hS05 := hS03.trans hS35; have k16 := BoxL.cell hB5 16 (v := .slice y.Ag 0 y.cg) rfl))
    go_ret
    exact ⟨by first | rfl | simp, hS05⟩
  have h3 := syE_three hE
  have HSY := Lib.hid (fun (w2 : World) (h2 : Since w w2) => sync_good x F C hC w2 (HT.out _ h2) (HRD.out _ h2) HNR.out HNU.out hE)
  have HNG := Lib.hid (sync_nogr HNR.out h3)
  have HNW := Lib.hid (sync_num HNU.out (HNR.out.glys))
  have HPA := Lib.hid (fun (hr : right9 (syF F)) (T : Tb) (hT : T ∈ F.TT) => pass_at hr hT)
  have HAL := Lib.hid (fun (hr : right9 (syF F)) => (all9_len hr.1.2.1).trans (show (syT F).length + 3 = F.TT.length + 3 by rw [(syT_has h3 tgHead).2.1]))
  clear hE h3
  generalize syF F = G at *
  by_cases hrt : right9 G
  rotate_left
  · have HY := Lib.hid hrt
    have HRT := Lib.hid (right9_no hrt)
    clear hrt HPA HAL
    go_wp2_with (first | (refine fb_load rfl _ rfl (by rfl) (by with_reducible exact hB2) hC ?_) | (go_at_call 16; (with_reducible refine (HSY.out _ hS02).mono ?_); rintro e w3 ⟨y, D, rfl, hD, hO3, hS3⟩; have hS03 := hS02.trans hS3; have hR3 := hO3.rd; clear hB2) | (refine fb_store rfl _ _ rfl (by rfl) (by with_reducible exact new_fn w3 w3.heap.size rfl _) hD (by rfl) ?_; intro w5 hB5 hN5; have hS35 := hN5.2 w3 ((Since.refl w3).alloc _) (Nat.le_refl _); have hS05 := hS03.trans hS35; have hR5 := hR3.1.on hS35; have hgq := hR3.2) | (refine fb_load rfl _ rfl (by rfl) (by first | with_reducible exact hB6 | with_reducible exact hB5) hD ?_) | (go_at_call 9; (with_reducible refine (ag_no y G D hD _ (HT.out _ hS05) hR5 HNG.out HNW.out hgq HY.out).mono ?_); rintro e w6 ⟨v6, rfl, hS6⟩; have hS06 := hS05.trans hS6; have hB6 := hB5.since hS6; have hR6 := hR5.on hS6) | (go_at_call 10; (with_reducible refine (ag_right y G D hD _ (HT.out _ hS06) hR6 HNG.out HNW.out hgq false HRT.out).mono ?_); rintro e w7 ⟨rfl, hS7⟩; have hS07 := hS06.trans hS7))
    go_ret
    exact ⟨by first | rfl | simp, hS07⟩
  have HY := Lib.hid hrt
  have HBF := Lib.hid (bytes_file9 (all9_bytes HNW.out))
  obtain ⟨N, hN⟩ : ∃ N, N = F.TT.length := ⟨_, rfl⟩
  have hN5 : N ≤ 101 := by rw [hN]; exact HNR.out.tabs
  have hal := HAL.out hrt
  rw [← hN] at hal
  have HRR := Lib.hid (fun (w2 : World) (A : Option Addr) (n c : Nat) (h : RdB w2 w2.heap.size A (file4 (all9 G))) (hn : n = (file4 (all9 G)).length) (hnc : n ≤ c) => rf_read4 (all9 G) A n c w2 h hn hrt.2.2 HBF.out hnc)
  rw [hal] at HRR
  have HP2 := Lib.hid (HPA.out hrt)
  have HN := Lib.hid hN
  have HLL := Lib.hid (show ((all9 G).map blankT).length = N + 3 by rw [List.length_map]; exact hal)
  have HRW := Lib.hid hrt
  clear hrt HPA HAL hal hN
  have hNI : (N : Int) ≤ 101 := by omega
  have m1 : IntKind.i64.wrap ((N : Int) + 3) = (N : Int) + 3 := by rw [IntKind.wrap_i64]; omega
  have m2 : (((N + 3 : Nat) : Int) != (N : Int) + 3) = false := by simp
  go_upto_region 12 with (first | (refine fb_load rfl _ rfl (by rfl) (by with_reducible exact hB2) hC ?_) | (go_at_call 16; (with_reducible refine (HSY.out _ hS02).mono ?_); rintro e w3 ⟨y, D, rfl, hD, hO3, hS3⟩; have hS03 := hS02.trans hS3; have hR3 := hO3.rd; have hB3 := hB2.since hS3; clear hB2) | (refine fb_store rfl _ _ rfl (by rfl) (by with_reducible exact new_fn w3 w3.heap.size rfl _) hD (by rfl) ?_; intro w5 hB5 hN5; have hS35 := hN5.2 w3 ((Since.refl w3).alloc _) (Nat.le_refl _); have hS05 := hS03.trans hS35; have hR5 := hR3.1.on hS35; have hgq := hR3.2; have hBx5 := hB3.since hS35) | (refine fb_load rfl _ rfl (by rfl) (by with_reducible exact hB5) hD ?_) | (go_at_call 9; (with_reducible refine (ag_yes y G D hD _ (HT.out _ hS05) hR5 HNG.out HNW.out hgq HY.out).mono ?_); rintro e w6 ⟨A6, n6, c6, rfl, hm6, hr6, hmc6, hS6⟩; have hS06 := hS05.trans hS6; have hBx6 := hBx5.since hS6) | (go_at_call 17; (with_reducible refine (HRR.out _ A6 n6 c6 hr6 hm6.out hmc6).mono ?_); rintro e w8 ⟨A8, c8, rfl, hO8, hS8⟩; have hS08 := hS06.trans hS8; have hBx8 := hBx6.since hS8))
  have k0 := BoxL.cell hBx8 0 (v := .slice x.At N x.ct) (by rw [HN.out]; rfl)
  have hL8 : RdTL w8 w8.heap.size A8 ((all9 G).map blankT) := by
    obtain ⟨A', c', e, _, hr⟩ := hO8.rd
    injection e with e _ _
    rw [e]; exact hr
  have HL8 := Lib.hid hL8
  clear hL8 hO8 hBx8 hBx6 hBx5 hB5 hB3 hR3 hR5 hO3 hr6 hmc6 hm6 hS6 hS8 hS35 hS3 hS05 hS06 hN5 HSY HRR hS02 hS03 hD hgq
  go_wp2_with fail
  go_loopw [56] (fun v wr => ∃ j : Nat, j ≤ N ∧ v = .int .i64 (j : Int) ∧ Since w8 wr) (fun v _ => N - (intOf v).toNat)
  case atStart => exact ⟨0, by omega, rfl, by (repeat (first | with_reducible (exact Since.refl _) | with_reducible assumption | with_reducible (refine Since.drew ?_) | with_reducible (refine Since.drewN ?_ _) | with_reducible (refine Since.alloc ?_ _) | (with_reducible (refine Since.setCell ?_ ?_ _); rotate_left; focus (first | (simp; done) | (simp; omega) | omega)) | (with_reducible (refine Since.trans ?_ (by with_reducible assumption)))))⟩
  case round =>
    obtain ⟨j, hj, rfl, hS⟩ := hrel
    clear k0
    have hSw := hS08.trans hS
    by_cases hjn : j < N
    · have hjn' : (j : Int) < N := by omega
      have hjL : j < F.TT.length := by rw [← HN.out]; exact hjn
      have hT : F.TT[j]? = some F.TT[j] := List.getElem?_eq_getElem hjL
      have HPT := Lib.hid (HP2.out _ (List.mem_of_getElem? hT))
      have hml := (HNR.out.dats _ (List.mem_of_getElem? hT)).1
      obtain ⟨b, o, A', c', e1, hb, h0, h1, hr⟩ := (HRD.out _ hSw).tabs.row hT
      generalize F.TT[j] = T at *
      obtain ⟨s, L⟩ := T
      rw [e1]
      obtain ⟨m, hm0⟩ : ∃ m, m = L.length := ⟨_, rfl⟩
      replace hml : m ≤ 40000 := by rw [hm0]; exact hml
      replace h1 : wr.cell? ⟨b, o + j * 2 + 1, none⟩ = some (.slice A' m c') := by rw [hm0]; exact h1
      replace h0 : wr.cell? ⟨b, o + j * 2, none⟩ = some (.string s) := h0
      have HR1 := Lib.hid (show RdB wr wr.heap.size A' L from hr)
      have HFI := Lib.hid (fun (w2 : World) (h2 : Since w8 w2) => rf_find s A8 (N + 3) c8 ((all9 G).map blankT) w2 (HL8.out.on h2) HLL.out.symm (by simp only [maxLen]; omega))
      have HM0 := Lib.hid hm0
      clear hT hjL hm0 hr e1
      go_upto_region 17 with fail
      refine wp_named fun w9 hw9 => ?_
      obtain ⟨t9, ht9⟩ : ∃ t9, t9 = wr.heap.size := ⟨_, rfl⟩
      have hS9 : Since wr w9 := by subst hw9; (repeat (first | with_reducible (exact Since.refl _) | with_reducible assumption | with_reducible (refine Since.drew ?_) | with_reducible (refine Since.drewN ?_ _) | with_reducible (refine Since.alloc ?_ _) | (with_reducible (refine Since.setCell ?_ ?_ _); rotate_left; focus (first | (simp; done) | (simp; omega) | omega)) | (with_reducible (refine Since.trans ?_ (by with_reducible assumption)))))
      have hU9 : Two w9 t9 (.string s) (.slice A' m c') := by subst hw9; exact two_new wr t9 ht9 _ _ _
      rw [← ht9]
      obtain ⟨u1, u2, _, _, u5⟩ := id hU9
      have hS89 := hS.trans hS9
      clear hw9 h0 h1 ht9
      have g0 : tgHead.toList = [104, 101, 97, 100] := by kernel_rfl
      have g1 : tgMaxp.toList = [109, 97, 120, 112] := by kernel_rfl
      have g2 : tgHhea.toList = [104, 104, 101, 97] := by kernel_rfl
      rw [g0, g1, g2] at HPT
      clear g0 g1 g2
      cases e0 : (s.toList == [104, 101, 97, 100])
      · cases e1 : (s.toList == [109, 97, 120, 112])
        · cases e2 : (s.toList == [104, 104, 101, 97])
          · obtain ⟨k, hk, hkT⟩ := HPT.out e0 e1 e2
            replace hk : ixF (eqT s) 0 ((all9 G).map blankT) = (k : Int) := hk
            rw [hk] at HFI
            go_upto_region 18 with (go_at_call 18; (with_reducible refine (HFI.out _ hS89).mono ?_); rintro e w4 ⟨rfl, hS4⟩; have hT4 := hU9.since hS4; obtain ⟨v1, v2, _, _, v5⟩ := id hT4; have hS84 := hS89.trans hS4)
            obtain ⟨b2, o2, A2, c2, e3, hb2, _, r1, hr2⟩ := (HL8.out.on hS84).row hkT
            subst e3
            rw [← HM0.out] at r1
            have hkl : k < N + 3 := by
              rcases Nat.lt_or_ge k (N + 3) with h | h
              · exact h
              · rw [List.getElem?_eq_none (by rw [HLL.out]; exact h)] at hkT; cases hkT
            have hk0 : ¬ (k : Int) < 0 := by omega
            have hk1 : (k : Int) < ((N + 3 : Nat) : Int) := by omega
            have hk2 : (0 : Int) ≤ (k : Int) := by omega
            have HS := Lib.hid (fun (d : Nat) => same_l A2 A' m m c2 c' L L (w4.drewN d) HM0.out HM0.out hr2 (HR1.out.on ((hS9.trans hS4).drewN d)) rfl)
            clear hr2 hkT hk HFI hb2
            go_quiet ((go_at_call 15; exact Calls.quiet_of_same (HS.out _)))
            go_wp2_with fail
            go_roundw
            case measure => simp [intOf]; omega
            case rel => first | exact ⟨j + 1, by omega, by first | rfl | go_num | simp, by first | exact hS84 | exact hS84.drew | exact hS84.drewN _⟩ | ((repeat apply Exists.intro); refine ⟨?_, rfl⟩; exact ⟨j + 1, by omega, by first | rfl | go_num | simp, by first | exact hS84 | exact hS84.drew | exact hS84.drewN _⟩)
          · go_upto_region 18 with (go_at_call 18; (with_reducible refine (HFI.out _ hS89).mono ?_); rintro e w4 ⟨rfl, hS4⟩; have hT4 := hU9.since hS4; obtain ⟨v1, v2, _, _, v5⟩ := id hT4; have hS84 := hS89.trans hS4)
            generalize ixF (eqT s) 0 ((all9 G).map blankT) = ix at *
            go_quiet (fail)
            go_wp2_with fail
            go_roundw
            case measure => simp [intOf]; omega
            case rel => first | exact ⟨j + 1, by omega, by first | rfl | go_num | simp, by first | exact hS84 | exact hS84.drew | exact hS84.drewN _⟩ | ((repeat apply Exists.intro); refine ⟨?_, rfl⟩; exact ⟨j + 1, by omega, by first | rfl | go_num | simp, by first | exact hS84 | exact hS84.drew | exact hS84.drewN _⟩)
        · go_upto_region 18 with (go_at_call 18; (with_reducible refine (HFI.out _ hS89).mono ?_); rintro e w4 ⟨rfl, hS4⟩; have hT4 := hU9.since hS4; obtain ⟨v1, v2, _, _, v5⟩ := id hT4; have hS84 := hS89.trans hS4)
          generalize ixF (eqT s) 0 ((all9 G).map blankT) = ix at *
          go_quiet (fail)
          go_wp2_with fail
          go_roundw
          case measure => simp [intOf]; omega
          case rel => first | exact ⟨j + 1, by omega, by first | rfl | go_num | simp, by first | exact hS84 | exact hS84.drew | exact hS84.drewN _⟩ | ((repeat apply Exists.intro); refine ⟨?_, rfl⟩; exact ⟨j + 1, by omega, by first | rfl | go_num | simp, by first | exact hS84 | exact hS84.drew | exact hS84.drewN _⟩)
      · go_upto_region 18 with (go_at_call 18; (with_reducible refine (HFI.out _ hS89).mono ?_); rintro e w4 ⟨rfl, hS4⟩; have hT4 := hU9.since hS4; obtain ⟨v1, v2, _, _, v5⟩ := id hT4; have hS84 := hS89.trans hS4)
        generalize ixF (eqT s) 0 ((all9 G).map blankT) = ix at *
        go_quiet (fail)
        go_wp2_with fail
        go_roundw
        case measure => simp [intOf]; omega
        case rel => first | exact ⟨j + 1, by omega, by first | rfl | go_num | simp, by first | exact hS84 | exact hS84.drew | exact hS84.drewN _⟩ | ((repeat apply Exists.intro); refine ⟨?_, rfl⟩; exact ⟨j + 1, by omega, by first | rfl | go_num | simp, by first | exact hS84 | exact hS84.drew | exact hS84.drewN _⟩)
    · obtain rfl : N = j := by omega
      have hjn' : ¬ (N : Int) < (N : Int) := by omega
      go_wp2_with fail
      go_ret
      exact ⟨by first | rfl | simp, hSw⟩
end Go.Proofs.YteckkcpnfeoehaaDoor
