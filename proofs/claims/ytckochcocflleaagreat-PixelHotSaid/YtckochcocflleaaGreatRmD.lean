/-
  Layer 15's document: 'Meet' of parallel lines, walked.
-/
import Derived.Test.YtckochcocflleaaGreatRmD0
namespace Go.Proofs.YtckochcocflleaaGreat
open Go.RowKit
set_option linter.unusedVariables false

set_option maxRecDepth 1000000 in
set_option maxHeartbeats 16000000 in
theorem rf15_meet_zero (s t : Ln) (hs : lnG s = true) (ht : lnG t = true) (h0 : cC s t = 0) (w : World) :
    Calls Tryz.prog 24 #[s.v, t.v] w fun e w' => e = .returned (RP (meetN s t)) ∧ Since w w' := by
  obtain ⟨RV, hRV⟩ : ∃ RV, RV = RP (meetN s t) := ⟨_, rfl⟩
  rw [← hRV]
  have HRV := Lib.hid hRV
  clear hRV
  have k1 := goodB_iff.1 (Bool.and_eq_true_iff.1 hs).1
  have k2 := goodB_iff.1 (Bool.and_eq_true_iff.1 hs).2
  have k3 := goodB_iff.1 (Bool.and_eq_true_iff.1 ht).1
  have k4 := goodB_iff.1 (Bool.and_eq_true_iff.1 ht).2
  have n0 : ∀ z, -4194304 ≤ z → z ≤ 4194304 → Near z := fun z h1 h2 => by unfold Near; omega
  have n1 : Near (s.bx - s.ax) := by unfold Near; omega
  have n2 : Near (s.bz - s.ay) := by unfold Near; omega
  have n5 : Near (t.bx - t.ax) := by unfold Near; omega
  have n6 : Near (t.bz - t.ay) := by unfold Near; omega
  have hl1 := fun w => rf_less s.bx s.bz s.ax s.ay (n0 _ (by omega) (by omega)) (n0 _ (by omega) (by omega)) (n0 _ (by omega) (by omega)) (n0 _ (by omega) (by omega)) w
  have hl2 := fun w => rf_less t.bx t.bz t.ax t.ay (n0 _ (by omega) (by omega)) (n0 _ (by omega) (by omega)) (n0 _ (by omega) (by omega)) (n0 _ (by omega) (by omega)) w
  have hcr := fun w => rf_cross (s.bx - s.ax) (s.bz - s.ay) (t.bx - t.ax) (t.bz - t.ay) n1 n2 n5 n6 w
  have hN := fun w b hb ty => ln_new w b hb s ty
  have hM := fun w b hb ty => ln_new w b hb t ty
  unfold Ln.v Pt at *
  have HL1 := Lib.hid hl1; have HL2 := Lib.hid hl2; have HCR := Lib.hid hcr; have HN := Lib.hid hN; have HM := Lib.hid hM
  have HRP := Lib.hid (fun w b hb ty => rprow0 w b hb ty)
  have HS := Lib.hid hs; have HT := Lib.hid ht; have HK := Lib.hid (And.intro k1 (And.intro k2 (And.intro k3 k4)))
  clear hl1 hl2 hcr hN hM hs ht k1 k2 k3 k4 n0 n1 n2 n5 n6
  go_enter Tryz.func24, Tryz.ntmps24
  go_upto_region 1 with fail
  refine wp_named fun wa hwa => ?_
  have hSa : LnAt wa w.heap.size s := by subst hwa; exact ((HN.out w _ rfl _).alloc _).alloc _
  have hTa : LnAt wa (w.heap.size + 1) t := by subst hwa; exact (HM.out _ _ (by simp) _).alloc _
  have hRa : Row wa (w.heap.size + 1 + 1) 18 (RPf cpNone) := by subst hwa; exact HRP.out _ _ (by simp) _
  have hUa : Since w wa := by subst hwa; (repeat (first | with_reducible (exact Since.refl _) | with_reducible assumption | with_reducible (refine Since.drew ?_) | with_reducible (refine Since.drewN ?_ _) | with_reducible (refine Since.alloc ?_ _) | (with_reducible (refine Since.setCell ?_ ?_ _); rotate_left; focus (first | (simp; done) | (simp; omega) | omega)) | (with_reducible (refine Since.trans ?_ (by with_reducible assumption)))))
  have hza : w.heap.size + 1 + 1 < wa.heap.size := hRa.2.2
  clear hwa HN HM HRP
  obtain ⟨s1, s2, s3, s4, s5⟩ := id hSa
  obtain ⟨t1, t2, t3, t4, t5⟩ := id hTa
  have HPR := Lib.hid (fun w b hb t => prow w b hb t 0 0)
  go_cut [5, 6] (fun p q wx => ∃ bd be : Nat, p = .pointer (some ⟨bd, 0, none⟩) ∧ q = .pointer (some ⟨be, 0, none⟩) ∧ wa.heap.size ≤ bd ∧ Since wa wx ∧ Row wx bd 2 (Pf (s.bx - s.ax) (s.bz - s.ay)) ∧ Row wx be 2 (Pf (t.bx - t.ax) (t.bz - t.ay)))
  case first =>
    have tok7 := True.intro
    have tok8 := True.intro
    (refine wp_named fun wr1 hwr1 => ?_; go_region_held3 (fun w' => (∀ b o, b < wr1.heap.size → w'.cell? ⟨b, o, none⟩ = wr1.cell? ⟨b, o, none⟩) ∧ (∀ b o, b < wr1.heap.size → w'.frozen? ⟨b, o, none⟩ = wr1.frozen? ⟨b, o, none⟩) ∧ (∀ k, k < wr1.heap.size → k < w'.heap.size) ∧ Below wr1.heap.size wr1 w') ((subst hwr1; (repeat (with_reducible (refine since_put ?_ ?_ _); rotate_left; focus (first | (simp; done) | (simp; omega) | omega))); first | with_reducible assumption | (refine since_step (by with_reducible assumption) ?_; first | with_reducible assumption | ((repeat (first | with_reducible (exact Since.refl _) | with_reducible assumption | with_reducible (refine Since.drew ?_) | with_reducible (refine Since.drewN ?_ _) | with_reducible (refine Since.alloc ?_ _) | (with_reducible (refine Since.setCell ?_ ?_ _); rotate_left; focus (first | (simp; done) | (simp; omega) | omega)))); done)) | (refine since_step (Since.refl _) ?_; first | with_reducible assumption | ((repeat (first | with_reducible (exact Since.refl _) | with_reducible assumption | with_reducible (refine Since.drew ?_) | with_reducible (refine Since.drewN ?_ _) | with_reducible (refine Since.alloc ?_ _) | (with_reducible (refine Since.setCell ?_ ?_ _); rotate_left; focus (first | (simp; done) | (simp; omega) | omega)) | (with_reducible (refine Since.trans ?_ (by with_reducible assumption))))); done)))) (first | (go_at_call 44; have _t := tok7; (with_reducible refine (HL1.out _).mono ?_); rintro e w7 ⟨rfl, hS7⟩; have hZ7 := hS7.below.size; (try simp at hZ7); clear tok7; (try (first | (have rB := (HPR.out _ (wa.heap.size + 1) (by first | rfl | (simp; done)) _).since hS7; have rA := ((HPR.out _ wa.heap.size (by first | rfl | (simp; done)) _).alloc _).since hS7) | (have rB := (Row.drew (HPR.out _ (wa.heap.size + 1) (by first | rfl | (simp; done)) _)).since hS7; have rA := (Row.drew ((HPR.out _ wa.heap.size (by first | rfl | (simp; done)) _).alloc _)).since hS7) | (have rA := (HPR.out _ wa.heap.size (by first | rfl | (simp; done)) _).since hS7) | (have rA := (Row.drew (HPR.out _ wa.heap.size (by first | rfl | (simp; done)) _)).since hS7)))) | (go_at_call 44; have _t := tok8; (with_reducible refine (HL2.out _).mono ?_); rintro e w8 ⟨rfl, hS8⟩; have hZ8 := hS8.below.size; (try simp at hZ8); clear tok8; (try (first | (have rA := Row.since rA hS8) | (have rA := Row.since (Row.alloc rA _) hS8) | (have rA := Row.since (Row.alloc (Row.alloc rA _) _) hS8))); (try (first | (have rB := Row.since rB hS8) | (have rB := Row.since (Row.alloc rB _) hS8) | (have rB := Row.since (Row.alloc (Row.alloc rB _) _) hS8))); (try (first | (have rE := (HPR.out _ (w7.heap.size + 1) (by first | rfl | (simp; done)) _).since hS8; have rC := ((HPR.out _ w7.heap.size (by first | rfl | (simp; done)) _).alloc _).since hS8) | (have rE := (Row.drew (HPR.out _ (w7.heap.size + 1) (by first | rfl | (simp; done)) _)).since hS8; have rC := (Row.drew ((HPR.out _ w7.heap.size (by first | rfl | (simp; done)) _).alloc _)).since hS8) | (have rC := (HPR.out _ w7.heap.size (by first | rfl | (simp; done)) _).since hS8) | (have rC := (Row.drew (HPR.out _ w7.heap.size (by first | rfl | (simp; done)) _)).since hS8))); (try (have hAA := pcells rA; have hBA := Row.frz2 rA; obtain ⟨AA1, AA2, AA3⟩ := hAA; obtain ⟨BA1, BA2⟩ := hBA)); (try (have hAB := pcells rB; have hBB := Row.frz2 rB; obtain ⟨AB1, AB2, AB3⟩ := hAB; obtain ⟨BB1, BB2⟩ := hBB)); (try (have hAC := pcells rC; have hBC := Row.frz2 rC; obtain ⟨AC1, AC2, AC3⟩ := hAC; obtain ⟨BC1, BC2⟩ := hBC)); (try (have hAE := pcells rE; have hBE := Row.frz2 rE; obtain ⟨AE1, AE2, AE3⟩ := hAE; obtain ⟨BE1, BE2⟩ := hBE)))); all_goals (rename_i hHeld; have hR1 : Since wr1 _ := hHeld; obtain ⟨hcR1, hfR1, hzR1, hbR1⟩ := hHeld; subst hwr1))
    all_goals (go_wp2_with fail)
    all_goals go_meet
    all_goals refine ⟨_, _, rfl, rfl, ?_, ?_, ?_, ?_⟩
    any_goals ((show _ ≤ _); first | omega | (simp; omega))
    any_goals ((show Since _ _); (repeat (first | with_reducible (exact Since.refl _) | with_reducible assumption | with_reducible (refine Since.drew ?_) | with_reducible (refine Since.drewN ?_ _) | with_reducible (refine Since.alloc ?_ _) | (with_reducible (refine Since.setCell ?_ ?_ _); rotate_left; focus (first | (simp; done) | (simp; omega) | omega)) | (with_reducible (refine Since.trans ?_ (by with_reducible assumption))))); done)
    all_goals first | ((show Row _ _ 2 (Pf (s.bx - s.ax) (s.bz - s.ay))); (repeat (first | with_reducible assumption | (with_reducible (refine prow _ _ ?_ _ (s.bx - s.ax) (s.bz - s.ay)); focus (first | with_reducible rfl | (simp; done))) | (with_reducible (refine prow _ _ ?_ _ 0 0); focus (first | with_reducible rfl | (simp; done))) | with_reducible (refine pput0 ?_ (s.bx - s.ax) (s.bz - s.ay)) | with_reducible (refine Row.drew ?_) | with_reducible (refine Row.alloc ?_ _) | (with_reducible (refine Row.far ?_ ?_ _ _); rotate_left; focus (first | (simp; done) | (simp; omega) | omega)))); done) | ((show Row _ _ 2 (Pf (t.bx - t.ax) (t.bz - t.ay))); (repeat (first | with_reducible assumption | (with_reducible (refine prow _ _ ?_ _ (t.bx - t.ax) (t.bz - t.ay)); focus (first | with_reducible rfl | (simp; done))) | (with_reducible (refine prow _ _ ?_ _ 0 0); focus (first | with_reducible rfl | (simp; done))) | with_reducible (refine pput0 ?_ (t.bx - t.ax) (t.bz - t.ay)) | with_reducible (refine Row.drew ?_) | with_reducible (refine Row.alloc ?_ _) | (with_reducible (refine Row.far ?_ ?_ _ _); rotate_left; focus (first | (simp; done) | (simp; omega) | omega)))); done)
  obtain ⟨bd, be, rfl, rfl, hbdn, hSc, hDc, hEc⟩ := hcut
  have hbdne : w.heap.size + 1 + 1 ≠ bd := by omega
  have hUc := hUa.trans hSc
  have hSc' := hSa.since hSc
  have hTc := hTa.since hSc
  have hRc := hRa.since hSc
  clear hbdn hSa hTa hRa hUa hSc s1 s2 s3 s4 s5 t1 t2 t3 t4 t5 hza HL1
  obtain ⟨d1, d2, d3⟩ := pcells hDc
  obtain ⟨e1, e2, e3⟩ := pcells hEc
  have hcc : crossI (s.bx - s.ax) (s.bz - s.ay) (t.bx - t.ax) (t.bz - t.ay) = cC s t := rfl
  rw [hcc] at HCR
  clear hcc
  rw [h0] at HCR
  have HV2 := Lib.hid (show RV = RP (touchOf (ends s t)) by rw [HRV.out]; exact congrArg RP (if_pos h0))
  clear h0 HL2 HRV
  go_upto_region 6 with (go_at_call 45; (with_reducible refine (HCR.out _).mono ?_); rintro e w2 ⟨rfl, hS2⟩)
  refine wp_named fun wb hwb => ?_
  have hTb : Since wc wb := by subst hwb; (repeat (first | with_reducible (exact Since.refl _) | with_reducible assumption | with_reducible (refine Since.drew ?_) | with_reducible (refine Since.drewN ?_ _) | with_reducible (refine Since.alloc ?_ _) | (with_reducible (refine Since.setCell ?_ ?_ _); rotate_left; focus (first | (simp; done) | (simp; omega) | omega)) | (with_reducible (refine Since.trans ?_ (by with_reducible assumption)))))
  have hFb : Row wb w2.heap.size 2 (Pf 0 0) := by subst hwb; exact prow w2 _ rfl _ 0 0
  have hzc := hRc.2.2
  have hzf : w.heap.size + 1 + 1 ≠ w2.heap.size := by have := hS2.below.size; omega
  have hSb := hSc'.since hTb
  have hTb' := hTc.since hTb
  have hRb := hRc.since hTb
  have hUb := hUc.trans hTb
  have hzw : w.heap.size + 1 + 1 < w2.heap.size := by have := hS2.below.size; omega
  clear hwb hTb hDc hEc d1 d2 d3 e1 e2 e3 hSc' hTc hRc hUc hS2 hzc HCR
  generalize w2.heap.size = bf at *
  obtain ⟨s1, s2, s3, s4, s5⟩ := id hSb
  obtain ⟨t1, t2, t3, t4, t5⟩ := id hTb'
  have hEF := Lib.hid (ends_filter s t HS.out HT.out)
  go_wp2_with fail
  clear s1 s2 s3 s4 s5 t1 t2 t3 t4 t5
  go_loopw [9, 39] (fun n k wk => ∃ (j : Nat) (T : List (Int × Int)), j ≤ 4 ∧ k = .int .i64 (j : Int) ∧ n = .int .i64 (stN T) ∧ Hid (T = ((four4 s t).take j).filter (bothP s t)) ∧ Since w wk ∧ LnAt wk w.heap.size s ∧ LnAt wk (w.heap.size + 1) t ∧ Row wk (w.heap.size + 1 + 1) 18 (RPf cpNone) ∧ Row wk bf 2 (Pf (T.headD (0, 0)).1 (T.headD (0, 0)).2)) (fun _ k _ => 4 - (intOf k).toNat)
  case atStart => exact ⟨0, [], by omega, rfl, rfl, Lib.hid rfl, hUb, hSb, hTb', hRb, hFb⟩
  case round =>
    obtain ⟨j, T, hj, rfl, rfl, HTJ, hU, hL, hM, hR, hF⟩ := hrel
    by_cases hj4 : j < 4
    · have hj4' : (j : Int) < 4 := by omega
      have hk := HK.out
      obtain ⟨px, py, hix, hin⟩ : ∃ px py, (∀ w, (Instr.index 89 (.agg #[.int .i64 s.ax, .int .i64 s.ay, .int .i64 s.bx, .int .i64 s.bz, .int .i64 t.ax, .int .i64 t.ay, .int .i64 t.bx, .int .i64 t.bz]) (.int .i64 (j : Int))).run Tryz.prog w = .ok (.agg #[.int .i64 px, .int .i64 py]) w) ∧ Hid ((four4 s t)[j]? = some (px, py) ∧ goodB px py = true) := by
        have hc : j = 0 ∨ j = 1 ∨ j = 2 ∨ j = 3 := by omega
        rcases hc with rfl | rfl | rfl | rfl
        · exact ⟨s.ax, s.ay, fun w => (ix4p _ _ _ _ _ _ _ _ w).1, Lib.hid ⟨rfl, goodB_iff.2 hk.1⟩⟩
        · exact ⟨s.bx, s.bz, fun w => (ix4p _ _ _ _ _ _ _ _ w).2.1, Lib.hid ⟨rfl, goodB_iff.2 hk.2.1⟩⟩
        · exact ⟨t.ax, t.ay, fun w => (ix4p _ _ _ _ _ _ _ _ w).2.2.1, Lib.hid ⟨rfl, goodB_iff.2 hk.2.2.1⟩⟩
        · exact ⟨t.bx, t.bz, fun w => (ix4p _ _ _ _ _ _ _ _ w).2.2.2, Lib.hid ⟨rfl, goodB_iff.2 hk.2.2.2⟩⟩
      clear hk
      have hy : IntKind.i64.wrap ((j : Int) + 1) = (j : Int) + 1 := IntWalk.i64_in _ (by omega)
      have hj0 : (0 : Int) ≤ j := by omega
      have ho1 := fun w => r15_on px py s (by show (lnG s && goodB px py) = true; rw [HS.out, hin.out.2]; rfl) w
      have ho2 := fun w => r15_on px py t (by show (lnG t && goodB px py) = true; rw [HT.out, hin.out.2]; rfl) w
      have hft := filter_take (f := bothP s t) hin.out.1
      have hbp : bothP s t (px, py) = (onB px py s && onB px py t) := rfl
      rw [hbp, ← HTJ.out] at hft
      generalize onB px py s = o1 at *
      generalize onB px py t = o2 at *
      have HFT := Lib.hid hft
      unfold Ln.v Pt at ho1 ho2
      have HO1 := Lib.hid ho1; have HO2 := Lib.hid ho2
      clear ho1 ho2 hft hbp hin HTJ
      go_upto_region 9 with fail
      refine wp_named fun wd hwd => ?_
      have hTd : Since wr wd := by subst hwd; exact (Since.refl _).alloc _
      have hPd : PtAt wd wr.heap.size px py := by subst hwd; exact pt_new wr _ rfl _ _ _
      have hLd := hL.since hTd
      have hMd := hM.since hTd
      have hRd := hR.since hTd
      have hFd := hF.since hTd
      have hUd := hU.trans hTd
      clear hwd hTd hL hM hR hF hU hix
      generalize wr.heap.size = bp at *
      obtain ⟨p1, p2, p3⟩ := id hPd
      obtain ⟨s1, s2, s3, s4, s5⟩ := id hLd
      obtain ⟨t1, t2, t3, t4, t5⟩ := id hMd
      cases o1
      · go_wp2_with (go_at_call 46; (with_reducible refine (HO1.out _).mono ?_); rintro e w3 ⟨rfl, hS3⟩)
        go_roundw
        case rel => exact ⟨j + 1, T, by omega, by go_num, rfl, Lib.hid (by rw [HFT.out]; simp), hUd.trans hS3, hLd.since hS3, hMd.since hS3, hRd.since hS3, hFd.since hS3⟩
        case measure => simp only [intOf]; omega
      · have tok1 := True.intro
        cases o2
        · go_wp2_with (first | (go_at_call 46; have _t := tok1; (with_reducible refine (HO1.out _).mono ?_); rintro e w3 ⟨rfl, hS3⟩; clear tok1; have hU3 := hUd.trans hS3; have hP3 := hPd.since hS3; have hL3 := hLd.since hS3; have hM3 := hMd.since hS3; have hR3 := hRd.since hS3; have hF3 := hFd.since hS3; clear hS3 hUd hPd hLd hMd hRd hFd p1 p2 p3 s1 s2 s3 s4 s5 t1 t2 t3 t4 t5; obtain ⟨p1, p2, p3⟩ := id hP3; obtain ⟨s1, s2, s3, s4, s5⟩ := id hL3; obtain ⟨t1, t2, t3, t4, t5⟩ := id hM3) | (go_at_call 46; (with_reducible refine (HO2.out _).mono ?_); rintro e w4 ⟨rfl, hS4⟩; have hU4 := hU3.trans hS4; have hP4 := hP3.since hS4; have hL4 := hL3.since hS4; have hM4 := hM3.since hS4; have hR4 := hR3.since hS4; have hF4 := hF3.since hS4; clear hS4 hU3 hP3 hL3 hM3 hR3 hF3 p1 p2 p3 s1 s2 s3 s4 s5 t1 t2 t3 t4 t5; obtain ⟨p1, p2, p3⟩ := id hP4; obtain ⟨g1, g2, g3⟩ := pcells hF4; have f1 := hF4.2.1 0; have f2 := hF4.2.1 1))
          go_roundw
          case rel => exact ⟨j + 1, T, by omega, by go_num, rfl, Lib.hid (by rw [HFT.out]; simp), hU4, hL4, hM4, hR4, hF4⟩
          case measure => simp only [intOf]; omega
        · have hft2 : ((four4 s t).take (j + 1)).filter (bothP s t) = T ++ [(px, py)] := by rw [HFT.out]; rfl
          have HF2 := Lib.hid hft2
          clear hft2 HFT
          by_cases hTn : T = []
          · subst hTn
            have hn0 : stN [] = 0 := rfl
            rw [hn0]
            clear hn0
            go_wp2_with (first | (go_at_call 46; have _t := tok1; (with_reducible refine (HO1.out _).mono ?_); rintro e w3 ⟨rfl, hS3⟩; clear tok1; have hU3 := hUd.trans hS3; have hP3 := hPd.since hS3; have hL3 := hLd.since hS3; have hM3 := hMd.since hS3; have hR3 := hRd.since hS3; have hF3 := hFd.since hS3; clear hS3 hUd hPd hLd hMd hRd hFd p1 p2 p3 s1 s2 s3 s4 s5 t1 t2 t3 t4 t5; obtain ⟨p1, p2, p3⟩ := id hP3; obtain ⟨s1, s2, s3, s4, s5⟩ := id hL3; obtain ⟨t1, t2, t3, t4, t5⟩ := id hM3) | (go_at_call 46; (with_reducible refine (HO2.out _).mono ?_); rintro e w4 ⟨rfl, hS4⟩; have hU4 := hU3.trans hS4; have hP4 := hP3.since hS4; have hL4 := hL3.since hS4; have hM4 := hM3.since hS4; have hR4 := hR3.since hS4; have hF4 := hF3.since hS4; clear hS4 hU3 hP3 hL3 hM3 hR3 hF3 p1 p2 p3 s1 s2 s3 s4 s5 t1 t2 t3 t4 t5; obtain ⟨p1, p2, p3⟩ := id hP4; obtain ⟨g1, g2, g3⟩ := pcells hF4; have f1 := hF4.2.1 0; have f2 := hF4.2.1 1))
            go_roundw
            case rel => exact ⟨j + 1, [(px, py)], by omega, by go_num, rfl, Lib.hid HF2.out.symm, (by have := hzw; (repeat (first | with_reducible (exact Since.refl _) | with_reducible assumption | with_reducible (refine Since.drew ?_) | with_reducible (refine Since.drewN ?_ _) | with_reducible (refine Since.alloc ?_ _) | (with_reducible (refine Since.setCell ?_ ?_ _); rotate_left; focus (first | (simp; done) | (simp; omega) | omega)) | (with_reducible (refine Since.trans ?_ (by with_reducible assumption)))))), ln2 hL4 (by omega) _ _, ln2 hM4 (by omega) _ _, (hR4.far (by omega) _ _).far (by omega) _ _, pput hF4 px py⟩
            case measure => simp only [intOf]; omega
          · have hz : (stN T == 0) = false := by
              rcases touch_st T with ⟨h, _⟩ | ⟨_, h, _⟩ | ⟨_, h, _⟩
              · exact absurd h hTn
              · rw [h]; rfl
              · rw [h]; rfl
            have hz2 : ¬ stN T = 0 := by simpa using hz
            obtain ⟨X, hX⟩ : ∃ X, X = (T.headD (0, 0)).1 := ⟨_, rfl⟩
            obtain ⟨Y, hY⟩ : ∃ Y, Y = (T.headD (0, 0)).2 := ⟨_, rfl⟩
            have hhd : T.headD (0, 0) = (X, Y) := by rw [hX, hY]
            have HHD := Lib.hid hhd
            rw [← hX, ← hY] at hFd
            clear hX hY hhd
            by_cases he : px = X ∧ py = Y
            · obtain ⟨rfl, rfl⟩ := he
              have hst := st_same hTn
              rw [HHD.out] at hst
              have HST := Lib.hid hst
              clear hst hTn
              go_wp2_with (first | (go_at_call 46; have _t := tok1; (with_reducible refine (HO1.out _).mono ?_); rintro e w3 ⟨rfl, hS3⟩; clear tok1; have hU3 := hUd.trans hS3; have hP3 := hPd.since hS3; have hL3 := hLd.since hS3; have hM3 := hMd.since hS3; have hR3 := hRd.since hS3; have hF3 := hFd.since hS3; clear hS3 hUd hPd hLd hMd hRd hFd p1 p2 p3 s1 s2 s3 s4 s5 t1 t2 t3 t4 t5; obtain ⟨p1, p2, p3⟩ := id hP3; obtain ⟨s1, s2, s3, s4, s5⟩ := id hL3; obtain ⟨t1, t2, t3, t4, t5⟩ := id hM3) | (go_at_call 46; (with_reducible refine (HO2.out _).mono ?_); rintro e w4 ⟨rfl, hS4⟩; have hU4 := hU3.trans hS4; have hP4 := hP3.since hS4; have hL4 := hL3.since hS4; have hM4 := hM3.since hS4; have hR4 := hR3.since hS4; have hF4 := hF3.since hS4; clear hS4 hU3 hP3 hL3 hM3 hR3 hF3 p1 p2 p3 s1 s2 s3 s4 s5 t1 t2 t3 t4 t5; obtain ⟨p1, p2, p3⟩ := id hP4; obtain ⟨g1, g2, g3⟩ := pcells hF4; have f1 := hF4.2.1 0; have f2 := hF4.2.1 1))
              go_roundw
              case rel => exact ⟨j + 1, T ++ [(px, py)], by omega, by go_num, by rw [HST.out.1], Lib.hid HF2.out.symm, hU4, hL4, hM4, hR4, by rw [HST.out.2]; exact hF4⟩
              case measure => simp only [intOf]; omega
            · have hst := st_other hTn (p := (px, py)) (by rw [HHD.out]; intro e; injection e with e1 e2; exact he ⟨e1, e2⟩)
              rw [HHD.out] at hst
              have HST := Lib.hid hst
              clear hst hTn
              by_cases ex : px = X
              · subst ex
                have ey : ¬ py = Y := fun e => he ⟨rfl, e⟩
                have ey2 : (py == Y) = false := by simp [ey]
                clear he
                go_wp2_with (first | (go_at_call 46; have _t := tok1; (with_reducible refine (HO1.out _).mono ?_); rintro e w3 ⟨rfl, hS3⟩; clear tok1; have hU3 := hUd.trans hS3; have hP3 := hPd.since hS3; have hL3 := hLd.since hS3; have hM3 := hMd.since hS3; have hR3 := hRd.since hS3; have hF3 := hFd.since hS3; clear hS3 hUd hPd hLd hMd hRd hFd p1 p2 p3 s1 s2 s3 s4 s5 t1 t2 t3 t4 t5; obtain ⟨p1, p2, p3⟩ := id hP3; obtain ⟨s1, s2, s3, s4, s5⟩ := id hL3; obtain ⟨t1, t2, t3, t4, t5⟩ := id hM3) | (go_at_call 46; (with_reducible refine (HO2.out _).mono ?_); rintro e w4 ⟨rfl, hS4⟩; have hU4 := hU3.trans hS4; have hP4 := hP3.since hS4; have hL4 := hL3.since hS4; have hM4 := hM3.since hS4; have hR4 := hR3.since hS4; have hF4 := hF3.since hS4; clear hS4 hU3 hP3 hL3 hM3 hR3 hF3 p1 p2 p3 s1 s2 s3 s4 s5 t1 t2 t3 t4 t5; obtain ⟨p1, p2, p3⟩ := id hP4; obtain ⟨g1, g2, g3⟩ := pcells hF4; have f1 := hF4.2.1 0; have f2 := hF4.2.1 1))
                go_roundw
                case rel => exact ⟨j + 1, T ++ [(px, py)], by omega, by go_num, by rw [HST.out.1], Lib.hid HF2.out.symm, hU4, hL4, hM4, hR4, by rw [HST.out.2]; exact hF4⟩
                case measure => simp only [intOf]; omega
              · have ex2 : (px == X) = false := by simp [ex]
                clear he
                go_wp2_with (first | (go_at_call 46; have _t := tok1; (with_reducible refine (HO1.out _).mono ?_); rintro e w3 ⟨rfl, hS3⟩; clear tok1; have hU3 := hUd.trans hS3; have hP3 := hPd.since hS3; have hL3 := hLd.since hS3; have hM3 := hMd.since hS3; have hR3 := hRd.since hS3; have hF3 := hFd.since hS3; clear hS3 hUd hPd hLd hMd hRd hFd p1 p2 p3 s1 s2 s3 s4 s5 t1 t2 t3 t4 t5; obtain ⟨p1, p2, p3⟩ := id hP3; obtain ⟨s1, s2, s3, s4, s5⟩ := id hL3; obtain ⟨t1, t2, t3, t4, t5⟩ := id hM3) | (go_at_call 46; (with_reducible refine (HO2.out _).mono ?_); rintro e w4 ⟨rfl, hS4⟩; have hU4 := hU3.trans hS4; have hP4 := hP3.since hS4; have hL4 := hL3.since hS4; have hM4 := hM3.since hS4; have hR4 := hR3.since hS4; have hF4 := hF3.since hS4; clear hS4 hU3 hP3 hL3 hM3 hR3 hF3 p1 p2 p3 s1 s2 s3 s4 s5 t1 t2 t3 t4 t5; obtain ⟨p1, p2, p3⟩ := id hP4; obtain ⟨g1, g2, g3⟩ := pcells hF4; have f1 := hF4.2.1 0; have f2 := hF4.2.1 1))
                go_roundw
                case rel => exact ⟨j + 1, T ++ [(px, py)], by omega, by go_num, by rw [HST.out.1], Lib.hid HF2.out.symm, hU4, hL4, hM4, hR4, by rw [HST.out.2]; exact hF4⟩
                case measure => simp only [intOf]; omega
    · obtain rfl : j = 4 := by omega
      have hTe : T = ends s t := by rw [HTJ.out, ← hEF.out]; rfl
      have HRV3 := Lib.hid (show RV = RP (touchOf T) by rw [HV2.out, hTe])
      have HTE := Lib.hid hTe
      have hj4' : ¬ ((4 : Nat) : Int) < 4 := by omega
      clear hTe HTJ HV2 hEF hFb hRb hUb hSb hTb'
      have hTh := row_there hR
      have hzw3 : w.heap.size ≤ w.heap.size + 1 + 1 := by omega
      rcases touch_st T with ⟨_, h1, h2⟩ | ⟨hTn, h1, h2⟩ | ⟨_, h1, h2⟩
      · have HR4 := Lib.hid (show RV = RP ⟨0, 0, 0, 0⟩ by rw [HRV3.out, h2]; rfl)
        rw [h1]
        clear h1 h2 HRV3 HTE hL hM hF
        have hra := World.rangeAt_setCells_same wr (w.heap.size + 1 + 1) 0 [.int .i64 0, .int .u32 0, .int .u32 0, .int .u32 0, .int .u32 0, .int .u32 0, .int .u32 0, .int .u32 0, .int .u32 0, .int .u32 0, .int .u32 0, .int .u32 0, .int .u32 0, .int .u32 0, .int .u32 0, .int .u32 0, .int .u32 0, .int .i64 0] hTh
        have hra := Lib.hid hra
        go_wp2_with (refine wpList_store_mid rfl 64 _ _ rfl (w.heap.size + 1 + 1) 0 (#[.int .i64 0, .int .u32 0, .int .u32 0, .int .u32 0, .int .u32 0, .int .u32 0, .int .u32 0, .int .u32 0, .int .u32 0, .int .u32 0, .int .u32 0, .int .u32 0, .int .u32 0, .int .u32 0, .int .u32 0, .int .u32 0, .int .u32 0, .int .i64 0]) (by rfl) (by rfl) hTh info_rp (one18z _) ?_)
        refine ret_agg (P := Tryz.prog) Tryz.results24 rfl hra.out Tryz.underlying64 rfl info_rp rfl ⟨by rw [HR4.out]; simp [RP, dg], ?_⟩
        exact Since.setCells (by omega) _ _ _ (by (repeat (first | with_reducible (exact Since.refl _) | with_reducible assumption | with_reducible (refine Since.drew ?_) | with_reducible (refine Since.drewN ?_ _) | with_reducible (refine Since.alloc ?_ _) | (with_reducible (refine Since.setCell ?_ ?_ _); rotate_left; focus (first | (simp; done) | (simp; omega) | omega)) | (with_reducible (refine Since.trans ?_ (by with_reducible assumption))))))
      · obtain ⟨X, hX⟩ : ∃ X, X = (T.headD (0, 0)).1 := ⟨_, rfl⟩
        obtain ⟨Y, hY⟩ : ∃ Y, Y = (T.headD (0, 0)).2 := ⟨_, rfl⟩
        have HR4 := Lib.hid (show RV = RP ⟨1, X, Y, 1⟩ by rw [HRV3.out, h2, hX, hY])
        have hgd : goodB X Y = true := by
          have hmem : (X, Y) ∈ ends s t := by
            rw [← HTE.out, hX, hY]
            cases T with
            | nil => exact absurd rfl hTn
            | cons a r => simp
          have hk := HK.out
          rcases mem_ends.1 hmem with ⟨e, _⟩ | ⟨e, _⟩ | ⟨e, _⟩ | ⟨e, _⟩ <;> (injection e with e1 e2; rw [e1, e2])
          · exact goodB_iff.2 hk.1
          · exact goodB_iff.2 hk.2.1
          · exact goodB_iff.2 hk.2.2.1
          · exact goodB_iff.2 hk.2.2.2
        have hgi := goodB_iff.1 hgd
        have hs1 := fun w => ref_small X (by unfold InW; omega) w
        have hs2 := fun w => ref_small Y (by unfold InW; omega) w
        have HS1 := Lib.hid hs1; have HS2 := Lib.hid hs2
        rw [← hX, ← hY] at hF
        rw [h1]
        have w1 : IntKind.i64.wrap X = X := IntWalk.i64_in _ (by omega)
        have w2 : IntKind.i64.wrap Y = Y := IntWalk.i64_in _ (by omega)
        clear h1 h2 HRV3 HTE hX hY hgd hgi hs1 hs2 hTn hL hM
        obtain ⟨g1, g2, g3⟩ := pcells hF
        have hzf2 := hzf.symm
        have tok1 := True.intro
        have tok2 := True.intro
        go_upto_region 19 with fail
        clear hTh
        go_region_held3 (fun w' => w'.cell? ⟨bf, 0, none⟩ = some (.int .i64 X) ∧ w'.cell? ⟨bf, 1, none⟩ = some (.int .i64 Y)) ((refine ⟨?_, ?_⟩ <;> (first | with_reducible assumption | (rw [cell_drewR]; with_reducible assumption) | ((repeat (rw [cell_set, if_neg (fun h => hzf h.1)])); with_reducible assumption)))) ((first | (go_at_call 47; have _t := tok1; (with_reducible refine (HS1.out _).mono ?_); rintro e w3 ⟨rfl, hS3⟩; clear tok1; have hT3 := hS3; have q1 := (hT3.1 _ _ g3).trans g1; have q2 := (hT3.1 _ _ g3).trans g2; have q3 := hT3.2.2.1 _ g3; have hR3 := Row.since (Row.drew hR) hS3) | (go_at_call 47; have _t := tok2; (with_reducible refine (HS2.out _).mono ?_); rintro e w4 ⟨rfl, hS4⟩; clear tok2; have hT4 := hS4; have r1 := (hT4.1 _ _ q3).trans q1; have r2 := (hT4.1 _ _ q3).trans q2; have hR4 := Row.since hR3 hS4; have hC4 := rpcells hR4; obtain ⟨c0, c1, c2, c3, c4, c5, c6, c7, c8, c9, c10, c11, c12, c13, c14, c15, c16, c17, c18⟩ := hC4; simp only [cpNone] at c0 c1 c2 c3 c4 c5 c6 c7 c8 c9 c10 c11 c12 c13 c14 c15 c16 c17; have f0 := hR4.2.1 0; have f1 := hR4.2.1 1; have f2 := hR4.2.1 2; have f3 := hR4.2.1 3; have f4 := hR4.2.1 4; have f5 := hR4.2.1 5; have f6 := hR4.2.1 6; have f7 := hR4.2.1 7; have f8 := hR4.2.1 8; have f9 := hR4.2.1 9; have f10 := hR4.2.1 10; have f11 := hR4.2.1 11; have f12 := hR4.2.1 12; have f13 := hR4.2.1 13; have f14 := hR4.2.1 14; have f15 := hR4.2.1 15; have f16 := hR4.2.1 16; have f17 := hR4.2.1 17)))
        all_goals go_wp2_with fail
        all_goals refine ret_agg (P := Tryz.prog) Tryz.results24 rfl (rp_range (rpput hR4 ⟨1, X, Y, 1⟩)) Tryz.underlying64 rfl info_rp rfl ⟨by rw [HR4.out]; rfl, ?_⟩
        all_goals ((repeat (first | with_reducible (exact Since.refl _) | with_reducible assumption | with_reducible (refine Since.drew ?_) | with_reducible (refine Since.drewN ?_ _) | with_reducible (refine Since.alloc ?_ _) | (with_reducible (refine Since.setCell ?_ ?_ _); rotate_left; focus (first | (simp; done) | (simp; omega) | omega)) | (with_reducible (refine Since.trans ?_ (by with_reducible assumption))))))
      · have HR4 := Lib.hid (show RV = RP ⟨2, 0, 0, 0⟩ by rw [HRV3.out, h2])
        rw [h1]
        clear h1 h2 HRV3 HTE hL hM hF
        have hra := World.rangeAt_setCells_same wr (w.heap.size + 1 + 1) 0 [.int .i64 2, .int .u32 0, .int .u32 0, .int .u32 0, .int .u32 0, .int .u32 0, .int .u32 0, .int .u32 0, .int .u32 0, .int .u32 0, .int .u32 0, .int .u32 0, .int .u32 0, .int .u32 0, .int .u32 0, .int .u32 0, .int .u32 0, .int .i64 0] hTh
        have hra := Lib.hid hra
        go_wp2_with (refine wpList_store_mid rfl 64 _ _ rfl (w.heap.size + 1 + 1) 0 (#[.int .i64 2, .int .u32 0, .int .u32 0, .int .u32 0, .int .u32 0, .int .u32 0, .int .u32 0, .int .u32 0, .int .u32 0, .int .u32 0, .int .u32 0, .int .u32 0, .int .u32 0, .int .u32 0, .int .u32 0, .int .u32 0, .int .u32 0, .int .i64 0]) (by rfl) (by rfl) hTh info_rp (one18z _) ?_)
        refine ret_agg (P := Tryz.prog) Tryz.results24 rfl hra.out Tryz.underlying64 rfl info_rp rfl ⟨by rw [HR4.out]; simp [RP, dg], ?_⟩
        exact Since.setCells (by omega) _ _ _ (by (repeat (first | with_reducible (exact Since.refl _) | with_reducible assumption | with_reducible (refine Since.drew ?_) | with_reducible (refine Since.drewN ?_ _) | with_reducible (refine Since.alloc ?_ _) | (with_reducible (refine Since.setCell ?_ ?_ _); rotate_left; focus (first | (simp; done) | (simp; omega) | omega)) | (with_reducible (refine Since.trans ?_ (by with_reducible assumption))))))
end Go.Proofs.YtckochcocflleaaGreat
