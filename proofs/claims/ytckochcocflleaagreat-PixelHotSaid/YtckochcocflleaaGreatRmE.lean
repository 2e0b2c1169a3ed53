/-
  Layer 15's document: 'Meet' of lines that aren't parallel, walked.
-/
import Derived.Test.YtckochcocflleaaGreatRmD0
namespace Go.Proofs.YtckochcocflleaaGreat
open Go.RowKit
set_option linter.unusedVariables false

set_option maxRecDepth 1000000 in
set_option maxHeartbeats 16000000 in
theorem rf15_meet_cross (s t : Ln) (hs : lnG s = true) (ht : lnG t = true) (h0 : ¬ cC s t = 0) (w : World) :
    Calls Tryz.prog 24 #[s.v, t.v] w fun e w' => e = .returned (RP (meetN s t)) ∧ Since w w' := by
  obtain ⟨RV, hRV⟩ : ∃ RV, RV = RP (meetN s t) := ⟨_, rfl⟩
  rw [← hRV]
  have HRV := Lib.hid hRV
  clear hRV
  have k1 := goodB_iff.1 (Bool.and_eq_true_iff.1 hs).1
  have k2 := goodB_iff.1 (Bool.and_eq_true_iff.1 hs).2
  have k3 := goodB_iff.1 (Bool.and_eq_true_iff.1 ht).1
  have k4 := goodB_iff.1 (Bool.and_eq_true_iff.1 ht).2
  have n0 : ∀ z, -4194304 ≤ z → z ≤ 4194304 → Near z := fun z h1 h2 => by unfold Near; omega
  have n1 : Near (s.bx - s.ax) := by unfold Near; omega
  have n2 : Near (s.bz - s.ay) := by unfold Near; omega
  have n5 : Near (t.bx - t.ax) := by unfold Near; omega
  have n6 : Near (t.bz - t.ay) := by unfold Near; omega
  have hl1 := fun w => rf_less s.bx s.bz s.ax s.ay (n0 _ (by omega) (by omega)) (n0 _ (by omega) (by omega)) (n0 _ (by omega) (by omega)) (n0 _ (by omega) (by omega)) w
  have hl2 := fun w => rf_less t.bx t.bz t.ax t.ay (n0 _ (by omega) (by omega)) (n0 _ (by omega) (by omega)) (n0 _ (by omega) (by omega)) (n0 _ (by omega) (by omega)) w
  have hcr := fun w => rf_cross (s.bx - s.ax) (s.bz - s.ay) (t.bx - t.ax) (t.bz - t.ay) n1 n2 n5 n6 w
  have hN := fun w b hb ty => ln_new w b hb s ty
  have hM := fun w b hb ty => ln_new w b hb t ty
  unfold Ln.v Pt at *
  have HL1 := Lib.hid hl1; have HL2 := Lib.hid hl2; have HCR := Lib.hid hcr; have HN := Lib.hid hN; have HM := Lib.hid hM
  have HRP := Lib.hid (fun w b hb ty => rprow0 w b hb ty)
  have HS := Lib.hid hs; have HT := Lib.hid ht; have HK := Lib.hid (And.intro k1 (And.intro k2 (And.intro k3 k4)))
  clear hl1 hl2 hcr hN hM hs ht k1 k2 k3 k4 n0 n1 n2 n5 n6
  go_enter Tryz.func24, Tryz.ntmps24
  go_upto_region 1 with fail
  refine wp_named fun wa hwa => ?_
  have hSa : LnAt wa w.heap.size s := by subst hwa; exact ((HN.out w _ rfl _).alloc _).alloc _
  have hTa : LnAt wa (w.heap.size + 1) t := by subst hwa; exact (HM.out _ _ (by simp) _).alloc _
  have hRa : Row wa (w.heap.size + 1 + 1) 18 (RPf cpNone) := by subst hwa; exact HRP.out _ _ (by simp) _
  have hUa : Since w wa := by subst hwa; (repeat (first | with_reducible (exact Since.refl _) | with_reducible assumption | with_reducible (refine Since.drew ?_) | with_reducible (refine Since.drewN ?_ _) | with_reducible (refine Since.alloc ?_ _) | (with_reducible (refine Since.setCell ?_ ?_ _); rotate_left; focus (first | (simp; done) | (simp; omega) | omega)) | (with_reducible (refine Since.trans ?_ (by with_reducible assumption)))))
  have hza : w.heap.size + 1 + 1 < wa.heap.size := hRa.2.2
  clear hwa HN HM HRP
  obtain ⟨s1, s2, s3, s4, s5⟩ := id hSa
  obtain ⟨t1, t2, t3, t4, t5⟩ := id hTa
  have HPR := Lib.hid (fun w b hb t => prow w b hb t 0 0)
  go_cut [5, 6] (fun p q wx => ∃ bd be : Nat, p = .pointer (some ⟨bd, 0, none⟩) ∧ q = .pointer (some ⟨be, 0, none⟩) ∧ wa.heap.size ≤ bd ∧ Since wa wx ∧ Row wx bd 2 (Pf (s.bx - s.ax) (s.bz - s.ay)) ∧ Row wx be 2 (Pf (t.bx - t.ax) (t.bz - t.ay)))
  case first =>
    have tok7 := True.intro
    have tok8 := True.intro
    (refine wp_named fun wr1 hwr1 => ?_; go_region_held3 (fun w' => (∀ b o, b < wr1.heap.size → w'.cell? ⟨b, o, none⟩ = wr1.cell? ⟨b, o, none⟩) ∧ (∀ b o, b < wr1.heap.size → w'.frozen? ⟨b, o, none⟩ = wr1.frozen? ⟨b, o, none⟩) ∧ (∀ k, k < wr1.heap.size → k < w'.heap.size) ∧ Below wr1.heap.size wr1 w') ((subst hwr1; (repeat (with_reducible (refine since_put ?_ ?_ _); rotate_left; focus (first | (simp; done) | (simp; omega) | omega))); first | with_reducible assumption | (refine since_step (by with_reducible assumption) ?_; first | with_reducible assumption | ((repeat (first | with_reducible (exact Since.refl _) | with_reducible assumption | with_reducible (refine Since.drew ?_) | with_reducible (refine Since.drewN ?_ _) | with_reducible (refine Since.alloc ?_ _) | (with_reducible (refine Since.setCell ?_ ?_ _); rotate_left; focus (first | (simp; done) | (simp; omega) | omega)))); done)) | (refine since_step (Since.refl _) ?_; first | with_reducible assumption | ((repeat (first | with_reducible (exact Since.refl _) | with_reducible assumption | with_reducible (refine Since.drew ?_) | with_reducible (refine Since.drewN ?_ _) | with_reducible (refine Since.alloc ?_ _) | (with_reducible (refine Since.setCell ?_ ?_ _); rotate_left; focus (first | (simp; done) | (simp; omega) | omega)) | (with_reducible (refine Since.trans ?_ (by with_reducible assumption))))); done)))) (first | (go_at_call 44; have _t := tok7; (with_reducible refine (HL1.out _).mono ?_); rintro e w7 ⟨rfl, hS7⟩; have hZ7 := hS7.below.size; (try simp at hZ7); clear tok7; (try (first | (have rB := (HPR.out _ (wa.heap.size + 1) (by first | rfl | (simp; done)) _).since hS7; have rA := ((HPR.out _ wa.heap.size (by first | rfl | (simp; done)) _).alloc _).since hS7) | (have rB := (Row.drew (HPR.out _ (wa.heap.size + 1) (by first | rfl | (simp; done)) _)).since hS7; have rA := (Row.drew ((HPR.out _ wa.heap.size (by first | rfl | (simp; done)) _).alloc _)).since hS7) | (have rA := (HPR.out _ wa.heap.size (by first | rfl | (simp; done)) _).since hS7) | (have rA := (Row.drew (HPR.out _ wa.heap.size (by first | rfl | (simp; done)) _)).since hS7)))) | (go_at_call 44; have _t := tok8; (with_reducible refine (HL2.out _).mono ?_); rintro e w8 ⟨rfl, hS8⟩; have hZ8 := hS8.below.size; (try simp at hZ8); clear tok8; (try (first | (have rA := Row.since rA hS8) | (have rA := Row.since (Row.alloc rA _) hS8) | (have rA := Row.since (Row.alloc (Row.alloc rA _) _) hS8))); (try (first | (have rB := Row.since rB hS8) | (have rB := Row.since (Row.alloc rB _) hS8) | (have rB := Row.since (Row.alloc (Row.alloc rB _) _) hS8))); (try (first | (have rE := (HPR.out _ (w7.heap.size + 1) (by first | rfl | (simp; done)) _).since hS8; have rC := ((HPR.out _ w7.heap.size (by first | rfl | (simp; done)) _).alloc _).since hS8) | (have rE := (Row.drew (HPR.out _ (w7.heap.size + 1) (by first | rfl | (simp; done)) _)).since hS8; have rC := (Row.drew ((HPR.out _ w7.heap.size (by first | rfl | (simp; done)) _).alloc _)).since hS8) | (have rC := (HPR.out _ w7.heap.size (by first | rfl | (simp; done)) _).since hS8) | (have rC := (Row.drew (HPR.out _ w7.heap.size (by first | rfl | (simp; done)) _)).since hS8))); (try (have hAA := pcells rA; have hBA := Row.frz2 rA; obtain ⟨AA1, AA2, AA3⟩ := hAA; obtain ⟨BA1, BA2⟩ := hBA)); (try (have hAB := pcells rB; have hBB := Row.frz2 rB; obtain ⟨AB1, AB2, AB3⟩ := hAB; obtain ⟨BB1, BB2⟩ := hBB)); (try (have hAC := pcells rC; have hBC := Row.frz2 rC; obtain ⟨AC1, AC2, AC3⟩ := hAC; obtain ⟨BC1, BC2⟩ := hBC)); (try (have hAE := pcells rE; have hBE := Row.frz2 rE; obtain ⟨AE1, AE2, AE3⟩ := hAE; obtain ⟨BE1, BE2⟩ := hBE)))); all_goals (rename_i hHeld; have hR1 : Since wr1 _ := hHeld; obtain ⟨hcR1, hfR1, hzR1, hbR1⟩ := hHeld; subst hwr1))
    all_goals (go_wp2_with fail)
    all_goals go_meet
    all_goals refine ⟨_, _, rfl, rfl, ?_, ?_, ?_, ?_⟩
    any_goals ((show _ ≤ _); first | omega | (simp; omega))
    any_goals ((show Since _ _); (repeat (first | with_reducible (exact Since.refl _) | with_reducible assumption | with_reducible (refine Since.drew ?_) | with_reducible (refine Since.drewN ?_ _) | with_reducible (refine Since.alloc ?_ _) | (with_reducible (refine Since.setCell ?_ ?_ _); rotate_left; focus (first | (simp; done) | (simp; omega) | omega)) | (with_reducible (refine Since.trans ?_ (by with_reducible assumption))))); done)
    all_goals first | ((show Row _ _ 2 (Pf (s.bx - s.ax) (s.bz - s.ay))); (repeat (first | with_reducible assumption | (with_reducible (refine prow _ _ ?_ _ (s.bx - s.ax) (s.bz - s.ay)); focus (first | with_reducible rfl | (simp; done))) | (with_reducible (refine prow _ _ ?_ _ 0 0); focus (first | with_reducible rfl | (simp; done))) | with_reducible (refine pput0 ?_ (s.bx - s.ax) (s.bz - s.ay)) | with_reducible (refine Row.drew ?_) | with_reducible (refine Row.alloc ?_ _) | (with_reducible (refine Row.far ?_ ?_ _ _); rotate_left; focus (first | (simp; done) | (simp; omega) | omega)))); done) | ((show Row _ _ 2 (Pf (t.bx - t.ax) (t.bz - t.ay))); (repeat (first | with_reducible assumption | (with_reducible (refine prow _ _ ?_ _ (t.bx - t.ax) (t.bz - t.ay)); focus (first | with_reducible rfl | (simp; done))) | (with_reducible (refine prow _ _ ?_ _ 0 0); focus (first | with_reducible rfl | (simp; done))) | with_reducible (refine pput0 ?_ (t.bx - t.ax) (t.bz - t.ay)) | with_reducible (refine Row.drew ?_) | with_reducible (refine Row.alloc ?_ _) | (with_reducible (refine Row.far ?_ ?_ _ _); rotate_left; focus (first | (simp; done) | (simp; omega) | omega)))); done)
  obtain ⟨bd, be, rfl, rfl, hbdn, hSc, hDc, hEc⟩ := hcut
  have hbdne : w.heap.size + 1 + 1 ≠ bd := by omega
  have hUc := hUa.trans hSc
  have hSc' := hSa.since hSc
  have hTc := hTa.since hSc
  have hRc := hRa.since hSc
  clear hbdn hSa hTa hRa hUa hSc s1 s2 s3 s4 s5 t1 t2 t3 t4 t5 hza HL1
  obtain ⟨d1, d2, d3⟩ := pcells hDc
  obtain ⟨e1, e2, e3⟩ := pcells hEc
  have hcc : crossI (s.bx - s.ax) (s.bz - s.ay) (t.bx - t.ax) (t.bz - t.ay) = cC s t := rfl
  rw [hcc] at HCR
  clear hcc
  have hk := HK.out
  have hbd : w.heap.size + 1 + 1 ≠ bd := hbdne
  have n0 : ∀ z, -4194304 ≤ z → z ≤ 4194304 → Near z := fun z h1 h2 => by unfold Near; omega
  have n1 : Near (s.bx - s.ax) := by unfold Near; omega
  have n2 : Near (s.bz - s.ay) := by unfold Near; omega
  have n3 : Near (t.ax - s.ax) := by unfold Near; omega
  have n4 : Near (t.ay - s.ay) := by unfold Near; omega
  have n5 : Near (t.bx - t.ax) := by unfold Near; omega
  have n6 : Near (t.bz - t.ay) := by unfold Near; omega
  have hl3 := fun w => rf_less t.ax t.ay s.ax s.ay (n0 _ (by omega) (by omega)) (n0 _ (by omega) (by omega)) (n0 _ (by omega) (by omega)) (n0 _ (by omega) (by omega)) w
  have hcn := fun w => rf_cross (t.ax - s.ax) (t.ay - s.ay) (t.bx - t.ax) (t.bz - t.ay) n3 n4 n5 n6 w
  have hcm := fun w => rf_cross (t.ax - s.ax) (t.ay - s.ay) (s.bx - s.ax) (s.bz - s.ay) n3 n4 n1 n2 w
  have en : crossI (t.ax - s.ax) (t.ay - s.ay) (t.bx - t.ax) (t.bz - t.ay) = nC s t := rfl
  have em : crossI (t.ax - s.ax) (t.ay - s.ay) (s.bx - s.ax) (s.bz - s.ay) = mC s t := rfl
  rw [en] at hcn
  rw [em] at hcm
  have hb : (-562949953421312 ≤ cC s t ∧ cC s t ≤ 562949953421312) ∧ (-562949953421312 ≤ nC s t ∧ nC s t ≤ 562949953421312) ∧ (-562949953421312 ≤ mC s t ∧ mC s t ≤ 562949953421312) := by
    have m1 := near_mul n1 n6; have m2 := near_mul n2 n5; have m3 := near_mul n3 n6; have m4 := near_mul n4 n5; have m5 := near_mul n3 n2; have m6 := near_mul n4 n1
    unfold cC nC mC crossI
    omega
  unfold Pt at hl3 hcn hcm
  have HL3 := Lib.hid hl3; have HCN := Lib.hid hcn; have HCM := Lib.hid hcm; have HB := Lib.hid hb
  have HV2 := Lib.hid (show RV = RP (crossCp s t) by rw [HRV.out]; exact congrArg RP (if_neg h0))
  have d0 : (cC s t == 0) = false := by simp [h0]
  clear hl3 hcn hcm en em hb hk n0 n1 n2 n3 n4 n5 n6 HL2 HRV
  obtain ⟨s1, s2, s3, s4, s5⟩ := id hSc'
  obtain ⟨t1, t2, t3, t4, t5⟩ := id hTc
  go_upto_region 22 with (first | (go_at_call 45; (with_reducible refine (HCR.out _).mono ?_); rintro e w2 ⟨rfl, hS2⟩; have hS3 := hSc'.since hS2; have hT3 := hTc.since hS2; clear s1 s2 s3 s4 s5 t1 t2 t3 t4 t5; obtain ⟨s1, s2, s3, s4, s5⟩ := id hS3; obtain ⟨t1, t2, t3, t4, t5⟩ := id hT3) | (go_at_call 44; (with_reducible refine (HL3.out _).mono ?_); rintro e w3 ⟨rfl, hS4⟩))
  refine wp_named fun wb hwb => ?_
  have hTb : Since wc wb := by subst hwb; (repeat (first | with_reducible (exact Since.refl _) | with_reducible assumption | with_reducible (refine Since.drew ?_) | with_reducible (refine Since.drewN ?_ _) | with_reducible (refine Since.alloc ?_ _) | (with_reducible (refine Since.setCell ?_ ?_ _); rotate_left; focus (first | (simp; done) | (simp; omega) | omega)) | (with_reducible (refine Since.trans ?_ (by with_reducible assumption)))))
  have hWb : Row wb w3.heap.size 2 (Pf (t.ax - s.ax) (t.ay - s.ay)) := by subst hwb; exact prow w3 _ rfl _ _ _
  have hDb := hDc.since hTb
  have hEb := hEc.since hTb
  have hSb := hSc'.since hTb
  have hRb := hRc.since hTb
  have hUb := hUc.trans hTb
  clear hwb hTb hS2 hS4 hS3 hT3 s1 s2 s3 s4 s5 t1 t2 t3 t4 t5 d1 d2 d3 e1 e2 e3 hDc hEc hSc' hTc hRc hUc HCR HL3
  generalize w3.heap.size = bw at *
  obtain ⟨v1, v2, v3⟩ := pcells hWb
  obtain ⟨d1, d2, d3⟩ := pcells hDb
  obtain ⟨e1, e2, e3⟩ := pcells hEb
  go_cut [13, 14] (fun n m wx => n = .int .i64 (nC s t) ∧ m = .int .i64 (mC s t) ∧ Since wb wx)
  case first =>
    (refine wp_named fun wr22 hwr22 => ?_; go_region_held3 (fun w' => (∀ b o, b < wr22.heap.size → w'.cell? ⟨b, o, none⟩ = wr22.cell? ⟨b, o, none⟩) ∧ (∀ b o, b < wr22.heap.size → w'.frozen? ⟨b, o, none⟩ = wr22.frozen? ⟨b, o, none⟩) ∧ (∀ k, k < wr22.heap.size → k < w'.heap.size) ∧ Below wr22.heap.size wr22 w') ((subst hwr22; (repeat (with_reducible (refine since_put ?_ ?_ _); rotate_left; focus (first | (simp; done) | (simp; omega) | omega))); first | with_reducible assumption | (refine since_step (by with_reducible assumption) ?_; first | with_reducible assumption | ((repeat (first | with_reducible (exact Since.refl _) | with_reducible assumption | with_reducible (refine Since.drew ?_) | with_reducible (refine Since.drewN ?_ _) | with_reducible (refine Since.alloc ?_ _) | (with_reducible (refine Since.setCell ?_ ?_ _); rotate_left; focus (first | (simp; done) | (simp; omega) | omega)))); done)) | (refine since_step (Since.refl _) ?_; first | with_reducible assumption | ((repeat (first | with_reducible (exact Since.refl _) | with_reducible assumption | with_reducible (refine Since.drew ?_) | with_reducible (refine Since.drewN ?_ _) | with_reducible (refine Since.alloc ?_ _) | (with_reducible (refine Since.setCell ?_ ?_ _); rotate_left; focus (first | (simp; done) | (simp; omega) | omega)) | (with_reducible (refine Since.trans ?_ (by with_reducible assumption))))); done)))) (first | (go_at_call 45; (with_reducible refine (HCN.out _).mono ?_); rintro e w1 ⟨rfl, hS⟩; have hZ := hS.below.size; (try simp at hZ)) | (go_at_call 45; (with_reducible refine (HCM.out _).mono ?_); rintro e w1 ⟨rfl, hS⟩; have hZ := hS.below.size; (try simp at hZ))); all_goals (rename_i hHeld; have hR22 : Since wr22 _ := hHeld; obtain ⟨hcR22, hfR22, hzR22, hbR22⟩ := hHeld; subst hwr22))
    all_goals go_wp2_with fail
    all_goals go_meet
    all_goals exact ⟨rfl, rfl, by (repeat (first | with_reducible (exact Since.refl _) | with_reducible assumption | with_reducible (refine Since.drew ?_) | with_reducible (refine Since.drewN ?_ _) | with_reducible (refine Since.alloc ?_ _) | (with_reducible (refine Since.setCell ?_ ?_ _); rotate_left; focus (first | (simp; done) | (simp; omega) | omega)) | (with_reducible (refine Since.trans ?_ (by with_reducible assumption)))))⟩
  obtain ⟨rfl, rfl, hSe⟩ := hcut
  have hUe := hUb.trans hSe
  have hDe := hDb.since hSe
  have hS5 := hSb.since hSe
  have hRe := hRb.since hSe
  clear hWb hDb hEb hSb hRb hUb hSe v1 v2 v3 d1 d2 d3 e1 e2 e3 HCN HCM d0
  have hb := HB.out
  obtain ⟨C, N, M, hCNM⟩ : ∃ C N M, (cC s t < 0 ∧ C = -cC s t ∧ N = -nC s t ∧ M = -mC s t) ∨ (¬ cC s t < 0 ∧ C = cC s t ∧ N = nC s t ∧ M = mC s t) := by
    by_cases h : cC s t < 0
    · exact ⟨_, _, _, .inl ⟨h, rfl, rfl, rfl⟩⟩
    · exact ⟨_, _, _, .inr ⟨h, rfl, rfl, rfl⟩⟩
  have hcp : crossCp s t = crossPos s N M C ∧ 0 < C ∧ C ≤ 562949953421312 ∧ (-562949953421312 ≤ N ∧ N ≤ 562949953421312) ∧ (-562949953421312 ≤ M ∧ M ≤ 562949953421312) := by
    unfold crossCp
    rcases hCNM with ⟨h, rfl, rfl, rfl⟩ | ⟨h, rfl, rfl, rfl⟩
    · rw [if_pos h]; exact ⟨rfl, by omega, by omega, by omega, by omega⟩
    · rw [if_neg h]; exact ⟨rfl, by omega, by omega, by omega, by omega⟩
  have HCP := Lib.hid hcp; have HCNM := Lib.hid hCNM
  clear hcp hCNM
  have u1 : IntKind.i64.wrap (-cC s t) = -cC s t := IntWalk.i64_in _ (by omega)
  have u2 : IntKind.i64.wrap (-nC s t) = -nC s t := IntWalk.i64_in _ (by omega)
  have u3 : IntKind.i64.wrap (-mC s t) = -mC s t := IntWalk.i64_in _ (by omega)
  clear hb h0
  go_upto_if 85 with fail
  go_cut [7, 13, 14] (fun c n m wx => c = .int .i64 C ∧ n = .int .i64 N ∧ m = .int .i64 M ∧ wx = wc)
  case first =>
    rcases HCNM.out with ⟨h, rfl, rfl, rfl⟩ | ⟨h, rfl, rfl, rfl⟩
    · have h' : decide (cC s t < 0) = true := by simp [h]
      go_wp2_with fail
      go_meet
      exact ⟨rfl, rfl, rfl, rfl⟩
    · have h' : decide (cC s t < 0) = false := by simp; omega
      go_wp2_with fail
      go_meet
      exact ⟨rfl, rfl, rfl, rfl⟩
  obtain ⟨rfl, rfl, rfl, rfl⟩ := hcut
  obtain ⟨hcp, hC0, hC1, hN, hM⟩ := HCP.out
  have hTh := row_there hRe
  have hzw3 : w.heap.size ≤ w.heap.size + 1 + 1 := by omega
  rcases in01_cases N M C with ⟨b1, hno⟩ | ⟨b1, b2, hno⟩ | ⟨b1, b2, b3, hno⟩ | ⟨b1, b2, b3, b4, hno⟩ | ⟨b1, b2, b3, b4, hyes⟩
  · have HR4 := Lib.hid (show RV = RP ⟨0, 0, 0, 0⟩ by rw [HV2.out, hcp]; unfold crossPos; rw [hno, if_neg (by simp)]; rfl)
    have hra := Lib.hid (World.rangeAt_setCells_same _ (w.heap.size + 1 + 1) 0 [.int .i64 0, .int .u32 0, .int .u32 0, .int .u32 0, .int .u32 0, .int .u32 0, .int .u32 0, .int .u32 0, .int .u32 0, .int .u32 0, .int .u32 0, .int .u32 0, .int .u32 0, .int .u32 0, .int .u32 0, .int .u32 0, .int .u32 0, .int .i64 0] hTh)
    clear hcp hno HV2 HCP HCNM
    go_wp2_with (refine wpList_store_mid rfl 64 _ _ rfl (w.heap.size + 1 + 1) 0 (#[.int .i64 0, .int .u32 0, .int .u32 0, .int .u32 0, .int .u32 0, .int .u32 0, .int .u32 0, .int .u32 0, .int .u32 0, .int .u32 0, .int .u32 0, .int .u32 0, .int .u32 0, .int .u32 0, .int .u32 0, .int .u32 0, .int .u32 0, .int .i64 0]) (by rfl) (by rfl) hTh info_rp (one18z _) ?_)
    refine ret_agg (P := Tryz.prog) Tryz.results24 rfl hra.out Tryz.underlying64 rfl info_rp rfl ⟨by rw [HR4.out]; simp [RP, dg], ?_⟩
    exact Since.setCells (by omega) _ _ _ (by (repeat (first | with_reducible (exact Since.refl _) | with_reducible assumption | with_reducible (refine Since.drew ?_) | with_reducible (refine Since.drewN ?_ _) | with_reducible (refine Since.alloc ?_ _) | (with_reducible (refine Since.setCell ?_ ?_ _); rotate_left; focus (first | (simp; done) | (simp; omega) | omega)) | (with_reducible (refine Since.trans ?_ (by with_reducible assumption))))))
  · have HR4 := Lib.hid (show RV = RP ⟨0, 0, 0, 0⟩ by rw [HV2.out, hcp]; unfold crossPos; rw [hno, if_neg (by simp)]; rfl)
    have hra := Lib.hid (World.rangeAt_setCells_same _ (w.heap.size + 1 + 1) 0 [.int .i64 0, .int .u32 0, .int .u32 0, .int .u32 0, .int .u32 0, .int .u32 0, .int .u32 0, .int .u32 0, .int .u32 0, .int .u32 0, .int .u32 0, .int .u32 0, .int .u32 0, .int .u32 0, .int .u32 0, .int .u32 0, .int .u32 0, .int .i64 0] hTh)
    clear hcp hno HV2 HCP HCNM
    go_wp2_with (refine wpList_store_mid rfl 64 _ _ rfl (w.heap.size + 1 + 1) 0 (#[.int .i64 0, .int .u32 0, .int .u32 0, .int .u32 0, .int .u32 0, .int .u32 0, .int .u32 0, .int .u32 0, .int .u32 0, .int .u32 0, .int .u32 0, .int .u32 0, .int .u32 0, .int .u32 0, .int .u32 0, .int .u32 0, .int .u32 0, .int .i64 0]) (by rfl) (by rfl) hTh info_rp (one18z _) ?_)
    refine ret_agg (P := Tryz.prog) Tryz.results24 rfl hra.out Tryz.underlying64 rfl info_rp rfl ⟨by rw [HR4.out]; simp [RP, dg], ?_⟩
    exact Since.setCells (by omega) _ _ _ (by (repeat (first | with_reducible (exact Since.refl _) | with_reducible assumption | with_reducible (refine Since.drew ?_) | with_reducible (refine Since.drewN ?_ _) | with_reducible (refine Since.alloc ?_ _) | (with_reducible (refine Since.setCell ?_ ?_ _); rotate_left; focus (first | (simp; done) | (simp; omega) | omega)) | (with_reducible (refine Since.trans ?_ (by with_reducible assumption))))))
  · have HR4 := Lib.hid (show RV = RP ⟨0, 0, 0, 0⟩ by rw [HV2.out, hcp]; unfold crossPos; rw [hno, if_neg (by simp)]; rfl)
    have hra := Lib.hid (World.rangeAt_setCells_same _ (w.heap.size + 1 + 1) 0 [.int .i64 0, .int .u32 0, .int .u32 0, .int .u32 0, .int .u32 0, .int .u32 0, .int .u32 0, .int .u32 0, .int .u32 0, .int .u32 0, .int .u32 0, .int .u32 0, .int .u32 0, .int .u32 0, .int .u32 0, .int .u32 0, .int .u32 0, .int .i64 0] hTh)
    clear hcp hno HV2 HCP HCNM
    go_wp2_with (refine wpList_store_mid rfl 64 _ _ rfl (w.heap.size + 1 + 1) 0 (#[.int .i64 0, .int .u32 0, .int .u32 0, .int .u32 0, .int .u32 0, .int .u32 0, .int .u32 0, .int .u32 0, .int .u32 0, .int .u32 0, .int .u32 0, .int .u32 0, .int .u32 0, .int .u32 0, .int .u32 0, .int .u32 0, .int .u32 0, .int .i64 0]) (by rfl) (by rfl) hTh info_rp (one18z _) ?_)
    refine ret_agg (P := Tryz.prog) Tryz.results24 rfl hra.out Tryz.underlying64 rfl info_rp rfl ⟨by rw [HR4.out]; simp [RP, dg], ?_⟩
    exact Since.setCells (by omega) _ _ _ (by (repeat (first | with_reducible (exact Since.refl _) | with_reducible assumption | with_reducible (refine Since.drew ?_) | with_reducible (refine Since.drewN ?_ _) | with_reducible (refine Since.alloc ?_ _) | (with_reducible (refine Since.setCell ?_ ?_ _); rotate_left; focus (first | (simp; done) | (simp; omega) | omega)) | (with_reducible (refine Since.trans ?_ (by with_reducible assumption))))))
  · have HR4 := Lib.hid (show RV = RP ⟨0, 0, 0, 0⟩ by rw [HV2.out, hcp]; unfold crossPos; rw [hno, if_neg (by simp)]; rfl)
    have hra := Lib.hid (World.rangeAt_setCells_same _ (w.heap.size + 1 + 1) 0 [.int .i64 0, .int .u32 0, .int .u32 0, .int .u32 0, .int .u32 0, .int .u32 0, .int .u32 0, .int .u32 0, .int .u32 0, .int .u32 0, .int .u32 0, .int .u32 0, .int .u32 0, .int .u32 0, .int .u32 0, .int .u32 0, .int .u32 0, .int .i64 0] hTh)
    clear hcp hno HV2 HCP HCNM
    go_wp2_with (refine wpList_store_mid rfl 64 _ _ rfl (w.heap.size + 1 + 1) 0 (#[.int .i64 0, .int .u32 0, .int .u32 0, .int .u32 0, .int .u32 0, .int .u32 0, .int .u32 0, .int .u32 0, .int .u32 0, .int .u32 0, .int .u32 0, .int .u32 0, .int .u32 0, .int .u32 0, .int .u32 0, .int .u32 0, .int .u32 0, .int .i64 0]) (by rfl) (by rfl) hTh info_rp (one18z _) ?_)
    refine ret_agg (P := Tryz.prog) Tryz.results24 rfl hra.out Tryz.underlying64 rfl info_rp rfl ⟨by rw [HR4.out]; simp [RP, dg], ?_⟩
    exact Since.setCells (by omega) _ _ _ (by (repeat (first | with_reducible (exact Since.refl _) | with_reducible assumption | with_reducible (refine Since.drew ?_) | with_reducible (refine Since.drewN ?_ _) | with_reducible (refine Since.alloc ?_ _) | (with_reducible (refine Since.setCell ?_ ?_ _); rotate_left; focus (first | (simp; done) | (simp; omega) | omega)) | (with_reducible (refine Since.trans ?_ (by with_reducible assumption))))))
  · have HR4 := Lib.hid (show RV = RP ⟨1, s.ax * C + (s.bx - s.ax) * N, s.ay * C + (s.bz - s.ay) * N, C⟩ by rw [HV2.out, hcp]; unfold crossPos; rw [hyes, if_pos rfl]; rfl)
    have hk := HK.out
    have h11 := fun w => rf15_times s.ax C (by unfold InW; omega) (by unfold InW; omega) w
    have h12 := fun w => rf15_times (s.bx - s.ax) N (by unfold InW; omega) (by unfold InW; omega) w
    have h13 := fun w => ref_add (s.ax * C) ((s.bx - s.ax) * N) w
    have h14 := fun w => rf15_times s.ay C (by unfold InW; omega) (by unfold InW; omega) w
    have h15 := fun w => rf15_times (s.bz - s.ay) N (by unfold InW; omega) (by unfold InW; omega) w
    have h16 := fun w => ref_add (s.ay * C) ((s.bz - s.ay) * N) w
    generalize s.ax * C + (s.bx - s.ax) * N = X at *
    generalize s.ay * C + (s.bz - s.ay) * N = Y at *
    generalize s.ax * C = X1 at *
    generalize (s.bx - s.ax) * N = X2 at *
    generalize s.ay * C = Y1 at *
    generalize (s.bz - s.ay) * N = Y2 at *
    have H11 := Lib.hid h11; have H12 := Lib.hid h12; have H13 := Lib.hid h13; have H14 := Lib.hid h14; have H15 := Lib.hid h15; have H16 := Lib.hid h16
    have hR10 := hRe
    have hU10 := hUe
    have hne1 : w.heap.size + 1 + 1 ≠ w.heap.size := by omega
    obtain ⟨p10, q10, -, -, pl10⟩ := hS5
    obtain ⟨x10, y10, xl10⟩ := pcells hDe
    clear h11 h12 h13 h14 h15 h16 hcp hyes HV2 HCP HCNM hk hTh hRe hUe hDe
    have tok11 := True.intro; have tok12 := True.intro; have tok13 := True.intro; have tok14 := True.intro; have tok15 := True.intro; have tok16 := True.intro
    go_upto_region 27 with fail
    clear hC0 hC1 hN hM b1 b2 b3 b4
    go_region_held3 (fun w' => w'.cell? ⟨w.heap.size, 0, none⟩ = some (.int .i64 s.ax) ∧ w'.cell? ⟨w.heap.size, 1, none⟩ = some (.int .i64 s.ay) ∧ w'.cell? ⟨bd, 0, none⟩ = some (.int .i64 (s.bx - s.ax)) ∧ w'.cell? ⟨bd, 1, none⟩ = some (.int .i64 (s.bz - s.ay))) ((refine ⟨?_, ?_, ?_, ?_⟩ <;> (first | with_reducible assumption | (rw [cell_drewR]; with_reducible assumption) | (with_reducible (refine far18 hne1 ?_ _ _ _ _ _ _ _ _ _ _ _ _ _ _ _ _ _ _); with_reducible assumption) | (with_reducible (refine far18 hbd ?_ _ _ _ _ _ _ _ _ _ _ _ _ _ _ _ _ _ _); with_reducible assumption)))) ((first | (go_at_call 49; have _t := tok11; (with_reducible refine (H11.out _).mono ?_); rintro e w11 ⟨rfl, hS11⟩; clear tok11; have hT11 := hS11; have p11 := (hT11.1 _ _ pl10).trans p10; have q11 := (hT11.1 _ _ pl10).trans q10; have x11 := (hT11.1 _ _ xl10).trans x10; have y11 := (hT11.1 _ _ xl10).trans y10; have pl11 := hT11.2.2.1 _ pl10; have xl11 := hT11.2.2.1 _ xl10; have hR11 := Row.since (Row.drew hR10) hS11; have hU11 := Since.trans (Since.drew hU10) hS11) | (go_at_call 49; have _t := tok12; (with_reducible refine (H12.out _).mono ?_); rintro e w12 ⟨rfl, hS12⟩; clear tok12; have hT12 := hS12; have p12 := (hT12.1 _ _ pl11).trans p11; have q12 := (hT12.1 _ _ pl11).trans q11; have x12 := (hT12.1 _ _ xl11).trans x11; have y12 := (hT12.1 _ _ xl11).trans y11; have pl12 := hT12.2.2.1 _ pl11; have xl12 := hT12.2.2.1 _ xl11; have hR12 := Row.since hR11 hS12; have hU12 := Since.trans hU11 hS12) | (go_at_call 48; have _t := tok13; (with_reducible refine (H13.out _).mono ?_); rintro e w13 ⟨rfl, hS13⟩; clear tok13; have hT13 := hS13; have p13 := (hT13.1 _ _ pl12).trans p12; have q13 := (hT13.1 _ _ pl12).trans q12; have x13 := (hT13.1 _ _ xl12).trans x12; have y13 := (hT13.1 _ _ xl12).trans y12; have pl13 := hT13.2.2.1 _ pl12; have xl13 := hT13.2.2.1 _ xl12; have hR13 := Row.since hR12 hS13; have hU13 := Since.trans hU12 hS13) | (go_at_call 49; have _t := tok14; (with_reducible refine (H14.out _).mono ?_); rintro e w14 ⟨rfl, hS14⟩; clear tok14; have hT14 := hS14; have p14 := (hT14.1 _ _ pl13).trans p13; have q14 := (hT14.1 _ _ pl13).trans q13; have x14 := (hT14.1 _ _ xl13).trans x13; have y14 := (hT14.1 _ _ xl13).trans y13; have pl14 := hT14.2.2.1 _ pl13; have xl14 := hT14.2.2.1 _ xl13; have hR14 := Row.since hR13 hS14; have hU14 := Since.trans hU13 hS14) | (go_at_call 49; have _t := tok15; (with_reducible refine (H15.out _).mono ?_); rintro e w15 ⟨rfl, hS15⟩; clear tok15; have hT15 := hS15; have p15 := (hT15.1 _ _ pl14).trans p14; have q15 := (hT15.1 _ _ pl14).trans q14; have x15 := (hT15.1 _ _ xl14).trans x14; have y15 := (hT15.1 _ _ xl14).trans y14; have pl15 := hT15.2.2.1 _ pl14; have xl15 := hT15.2.2.1 _ xl14; have hR15 := Row.since hR14 hS15; have hU15 := Since.trans hU14 hS15) | (go_at_call 48; have _t := tok16; (with_reducible refine (H16.out _).mono ?_); rintro e w16 ⟨rfl, hS16⟩; clear tok16; have hT16 := hS16; have p16 := (hT16.1 _ _ pl15).trans p15; have q16 := (hT16.1 _ _ pl15).trans q15; have x16 := (hT16.1 _ _ xl15).trans x15; have y16 := (hT16.1 _ _ xl15).trans y15; have pl16 := hT16.2.2.1 _ pl15; have xl16 := hT16.2.2.1 _ xl15; have hR16 := Row.since hR15 hS16; have hU16 := Since.trans hU15 hS16; have hC4 := rpcells hR16; obtain ⟨c0, c1, c2, c3, c4, c5, c6, c7, c8, c9, c10, c11, c12, c13, c14, c15, c16, c17, c18⟩ := hC4; simp only [cpNone] at c0 c1 c2 c3 c4 c5 c6 c7 c8 c9 c10 c11 c12 c13 c14 c15 c16 c17; have f0 := hR16.2.1 0; have f1 := hR16.2.1 1; have f2 := hR16.2.1 2; have f3 := hR16.2.1 3; have f4 := hR16.2.1 4; have f5 := hR16.2.1 5; have f6 := hR16.2.1 6; have f7 := hR16.2.1 7; have f8 := hR16.2.1 8; have f9 := hR16.2.1 9; have f10 := hR16.2.1 10; have f11 := hR16.2.1 11; have f12 := hR16.2.1 12; have f13 := hR16.2.1 13; have f14 := hR16.2.1 14; have f15 := hR16.2.1 15; have f16 := hR16.2.1 16; have f17 := hR16.2.1 17)))
    all_goals go_wp2_with fail
    all_goals refine ret_agg (P := Tryz.prog) Tryz.results24 rfl (rp_range (rpput hR16 ⟨1, X, Y, C⟩)) Tryz.underlying64 rfl (by kernel_rfl) rfl ⟨by rw [HR4.out]; rfl, ?_⟩
    all_goals ((repeat (first | with_reducible (exact Since.refl _) | with_reducible assumption | with_reducible (refine Since.drew ?_) | with_reducible (refine Since.drewN ?_ _) | with_reducible (refine Since.alloc ?_ _) | (with_reducible (refine Since.setCell ?_ ?_ _); rotate_left; focus (first | (simp; done) | (simp; omega) | omega)) | (with_reducible (refine Since.trans ?_ (by with_reducible assumption))))))
end Go.Proofs.YtckochcocflleaaGreat
