/-
  Layer 4: the law SfntWrites, walked.
-/
import Derived.Test.YtpplnapfpoloiaaMgS
namespace Go.Proofs.Ytpplnapfpoloiaa
open Go.RowKit Go.ChangeShapes Go.WideShapes Go.Deep
set_option linter.unusedVariables false
set_option linter.unusedSimpArgs false

theorem few_of {TT : List Tb} (h : NotGreatT false TT) : FewT TT := by
  obtain ⟨h1, h2, _⟩ := h rfl
  exact ⟨by omega, fun T hT => ⟨by have := (h2 T hT).1; omega, by have := (h2 T hT).2; simp only [maxLen]; omega⟩⟩
theorem ownT_rdv {w : World} {base n c : Nat} {A : Option Addr} {TT : List Tb} (h : OwnT w base (.slice A n c) TT) : RdTL w w.heap.size A TT := by
  obtain ⟨A', c', e, _, hr⟩ := h.rd
  injection e with e1 e2 e3
  rw [e1]; exact hr
set_option maxRecDepth 1000000 in
set_option maxHeartbeats 32000000 in
theorem walk_sfntwrites (A : Option Addr) (c : Nat) (TT : List Tb) (w : World) (h : RdTL w w.heap.size A TT) (hn : TT.length ≤ maxLen) (hm : ∀ T, T ∈ TT → T.data.length ≤ maxLen ∧ T.tag.size ≤ maxLen) (hb : ∀ T, T ∈ TT → Bytes T.data) :
    Calls Try.prog 3 #[.slice A TT.length c] w fun e w' => e = .returned (.bool true) ∧ Since w w' := by
  have HG := Lib.hid (fun (w2 : World) (h2 : Since w w2) => rf_greatT A c TT w2 (h.on h2) hn hm)
  have HC := Lib.hid (fun (w2 : World) (h2 : Since w w2) (hf : FewT TT) => rf_copyT A c TT w2 (h.on h2) (by have := hf.1; omega) (fun T hT => (hf.2 T hT).1))
  obtain ⟨N, hN⟩ : ∃ N, N = TT.length := ⟨_, rfl⟩
  have HWR := Lib.hid (fun (A' : Option Addr) (c' : Nat) (w2 : World) (h2 : RdTL w2 w2.heap.size A' TT) (hf : FewT TT) => sf_write A' N c' TT w2 h2 hN hf hb)
  have HRR := Lib.hid (fun (A' : Option Addr) (c' : Nat) (w2 : World) (h2 : RdTL w2 w2.heap.size A' TT) (hf : FewT TT) => sf_right A' N c' TT w2 h2 hN hf)
  have HFR := Lib.hid (fun (w2 : World) (h2 : Since w w2) (hf : FewT TT) => rf_right4 A N c TT w2 (h.on h2) hN hf)
  have HSM := Lib.hid (fun (A' : Option Addr) (c' : Nat) (w2 : World) (h1 : RdTL w2 w2.heap.size A' TT) (h2 : Since w w2) => rf_sameT A' A c' c N N TT w2 h1 (h.on h2) hN hN hn)
  have HFW := Lib.hid (fun (w2 : World) (h2 : Since w w2) (hf : FewT TT) (hR : right4 TT) => rf_write4 A N c TT w2 (h.on h2) hN hf hb hR)
  rw [← hN] at HG HC ⊢
  unfold GreatTP at HG
  clear h hn hm hb hN
  by_cases hR : right4 TT

  · have hG := rightG_yes hR
    rw [hG] at HRR HFR HWR
    simp only [Bool.false_eq_true, if_true, if_false, reduceIte] at HWR
    go_enter Try.func3, Try.ntmps3
    go_upto_region 5 with (first | (go_at_call 15; (with_reducible refine (alive04 _).mono ?_); rintro e w1 ⟨rfl, hS1⟩) | (go_at_call 16; (with_reducible refine (HG.out _ hS1).mono ?_); rintro e w2 ⟨g, rfl, hg, hS2⟩; have hA2 := hS1.trans hS2; have HNG := Lib.hid hg; clear hg; cases g))
    · have HF := Lib.hid (few_of HNG.out)
      clear HNG HG
      go_wp2_with (first | (go_at_call 17; (with_reducible refine (HC.out _ hA2 HF.out).mono ?_); rintro e w3 ⟨A3, c3, rfl, hO3, hS3⟩; have hA3 := hA2.trans hS3) | (go_at_call 18; (with_reducible refine (HWR.out A3 c3 _ (ownT_rdv hO3) HF.out).mono ?_); rintro e w4 ⟨v4, rfl, hO4, hS4⟩; have hA4 := hA3.trans hS4; have hO34 := hO3.since hS4; obtain ⟨A4, c4, rfl, hc4, hr4⟩ := hO4.rd (by omega) byL_len) | (go_at_call 19; (with_reducible refine (HFR.out _ hA4 HF.out).mono ?_); rintro e w5 ⟨rfl, hS5⟩; have hA5 := hA4.trans hS5; have hO35 := hO34.since hS5; have hr5 := hr4.on hS5) | (go_at_call 20; (with_reducible refine (HRR.out A3 c3 _ (ownT_rdv hO35) HF.out).mono ?_); rintro e w6 ⟨rfl, hS6⟩; have hA6 := hA5.trans hS6; have hO36 := hO35.since hS6; have hr6 := hr5.on hS6) | (go_at_call 21; (with_reducible refine (HSM.out A3 c3 _ (ownT_rdv hO36) hA6).mono ?_); rintro e w7 ⟨rfl, hS7⟩; have hA7 := hA6.trans hS7; have hr7 := hr6.on hS7) | (go_at_call 23; (with_reducible refine (HFW.out _ hA7 HF.out hR).mono ?_); rintro e w8 ⟨A8, c8, rfl, hr8, hS8⟩; have hA8 := hA7.trans hS8; have hr9 := hr7.on hS8) | (go_at_call 22; (with_reducible refine (same_l A4 A8 _ _ c4 c8 (file4 TT) (file4 TT) _ rfl rfl hr9 hr8 rfl).mono ?_); rintro e w9 ⟨rfl, hw9⟩; have hw10 := hw9.symm; subst hw10; clear hw9))
      go_ret
      exact ⟨by first | rfl | simp, by first | exact hA8 | exact hA7⟩
    · go_wp2_with fail
      go_ret
      exact ⟨by first | rfl | simp, hA2⟩

  · have hG := rightG_no hR
    rw [hG] at HRR HFR HWR
    simp only [Bool.false_eq_true, if_true, if_false, reduceIte] at HWR
    go_enter Try.func3, Try.ntmps3
    go_upto_region 5 with (first | (go_at_call 15; (with_reducible refine (alive04 _).mono ?_); rintro e w1 ⟨rfl, hS1⟩) | (go_at_call 16; (with_reducible refine (HG.out _ hS1).mono ?_); rintro e w2 ⟨g, rfl, hg, hS2⟩; have hA2 := hS1.trans hS2; have HNG := Lib.hid hg; clear hg; cases g))
    · have HF := Lib.hid (few_of HNG.out)
      clear HNG HG
      go_wp2_with (first | (go_at_call 17; (with_reducible refine (HC.out _ hA2 HF.out).mono ?_); rintro e w3 ⟨A3, c3, rfl, hO3, hS3⟩; have hA3 := hA2.trans hS3) | (go_at_call 18; (with_reducible refine (HWR.out A3 c3 _ (ownT_rdv hO3) HF.out).mono ?_); rintro e w4 ⟨v4, rfl, hO4, hS4⟩; have hA4 := hA3.trans hS4; have hO34 := hO3.since hS4; obtain ⟨A4, c4, rfl, hc4, hr4⟩ := hO4.rd (by omega) byL_len) | (go_at_call 19; (with_reducible refine (HFR.out _ hA4 HF.out).mono ?_); rintro e w5 ⟨rfl, hS5⟩; have hA5 := hA4.trans hS5; have hO35 := hO34.since hS5; have hr5 := hr4.on hS5) | (go_at_call 20; (with_reducible refine (HRR.out A3 c3 _ (ownT_rdv hO35) HF.out).mono ?_); rintro e w6 ⟨rfl, hS6⟩; have hA6 := hA5.trans hS6; have hO36 := hO35.since hS6; have hr6 := hr5.on hS6) | (go_at_call 21; (with_reducible refine (HSM.out A3 c3 _ (ownT_rdv hO36) hA6).mono ?_); rintro e w7 ⟨rfl, hS7⟩; have hA7 := hA6.trans hS7; have hr7 := hr6.on hS7) | (go_at_call 23; (with_reducible refine (HFW.out _ hA7 HF.out hR).mono ?_); rintro e w8 ⟨A8, c8, rfl, hr8, hS8⟩; have hA8 := hA7.trans hS8; have hr9 := hr7.on hS8) | (go_at_call 22; (with_reducible refine (same_l A4 A8 _ _ c4 c8 (file4 TT) (file4 TT) _ rfl rfl hr9 hr8 rfl).mono ?_); rintro e w9 ⟨rfl, hw9⟩; have hw10 := hw9.symm; subst hw10; clear hw9))
      go_ret
      exact ⟨by first | rfl | simp, by first | exact hA8 | exact hA7⟩
    · go_wp2_with fail
      go_ret
      exact ⟨by first | rfl | simp, hA2⟩

end Go.Proofs.Ytpplnapfpoloiaa
