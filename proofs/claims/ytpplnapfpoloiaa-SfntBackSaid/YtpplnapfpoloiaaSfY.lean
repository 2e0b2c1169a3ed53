/-
  Layer 4: the law SfntBack, walked.
-/
import Derived.Test.YtpplnapfpoloiaaMgS
namespace Go.Proofs.Ytpplnapfpoloiaa
open Go.RowKit Go.ChangeShapes Go.WideShapes Go.Deep
set_option linter.unusedVariables false
set_option linter.unusedSimpArgs false

theorem bytes_file {TT : List Tb} (h : ∀ T, T ∈ TT → Bytes T.data) : Bytes (file4 TT) := by
  have hr := bytes_raw h
  unfold file4
  split
  · exact hr
  · unfold layL
    exact bytes_app (fun v hv => hr v (List.mem_of_mem_take hv)) (bytes_app (bytes_put _ _) (fun v hv => hr v (List.mem_of_mem_drop hv)))
set_option maxRecDepth 1000000 in
set_option maxHeartbeats 32000000 in
theorem walk_sfntback (A : Option Addr) (c : Nat) (TT : List Tb) (w : World) (h : RdTL w w.heap.size A TT) (hn : TT.length ≤ maxLen) (hm : ∀ T, T ∈ TT → T.data.length ≤ maxLen ∧ T.tag.size ≤ maxLen) (hb : ∀ T, T ∈ TT → Bytes T.data) :
    Calls Try.prog 4 #[.slice A TT.length c] w fun e w' => e = .returned (.bool true) ∧ Since w w' := by
  have HG := Lib.hid (fun (w2 : World) (h2 : Since w w2) => rf_greatT A c TT w2 (h.on h2) hn hm)
  obtain ⟨N, hN⟩ : ∃ N, N = TT.length := ⟨_, rfl⟩
  have HWR := Lib.hid (fun (w2 : World) (h2 : Since w w2) (hf : FewT TT) => sf_write A N c TT w2 (h.on h2) hN hf hb)
  have HRR := Lib.hid (fun (w2 : World) (h2 : Since w w2) (hf : FewT TT) => sf_right A N c TT w2 (h.on h2) hN hf)
  rw [← hN] at HG ⊢
  unfold GreatTP at HG
  have HNN := Lib.hid hN
  have HRT := Lib.hid (fun (w2 : World) (h2 : Since w w2) => h.on h2)
  have HFB := Lib.hid (bytes_file hb)
  have HMB := Lib.hid (map_bytes hb)
  clear h hn hm hb hN
  by_cases hR : right4 TT
  · have hG := rightG_yes hR
    rw [hG] at HRR HWR
    simp only [if_true, reduceIte] at HWR
    have hRB := map_right hR
    have hGB := rightG_yes hRB
    have hN64 : N ≤ 64 := by have := hR.2.1; have := HNN.out; omega
    have hNI : (N : Int) ≤ 64 := by omega
    have hml : (TT.map blankT).length = N := by rw [List.length_map]; exact HNN.out.symm
    have hfs := file4_len hR
    have hs3 := hR.2.2.1
    have HRD := Lib.hid (fun (A' : Option Addr) (c' : Nat) (w2 : World) (h2 : RdB w2 w2.heap.size A' (file4 TT)) (hc : (file4 TT).length ≤ c') (hb : Bytes (file4 TT)) => sf_read4 A' (file4 TT).length c' (file4 TT) w2 h2 rfl hb (by omega) hc)
    unfold RdP at HRD
    rw [rd4_file hR] at HRD
    have HR2 := Lib.hid (fun (A' : Option Addr) (c' : Nat) (w2 : World) (h2 : RdTL w2 w2.heap.size A' (TT.map blankT)) (hf : FewT TT) => sf_right A' N c' (TT.map blankT) w2 h2 hml.symm (map_few hf))
    rw [hGB] at HR2
    have HW2 := Lib.hid (fun (A' : Option Addr) (c' : Nat) (w2 : World) (h2 : RdTL w2 w2.heap.size A' (TT.map blankT)) (hf : FewT TT) => sf_write A' N c' (TT.map blankT) w2 h2 hml.symm (map_few hf) HMB.out)
    rw [hGB, map_file] at HW2
    simp only [if_true, reduceIte] at HW2
    simp only at HRD
    obtain ⟨Z, hZ⟩ : ∃ Z, Z = (file4 TT).length := ⟨_, rfl⟩
    rw [← hZ] at HRD
    have HZ := Lib.hid hZ
    have HML := Lib.hid hml
    clear hZ hfs hs3 hRB hGB hG hml
    go_enter Try.func4, Try.ntmps4
    go_upto_region 5 with (first | (go_at_call 15; (with_reducible refine (alive04 _).mono ?_); rintro e w1 ⟨rfl, hS1⟩) | (go_at_call 16; (with_reducible refine (HG.out _ hS1).mono ?_); rintro e w2 ⟨g, rfl, hg, hS2⟩; have hA2 := hS1.trans hS2; have HNG := Lib.hid hg; clear hg; cases g))
    · have HF := Lib.hid (few_of HNG.out)
      clear HNG HG
      go_upto_region 11 with (first | (go_at_call 18; (with_reducible refine (HWR.out _ hA2 HF.out).mono ?_); rintro e w4 ⟨v4, rfl, hO4, hS4⟩; have hA4 := hA2.trans hS4; obtain ⟨A4, c4, rfl, hc4, hr4⟩ := hO4.rd (by omega) byL_len; rw [← HZ.out] at hc4 ⊢) | (go_at_call 24; (with_reducible refine (HRD.out _ _ _ hr4 hc4 HFB.out).mono ?_); rintro e w5 ⟨v5, rfl, hO5, hS5⟩; have hA5 := hA4.trans hS5; have hr5 := hr4.on hS5; obtain ⟨A5, c5, rfl, hc5, hR5⟩ := hO5.rd; rw [HML.out] at hc5 ⊢) | (go_at_call 20; (with_reducible refine (HR2.out _ _ _ hR5 HF.out).mono ?_); rintro e w6 ⟨rfl, hS6⟩; have hA6 := hA5.trans hS6; have hr6 := hr5.on hS6; have hR6 := hR5.on hS6))
      have hRL := HRT.out _ hA6
      have HR6 := Lib.hid hR6
      have HL6 := Lib.hid hRL
      have HA6 := Lib.hid hA6
      have Hr6 := Lib.hid hr6
      clear hR6 hRL hO4 hO5 hS1 hS2 hS4 hS5 hS6 hA2 hA4 hA5 hA6 hR5 hr4 hr5 hr6 HWR HRD HRR
      go_wp2_with fail
      go_loopw [46] (fun y wr => ∃ (j : Nat), j ≤ N ∧ y = .int .i64 (j : Int) ∧ Since w6 wr) (fun y _ => N - (intOf y).toNat)
      case atStart => exact ⟨0, by omega, rfl, Since.refl _⟩
      case round =>
        obtain ⟨j, hj, rfl, hS⟩ := hrel
        by_cases hjn : j < N
        · have hjn' : (j : Int) < N := by omega
          have hjL : j < TT.length := by rw [← HNN.out]; exact hjn
          have hT : TT[j]? = some TT[j] := List.getElem?_eq_getElem hjL
          have hT2 : (TT.map blankT)[j]? = some (blankT TT[j]) := by rw [List.getElem?_map, hT]; rfl
          have hml1 := (HF.out.2 _ (List.mem_of_getElem? hT)).1
          obtain ⟨b, o, A', c', rfl, hb, hc1, hc2, hK⟩ := HL6.out.row hT
          obtain ⟨b2, o2, A'', c'', rfl, hb2, hc3, hc4, hK2⟩ := HR6.out.row hT2
          rw [blankT_len] at hc4
          have hBK := rf_blank TT[j]
          have hdl := blank4_len TT[j]
          have hK2 : RdB w6 w6.heap.size A'' (blank4 TT[j]) := hK2
          have hc3 : w6.cell? ⟨b2, o2 + j * 2, none⟩ = some (.string TT[j].tag) := hc3
          generalize TT[j] = T at *
          obtain ⟨s, L⟩ := T
          simp only at hc1 hc2 hc3 hc4 hK hBK hdl hml1
          obtain ⟨n, hn0⟩ : ∃ n, n = L.length := ⟨_, rfl⟩
          rw [← hn0] at hc2 hc4 hdl hml1
          have q1 := (hS.1 _ _ hb).trans hc1
          have q2 := (hS.1 _ _ hb).trans hc2
          have q3 := (hS.1 _ _ hb2).trans hc3
          have q4 := (hS.1 _ _ hb2).trans hc4
          have q5 := hS.2.2.1 _ hb
          have q6 := hS.2.2.1 _ hb2
          have HBK : Hid (∀ w2, Since w6 w2 → Calls Try.prog 25 #[.agg #[.string s, .slice A' n c']] w2 fun e w' => ∃ Ad cd, e = .returned (.slice Ad n cd) ∧ RdB w' w'.heap.size Ad (blank4 ⟨s, L⟩) ∧ Since w2 w') := Lib.hid (fun w2 h2 => (hBK A' n c' w2 (hK.on h2) hn0 (by omega)).mono (by
            rintro e w' ⟨v, rfl, hO, hS⟩
            obtain ⟨Ad, cd, rfl, _, hr⟩ := hO.rd (by omega) byL_len
            rw [hdl]
            exact ⟨Ad, cd, rfl, hr, hS⟩))
          have HSM := Lib.hid (fun Ad cd w2 (h2 : Since w6 w2) (hr : RdB w2 w2.heap.size Ad (blank4 ⟨s, L⟩)) => same_l A'' Ad n n c'' cd (blank4 ⟨s, L⟩) (blank4 ⟨s, L⟩) w2 hdl.symm hdl.symm (hK2.on h2) hr rfl)
          generalize blank4 ⟨s, L⟩ = DL at *
          clear hT hT2 hc1 hc2 hc3 hc4 hK hK2 hBK hdl hml1 hn0 hjL
          go_upto_region 14 with fail
          go_region_with (first | (go_at_call 25; (with_reducible refine (HBK.out _ (by (repeat (first | with_reducible (exact Since.refl _) | with_reducible assumption | with_reducible (refine Since.drew ?_) | with_reducible (refine Since.drewN ?_ _) | with_reducible (refine Since.alloc ?_ _) | (with_reducible (refine Since.setCell ?_ ?_ _); rotate_left; focus (first | (simp; done) | (simp; omega) | omega)) | (with_reducible (refine Since.trans ?_ (by with_reducible assumption))))))).mono ?_); rintro e w8 ⟨Ad, cd, rfl, hrd, hS8⟩; have hX8 : Since w6 w8 := (by (repeat (first | with_reducible (exact Since.refl _) | with_reducible assumption | with_reducible (refine Since.drew ?_) | with_reducible (refine Since.drewN ?_ _) | with_reducible (refine Since.alloc ?_ _) | (with_reducible (refine Since.setCell ?_ ?_ _); rotate_left; focus (first | (simp; done) | (simp; omega) | omega)) | (with_reducible (refine Since.trans ?_ (by with_reducible assumption)))))); obtain ⟨z1, z2, z3⟩ := two_tbd hS8) | (go_at_call 22; (with_reducible refine (HSM.out _ _ _ hX8 hrd).mono ?_); rintro e w9 ⟨rfl, hw9⟩; have hw10 := hw9.symm; subst hw10; clear hw9))
          all_goals go_wp2_with fail
          all_goals go_roundw
          all_goals first | (simp [intOf]; omega) | exact ⟨j + 1, by omega, by first | rfl | go_num | simp, by (repeat (first | with_reducible (exact Since.refl _) | with_reducible assumption | with_reducible (refine Since.drew ?_) | with_reducible (refine Since.drewN ?_ _) | with_reducible (refine Since.alloc ?_ _) | (with_reducible (refine Since.setCell ?_ ?_ _); rotate_left; focus (first | (simp; done) | (simp; omega) | omega)) | (with_reducible (refine Since.trans ?_ (by with_reducible assumption)))))⟩
        · obtain rfl : N = j := by omega
          have hjn' : ¬ (N : Int) < (N : Int) := by omega
          have hr7 := Hr6.out.on hS
          have hA7 := HA6.out.trans hS
          have HWZ := Lib.hid (HW2.out _ c5 _ (HR6.out.on hS) HF.out)
          go_wp2_with (first | (go_at_call 18; (with_reducible refine HWZ.out.mono ?_); rintro e w8 ⟨v8, rfl, hO8, hS8⟩; have hA8 := hA7.trans hS8; obtain ⟨A8, c8, rfl, hc8, hr8⟩ := hO8.rd (by omega) byL_len; have hr9 := hr7.on hS8) | (go_at_call 22; (with_reducible refine (same_l A8 A4 _ Z c8 c4 (file4 TT) (file4 TT) _ rfl HZ.out hr8 hr9 rfl).mono ?_); rintro e w9 ⟨rfl, hw9⟩; have hw10 := hw9.symm; subst hw10; clear hw9))
          go_ret
          exact ⟨by first | rfl | simp, hA8⟩
    · go_wp2_with fail
      go_ret
      exact ⟨by first | rfl | simp, hA2⟩
  · have hG := rightG_no hR
    rw [hG] at HRR HWR
    simp only [Bool.false_eq_true, if_false, reduceIte] at HWR
    go_enter Try.func4, Try.ntmps4
    go_upto_region 5 with (first | (go_at_call 15; (with_reducible refine (alive04 _).mono ?_); rintro e w1 ⟨rfl, hS1⟩) | (go_at_call 16; (with_reducible refine (HG.out _ hS1).mono ?_); rintro e w2 ⟨g, rfl, hg, hS2⟩; have hA2 := hS1.trans hS2; have HNG := Lib.hid hg; clear hg; cases g))
    · have HF := Lib.hid (few_of HNG.out)
      clear HNG HG
      go_wp2_with (first | (go_at_call 18; (with_reducible refine (HWR.out _ hA2 HF.out).mono ?_); rintro e w4 ⟨v4, rfl, hO4, hS4⟩; have hA4 := hA2.trans hS4) | (go_at_call 20; (with_reducible refine (HRR.out _ hA4 HF.out).mono ?_); rintro e w6 ⟨rfl, hS6⟩; have hA6 := hA4.trans hS6))
      go_ret
      exact ⟨by first | rfl | simp, hA6⟩
    · go_wp2_with fail
      go_ret
      exact ⟨by first | rfl | simp, hA2⟩
end Go.Proofs.Ytpplnapfpoloiaa
