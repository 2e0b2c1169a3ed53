/-
  Layer 7: the reference's Write, walked.
-/
import Derived.Test.YtcjjcjpkmjbfkaaSjA
import Derived.Deep.QuietTactic
import Derived.BigQuiet
namespace Go.Proofs.Ytcjjcjpkmjbfkaa
open Go.RowKit Go.ChangeShapes Go.WideShapes Go.Deep
set_option linter.unusedVariables false
set_option linter.unusedSimpArgs false

set_option maxRecDepth 1000000 in
set_option maxHeartbeats 64000000 in
theorem rf_write7 (A : Option Addr) (c : Nat) (LL : List (List Kt)) (B : Option Addr) (m d : Nat) (C : List Int) (w : World) (h : RdOL w w.heap.size A LL) (hn : LL.length ≤ 1000000) (hm : ∀ L, L ∈ LL → L.length ≤ 1000000) (hC : RdB w w.heap.size B C) (hmm : m = C.length) (hcm : C.length ≤ 140737488355328) :
    Calls Try.prog 17 #[.agg #[.slice A LL.length c, .slice B m d]] w (WrPost7 LL C w) := by
  obtain ⟨N, hN⟩ : ∃ N, N = LL.length := ⟨_, rfl⟩
  have hNI : (N : Int) ≤ 1000000 := by omega
  have hmI : (m : Int) ≤ 140737488355328 := by omega
  by_cases h0 : LL = []
  · subst h0
    rw [List.length_nil] at hN ⊢
    have hB : glB [] C = [] := by unfold glB; split <;> rfl
    by_cases hc : C = []
    · subst hc
      rw [List.length_nil] at hmm
      subst hmm
      have E := Lib.hid (show glE [] [] = 0 by unfold glE wrE7 lsK; rfl)
      clear h hC hm hN
      go_enter Try.func17, Try.ntmps17
      go_wp2_with fail
      go_ret2
      exact wrpost7_no E.out hB (by (repeat (first | with_reducible (exact Since.refl _) | with_reducible assumption | with_reducible (refine Since.drew ?_) | with_reducible (refine Since.drewN ?_ _) | with_reducible (refine Since.alloc ?_ _) | (with_reducible (refine Since.setCell ?_ ?_ _); rotate_left; focus (first | (simp; done) | (simp; omega) | omega)) | (with_reducible (refine Since.trans ?_ (by with_reducible assumption))))))
    · have E := Lib.hid (show glE [] C = 4 by unfold glE wrE7 lsK; rw [if_pos (by rfl), if_neg hc])
      have hm0 : 0 < m := by rw [hmm]; exact List.length_pos_iff.2 hc
      have hmI0 : (0 : Int) < (m : Int) := by omega
      clear h hC hm hN hmm
      go_enter Try.func17, Try.ntmps17
      go_wp2_with fail
      go_ret2
      exact wrpost7_no E.out hB (by (repeat (first | with_reducible (exact Since.refl _) | with_reducible assumption | with_reducible (refine Since.drew ?_) | with_reducible (refine Since.drewN ?_ _) | with_reducible (refine Since.alloc ?_ _) | (with_reducible (refine Since.setCell ?_ ?_ _); rotate_left; focus (first | (simp; done) | (simp; omega) | omega)) | (with_reducible (refine Since.trans ?_ (by with_reducible assumption))))))
  have hN0 : 0 < N := by rw [hN]; exact List.length_pos_iff.2 h0
  have hNz : ¬ (N : Int) = 0 := by omega
  rw [← hN] at hn ⊢
  have H0 := Lib.hid h0
  have HN := Lib.hid hN
  have HM := Lib.hid hm
  have HO := Lib.hid h
  have HMM := Lib.hid hmm
  have HCC := Lib.hid hC
  clear h0 hN hm h hmm hC
  go_enter Try.func17, Try.ntmps17
  go_upto_region 5 with fail
  refine wp_named fun w1 hw1 => ?_
  have hS1 : Since w w1 := by subst hw1; (repeat (first | with_reducible (exact Since.refl _) | with_reducible assumption | with_reducible (refine Since.drew ?_) | with_reducible (refine Since.drewN ?_ _) | with_reducible (refine Since.alloc ?_ _) | (with_reducible (refine Since.setCell ?_ ?_ _); rotate_left; focus (first | (simp; done) | (simp; omega) | omega)) | (with_reducible (refine Since.trans ?_ (by with_reducible assumption)))))
  obtain ⟨gb, hgb0⟩ : ∃ gb, gb = w.heap.size := ⟨_, rfl⟩
  have hT1 : Two w1 gb (.slice A N c) (.slice B m d) := by subst hw1; exact two_new w gb hgb0 _ _ _
  rw [← hgb0]
  clear hw1 hgb0
  obtain ⟨g0, g1, g2, g3, g4⟩ := id hT1
  go_wp2_with fail
  go_loopw [41] (fun y wr => ∃ (j : Nat), j ≤ N ∧ y = .int .i64 (j : Int) ∧ Hid (∀ i L, i < j → LL[i]? = some L → L.length ≠ 0) ∧ wr = w1) (fun y _ => N - (intOf y).toNat)
  case atStart => exact ⟨0, by omega, rfl, Lib.hid (fun i L hi => absurd hi (by omega)), rfl⟩
  case round =>
    obtain ⟨j, hj, rfl, HL, hw⟩ := hrel
    have hw' := hw.symm
    subst hw'
    clear hw
    by_cases hjn : j < N
    · have hjn' : (j : Int) < N := by omega
      have hL : LL[j]? = some (LL[j]'(by rw [← HN.out]; exact hjn)) := List.getElem?_eq_getElem _
      have hml := HM.out _ (List.mem_of_getElem? hL)
      generalize (LL[j]'(by rw [← HN.out]; exact hjn)) = L at *
      obtain ⟨b, o, A', c', rfl, hb, hcell, hK⟩ := HO.out.row hL
      have HLJ := Lib.hid hL
      have c1 := (hS1.1 _ _ hb).trans hcell
      generalize hll : L.length = n at *
      have HLL := Lib.hid hll
      clear hL hcell hK hll
      by_cases h5 : n = 0
      · have E := Lib.hid (glE_4 (C := C) HLJ.out (HLL.out.trans h5))
        have hB := Lib.hid (glB_err (LL := LL) (C := C) (by rw [E.out]; omega))
        subst h5
        go_wp2_with fail
        go_ret2
        exact wrpost7_no E.out hB.out hS1
      · have d3 : ¬ (n : Int) = 0 := by omega
        have u1 : IntKind.i64.wrap ((j : Int) + 1) = (j : Int) + 1 := IntWalk.i64_in _ (by omega)
        go_wp2_with fail
        go_roundw
        case rel =>
          refine ⟨j + 1, by omega, by go_num, Lib.hid (fun i M hi hM => ?_), by first | rfl | trivial⟩
          by_cases e : i = j
          · subst e
            rw [HLJ.out] at hM
            injection hM with hM
            subst hM
            rw [HLL.out]; exact h5
          · exact HL.out i M (by omega) hM
        case measure => simp [intOf]; omega
    · obtain rfl : N = j := by omega
      have HZ := Lib.hid (show 0 ∉ LL.map List.length from fun h => by
        obtain ⟨L, hL, hl⟩ := List.mem_map.1 h
        obtain ⟨i, hi, hg⟩ := List.getElem_of_mem hL
        exact HL.out i L (by rw [HN.out]; exact hi) (by rw [List.getElem?_eq_getElem hi, hg]) hl)
      clear HL
      go_wp2_with fail
      go_loopw [4, 52] (fun v y wq => ∃ (j : Nat), j ≤ N ∧ y = .int .i64 (j : Int) ∧ v = .int .i64 ((sumL (LL.take j) : Nat) : Int) ∧ sumL (LL.take j) ≤ 4096 ∧ wq = w1) (fun _ y _ => N - (intOf y).toNat)
      case atStart => exact ⟨0, by omega, rfl, by first | rfl | simp [sumL], by simp [sumL], rfl⟩
      case round =>
        obtain ⟨j, hj, rfl, rfl, hs, hw⟩ := hrel
        have hw' := hw.symm
        subst hw'
        clear hw
        by_cases hjn : j < N
        · have hjn' : (j : Int) < N := by omega
          have hL : LL[j]? = some (LL[j]'(by rw [← HN.out]; exact hjn)) := List.getElem?_eq_getElem _
          have hml := HM.out _ (List.mem_of_getElem? hL)
          generalize (LL[j]'(by rw [← HN.out]; exact hjn)) = L at *
          obtain ⟨b, o, A', c', rfl, hb, hcell, hK⟩ := HO.out.row hL
          have hst := sum_take hL
          have HST := Lib.hid hst
          have hmo := sumL_mono LL (j + 1)
          rw [hst] at hmo
          have HMO := Lib.hid hmo
          have c1 := (hS1.1 _ _ hb).trans hcell
          generalize L.length = n at *
          generalize sumL (LL.take j) = S at *
          have u1 : IntKind.i64.wrap ((j : Int) + 1) = (j : Int) + 1 := IntWalk.i64_in _ (by omega)
          have u2 : IntKind.i64.wrap ((S : Int) + (n : Int)) = (S : Int) + (n : Int) := IntWalk.i64_in _ (by omega)
          clear hL hcell hK hst hmo
          by_cases h7 : 4096 < S + n
          · have d3 : (4096 : Int) < (S : Int) + (n : Int) := by omega
            have E := Lib.hid (glE_7 (C := C) H0.out HZ.out (.inl (by have := HMO.out; omega)))
            have hB := Lib.hid (glB_err (LL := LL) (C := C) (by rw [E.out]; omega))
            go_wp2_with fail
            go_ret2
            exact wrpost7_no E.out hB.out hS1
          · have d3 : ¬ (4096 : Int) < (S : Int) + (n : Int) := by omega
            go_wp2_with fail
            go_roundw
            case rel => exact ⟨j + 1, by omega, by go_num, by rw [HST.out]; go_num, by rw [HST.out]; omega, by first | rfl | trivial⟩
            case measure => simp [intOf]; omega
        · obtain rfl : N = j := by omega
          have e : LL.take N = LL := by rw [HN.out]; exact List.take_length
          rw [e] at hs ⊢
          by_cases h7 : 65535 < m
          · have d4 : (65535 : Int) < (m : Int) := by omega
            have E := Lib.hid (glE_7 (C := C) H0.out HZ.out (.inr (by rw [← HMM.out]; exact h7)))
            have hB := Lib.hid (glB_err (LL := LL) (C := C) (by rw [E.out]; omega))
            go_wp2_with fail
            go_ret2
            exact wrpost7_no E.out hB.out hS1
          · have d4 : ¬ (65535 : Int) < (m : Int) := by omega
            have H7 := Lib.hid (show ¬ (4096 < sumL LL ∨ 65535 < C.length) by rw [← HMM.out]; omega)
            have hfl : LL.flatten.length ≤ 4096 := by rw [← sumL_flat]; exact hs
            have hN4 : N ≤ 4096 := by
              have h1 := len_le_sum (LL.map List.length) (fun l hl => by
                rcases Nat.eq_zero_or_pos l with rfl | hp
                · exact absurd hl HZ.out
                · exact hp)
              rw [List.length_map, ← HN.out] at h1
              have h9 : sumL LL = (LL.map List.length).sum := rfl
              omega
            clear e h7
            go_wp2_with fail
            go_loopw [4, 9, 10, 11, 12, 13, 14, 70] (fun vn vx vy v1 v2 v3 v4 y wq => ∃ (j : Nat), j ≤ N ∧ y = .int .i64 (j : Int) ∧ vn = .int .i64 ((sumL (LL.take j) : Nat) : Int) ∧ vx = .int .i64 (lastK (LL.take j).flatten).x ∧ vy = .int .i64 (lastK (LL.take j).flatten).y ∧ RwIn w1 v1 v2 v3 v4 (flK (LL.take j).flatten) (sxK (LL.take j).flatten) (syK (LL.take j).flatten) (nums8 (ends7 (-1) (lsK (LL.take j)))) wq ∧ Hid (OkK (LL.take j).flatten)) (fun _ _ _ _ _ _ _ y _ => N - (intOf y).toNat)
            case atStart => exact ⟨0, by omega, rfl, by first | rfl | simp [sumL], rfl, rfl, ⟨OwnG.nil _ _ _ _ _, OwnG.nil _ _ _ _ _, OwnG.nil _ _ _ _ _, OwnG.nil _ _ _ _ _, (fun k h => by cases h), (fun k h => by cases h), (fun k h => by cases h), Since.refl _⟩, Lib.hid okK_nil⟩
            case round =>
              obtain ⟨j, hj, rfl, rfl, rfl, rfl, HW, HOK⟩ := hrel
              by_cases hjn : j < N
              · have hjn' : (j : Int) < N := by omega
                have hjL : j < LL.length := by rw [← HN.out]; exact hjn
                have hL : LL[j]? = some LL[j] := List.getElem?_eq_getElem hjL
                have htk : (LL.take (j + 1)).flatten = (LL.take j).flatten ++ LL[j] := by rw [List.take_succ_eq_append_getElem hjL, List.flatten_append]; simp
                have hst := sum_take hL
                have het := ends7_take hL
                have hmo := sumL_mono LL (j + 1)
                generalize LL[j] = L at *
                obtain ⟨b, o, A', c', rfl, hb, hcell, hK⟩ := HO.out.row hL
                have c1 := ((hS1.trans HW.s).1 _ _ hb).trans hcell
                obtain ⟨n, hnl⟩ : ∃ n, n = L.length := ⟨_, rfl⟩
                rw [← hnl] at c1 hst
                have hml : n ≤ 4096 := by omega
                have HNL := Lib.hid hnl
                have HK := Lib.hid hK
                have HTK := Lib.hid htk
                have HLJ := Lib.hid hL
                have HST := Lib.hid hst
                have HET := Lib.hid het
                have hle : sumL (LL.take j) + n ≤ 4096 := by omega
                have hnI : (n : Int) ≤ 4096 := by omega
                clear hL hcell hjL hnl hK htk hst het hmo
                generalize hes : nums8 (ends7 (-1) (lsK (LL.take j))) = ES at *
                have HES := Lib.hid hes
                clear hes
                go_wp2_with fail
                go_loopw [9, 10, 11, 12, 13, 76] (fun vx vy v1 v2 v3 y wi => ∃ (k : Nat), k ≤ n ∧ y = .int .i64 (k : Int) ∧ vx = .int .i64 (lastK ((LL.take j).flatten ++ L.take k)).x ∧ vy = .int .i64 (lastK ((LL.take j).flatten ++ L.take k)).y ∧ RwIn w1 v1 v2 v3 u14 (flK ((LL.take j).flatten ++ L.take k)) (sxK ((LL.take j).flatten ++ L.take k)) (syK ((LL.take j).flatten ++ L.take k)) ES wi ∧ Hid (OkK ((LL.take j).flatten ++ L.take k))) (fun _ _ _ _ _ y _ => n - (intOf y).toNat)
                case atStart => exact ⟨0, by omega, rfl, by simp, by simp, by simpa using HW, by simpa using HOK⟩
                case round =>
                  obtain ⟨k, hk, rfl, rfl, rfl, HW', HOK'⟩ := hrel
                  clear HW c1
                  by_cases hkn : k < n
                  · have hkn' : (k : Int) < n := by omega
                    have hkL : k < L.length := by rw [← HNL.out]; exact hkn
                    have hx : L[k]? = some L[k] := List.getElem?_eq_getElem hkL
                    have htk2 : (LL.take j).flatten ++ L.take (k + 1) = (LL.take j).flatten ++ L.take k ++ [L[k]] := by rw [List.take_succ_eq_append_getElem hkL, List.append_assoc]
                    have hbad := glE_6 (C := C) HZ.out H7.out HLJ.out hx
                    have hsn := okK_snoc ((LL.take j).flatten ++ L.take k) L[k]
                    have hlast := okK_last HOK'.out
                    obtain ⟨R, hR⟩ := flat_pre (k := k) HLJ.out
                    have hsz := hfl
                    rw [hR] at hsz
                    simp only [List.length_append] at hsz
                    rw [← List.length_append] at hsz
                    have hfs := flK_snoc ((LL.take j).flatten ++ L.take k) L[k]
                    have hxs := sxK_snoc ((LL.take j).flatten ++ L.take k) L[k]
                    have hys := syK_snoc ((LL.take j).flatten ++ L.take k) L[k]
                    have hlf := flK_len ((LL.take j).flatten ++ L.take k)
                    have hlx := sxK_le ((LL.take j).flatten ++ L.take k)
                    have hly := syK_le ((LL.take j).flatten ++ L.take k)
                    have HLK := Lib.hid (lastK_snoc ((LL.take j).flatten ++ L.take k) L[k])
                    generalize L[k] = x at *
                    obtain ⟨bk, ok, rfl, hbk, hck⟩ := HK.out (by omega)
                    have hSW := hS1.trans HW'.s
                    have d1 := (hSW.1 _ _ hbk).trans (hck k x hx 0 (by omega))
                    have d2 := (hSW.1 _ _ hbk).trans (hck k x hx 1 (by omega))
                    have d3 := (hSW.1 _ _ hbk).trans (hck k x hx 2 (by omega))
                    simp only [knL, List.getD_cons_succ, List.getD_cons_zero, Nat.add_zero] at d1 d2 d3
                    have u1 : IntKind.i64.wrap ((k : Int) + 1) = (k : Int) + 1 := IntWalk.i64_in _ (by omega)
                    generalize (LL.take j).flatten ++ L.take k = S at *
                    have hS4 : S.length ≤ 4096 := by omega
                    generalize lastK S = lk at *
                    obtain ⟨lx, ly, lz⟩ := lk
                    obtain ⟨x1, x2, x3⟩ := x
                    simp only at hbad hsn hlast d1 d2 d3 hfs hxs hys
                    have hbad' := Lib.hid hbad
                    have hsn' := Lib.hid hsn
                    have HTK2 := Lib.hid htk2
                    have HSI := Lib.hid HW'.s
                    clear hx hck hkL htk2 hbad hsn hSW hR hsz
                    have ww1 : Sh x1 → IntKind.i64.wrap (x1 - lx) = x1 - lx := fun h => by have := hlast.1; unfold Sh at *; rw [IntKind.wrap_i64]; omega
                    have ww2 : Sh x2 → IntKind.i64.wrap (x2 - ly) = x2 - ly := fun h => by have := hlast.2; unfold Sh at *; rw [IntKind.wrap_i64]; omega
                    by_cases e1 : Sh x1
                    · have f1 := decide_eq_true e1
                      have ww1 := ww1 e1
                      by_cases e2 : Sh x2
                      · have f2 := decide_eq_true e2
                        have ww2 := ww2 e2
                        by_cases e3 : Sh (x1 - lx)
                        · have f3 := decide_eq_true e3
                          by_cases e4 : Sh (x2 - ly)
                          · have f4 := decide_eq_true e4
                            have HN := Lib.hid (show OkK (S ++ [⟨x1, x2, x3⟩]) from hsn'.out.2 ⟨HOK'.out, e1, e2, e3, e4⟩)
                            have hC1 := Lib.hid (fun w2 => rf_step2 (x1 - lx) w2 (by unfold Sh at e3; omega))
                            have hC2 := Lib.hid (fun w2 => rf_step4 (x2 - ly) w2 (by unfold Sh at e4; omega))
                            have ho := fl7_sum x3 (x1 - lx) (x2 - ly)
                            obtain ⟨n1, n2, n3, n4⟩ := sfl7_in (x1 - lx) (x2 - ly)
                            have o4 : IntKind.i64.wrap (fl7 x3 (x1 - lx) (x2 - ly)) = fl7 x3 (x1 - lx) (x2 - ly) := by
                              have hk := fl7_ok x3 (x1 - lx) (x2 - ly)
                              have hk1 := hk.1.1
                              rw [IntKind.wrap_i64]; omega
                            have hp1 := stp7_le (x1 - lx)
                            have hp2 := stp7_le (x2 - ly)
                            have HFS := Lib.hid hfs
                            have HXS := Lib.hid hxs
                            have HYS := Lib.hid hys
                            have hTk := tri_new wr wr.heap.size rfl x1 x2 x3 62
                            have hKn : Since wr (wr.alloc (.cells #[.int .i64 x1, .int .i64 x2, .bool x3] 62)) := (Since.refl wr).alloc _
                            have HB1 : ∀ q, u11.ownBlock = some q → q ≠ wr.heap.size := fun q hq => Nat.ne_of_lt (HW'.f.lt hq).2
                            have HB2 : ∀ q, u12.ownBlock = some q → q ≠ wr.heap.size := fun q hq => Nat.ne_of_lt (HW'.x.lt hq).2
                            have HB3 : ∀ q, u13.ownBlock = some q → q ≠ wr.heap.size := fun q hq => Nat.ne_of_lt (HW'.y.lt hq).2
                            have tok1 : True := trivial
                            have tok2 : True := trivial
                            have tokX : True := trivial
                            have tokY : True := trivial
                            clear e1 e2 e3 e4 hlast hfs hxs hys
                            generalize sfl7 2 16 (x1 - lx) = fx at *
                            generalize sfl7 4 32 (x2 - ly) = fy at *
                            generalize stp7 (x1 - lx) = px at *
                            generalize stp7 (x2 - ly) = py at *
                            generalize fl7 x3 (x1 - lx) (x2 - ly) = fl at *
                            generalize flK S = FS at *
                            generalize sxK S = XS at *
                            generalize syK S = YS at *
                            have hlf3 : FS.length ≤ 3000000 := by omega
                            have hlx3 : XS.length + px.length ≤ 140737488355328 := by omega
                            have hly3 : YS.length + py.length ≤ 140737488355328 := by omega
                            have o1 : IntKind.i64.wrap (fx + 1) = fx + 1 := by rw [IntKind.wrap_i64]; omega
                            have o2 : IntKind.i64.wrap (fx + 1 + fy) = fx + 1 + fy := by rw [IntKind.wrap_i64]; omega
                            have o3 : IntKind.i64.wrap (fx + fy) = fx + fy := by rw [IntKind.wrap_i64]; omega
                            clear n1 n2 n3 n4
                            cases x3
                            all_goals
                              simp only [if_true, if_false, Bool.false_eq_true] at ho
                              go_upto_region 37 with (first | (go_at_call 24; (with_reducible refine (rf_short7 _ _).mono ?_); rintro e w2 ⟨rfl, rfl⟩) | (go_at_call 25; have _t := tok1; (with_reducible refine (hC1.out _).mono ?_); rintro e w2 ⟨vx, rfl, hPx, hSx⟩; have hA2 := hKn.trans hSx; have hTk2 := hTk.since hSx; obtain ⟨p1, p2, p3, p4, p5, p6, p7⟩ := id hTk2; have ax := apart_new (HW'.x.alloc _) hPx; clear tok1) | (go_at_call 25; have _t := tok2; (with_reducible refine (hC2.out _).mono ?_); rintro e w3 ⟨vy, rfl, hPy, hSy⟩; have hA3 := hA2.trans hSy; have hTk3 := hTk2.since hSy; obtain ⟨q1, q2, q3, q4, q5, q6, q7⟩ := id hTk3; have ay := apart_new (HW'.x.since hA2) hPy; have hPx3 := hPx.since hSy; have HM := HW'.since hA3; clear tok2))
                              go_upto_region 38 with (first | (at_builtin; refine wpList_append_i rfl (.tmp 126) (.tmp 130) rfl 3 HM.s u11 FS (by rfl) HM.f w3.heap.size 1 fl (by rfl) rfl hlf3 ?_; intro v7 w7 hO7 hg7 hb7 hS7; have HM7 := (HM.since ((Since.refl _).alloc _)).flag hO7 hg7 hS7; have hx7 := (hPx3.alloc _).growA hg7 (apart_type HM.f hPx3 int_byte_ne); have hy7 := (hPy.alloc _).growA hg7 (apart_type HM.f hPy int_byte_ne); have hTk7 := (hTk3.alloc _).grown hg7 HB1))
                              obtain ⟨Ax, cx, rfl, hcx, hrx⟩ := hx7.rd (by omega) byL_len
                              obtain ⟨Ay, cy, rfl, hcy, hry⟩ := hy7.rd (by omega) byL_len
                              clear hg7 hb7 hcx hcy hry hx7 hPx hPx3 hPy
                              go_upto_region 40 with (first | (at_builtin; have _t := tokX; refine wpList_append_bw rfl (.tmp 132) (.tmp 133) rfl HM7.s u12 XS (by rfl) HM7.x _ Ax _ cx px rfl (by rfl) hrx hlx3 ?_; intro v8 w8 hO8 hS8 hg8 hw8; have HM8 := HM7.xs hO8 hg8 hw8 hS8; have hy8 := hy7.growA hg8 ay; have hry8 := own_rdv (by omega) byL_len hy8; have hTk8 := hTk7.grown hg8 HB2; clear tokX) | (at_builtin; have _t := tokY; refine wpList_append_bw rfl (.tmp 135) (.tmp 136) rfl HM8.s u13 YS (by rfl) HM8.y _ Ay _ cy py rfl (by rfl) hry8 hly3 ?_; intro v9 w9 hO9 hS9 hg9 hw9; have HM9 := HM8.ys hO9 hg9 hw9 hS9; have hTk9 := hTk8.grown hg9 HB3; obtain ⟨r1, r2, r3, r4, r5, r6, r7⟩ := id hTk9; clear tokY))
                              go_quiet (fail)
                              go_wp2_with fail
                              go_roundw
                              case rel =>
                                refine ⟨k + 1, by omega, by go_num, ?_, ?_, ?_, by rw [HTK2.out]; exact HN⟩
                                · rw [HTK2.out, HLK.out]
                                · rw [HTK2.out, HLK.out]
                                · rw [HTK2.out, HFS.out, HXS.out, HYS.out]; exact HM9.since ((Since.refl _).drewN _)
                              case measure => simp [intOf]; omega
                          · have f4 := decide_eq_false e4
                            have E := Lib.hid (hbad'.out (fun h => e4 h.2.2.2))
                            have hB := Lib.hid (glB_err (LL := LL) (C := C) (by rw [E.out]; omega))
                            clear e1 e2 e3 e4 hlast hfs hxs hys
                            go_wp2_with (go_at_call 24; (with_reducible refine (rf_short7 _ _).mono ?_); rintro e w2 ⟨rfl, rfl⟩)
                            go_ret2
                            exact wrpost7_no E.out hB.out (hS1.trans (by have hX := HSI.out; (repeat (first | with_reducible (exact Since.refl _) | with_reducible assumption | with_reducible (refine Since.drew ?_) | with_reducible (refine Since.drewN ?_ _) | with_reducible (refine Since.alloc ?_ _) | (with_reducible (refine Since.setCell ?_ ?_ _); rotate_left; focus (first | (simp; done) | (simp; omega) | omega)) | (with_reducible (refine Since.trans ?_ (by with_reducible assumption)))))))
                        · have f3 := decide_eq_false e3
                          have E := Lib.hid (hbad'.out (fun h => e3 h.2.2.1))
                          have hB := Lib.hid (glB_err (LL := LL) (C := C) (by rw [E.out]; omega))
                          clear e1 e2 e3 hlast hfs hxs hys
                          go_wp2_with (go_at_call 24; (with_reducible refine (rf_short7 _ _).mono ?_); rintro e w2 ⟨rfl, rfl⟩)
                          go_ret2
                          exact wrpost7_no E.out hB.out (hS1.trans (by have hX := HSI.out; (repeat (first | with_reducible (exact Since.refl _) | with_reducible assumption | with_reducible (refine Since.drew ?_) | with_reducible (refine Since.drewN ?_ _) | with_reducible (refine Since.alloc ?_ _) | (with_reducible (refine Since.setCell ?_ ?_ _); rotate_left; focus (first | (simp; done) | (simp; omega) | omega)) | (with_reducible (refine Since.trans ?_ (by with_reducible assumption)))))))
                      · have f2 := decide_eq_false e2
                        have E := Lib.hid (hbad'.out (fun h => e2 h.2.1))
                        have hB := Lib.hid (glB_err (LL := LL) (C := C) (by rw [E.out]; omega))
                        clear e1 e2 hlast ww2 hfs hxs hys
                        go_wp2_with (go_at_call 24; (with_reducible refine (rf_short7 _ _).mono ?_); rintro e w2 ⟨rfl, rfl⟩)
                        go_ret2
                        exact wrpost7_no E.out hB.out (hS1.trans (by have hX := HSI.out; (repeat (first | with_reducible (exact Since.refl _) | with_reducible assumption | with_reducible (refine Since.drew ?_) | with_reducible (refine Since.drewN ?_ _) | with_reducible (refine Since.alloc ?_ _) | (with_reducible (refine Since.setCell ?_ ?_ _); rotate_left; focus (first | (simp; done) | (simp; omega) | omega)) | (with_reducible (refine Since.trans ?_ (by with_reducible assumption)))))))
                    · have f1 := decide_eq_false e1
                      have E := Lib.hid (hbad'.out (fun h => e1 h.1))
                      have hB := Lib.hid (glB_err (LL := LL) (C := C) (by rw [E.out]; omega))
                      clear e1 hlast ww1 ww2 hfs hxs hys
                      go_wp2_with (go_at_call 24; (with_reducible refine (rf_short7 _ _).mono ?_); rintro e w2 ⟨rfl, rfl⟩)
                      go_ret2
                      exact wrpost7_no E.out hB.out (hS1.trans (by have hX := HSI.out; (repeat (first | with_reducible (exact Since.refl _) | with_reducible assumption | with_reducible (refine Since.drew ?_) | with_reducible (refine Since.drewN ?_ _) | with_reducible (refine Since.alloc ?_ _) | (with_reducible (refine Since.setCell ?_ ?_ _); rotate_left; focus (first | (simp; done) | (simp; omega) | omega)) | (with_reducible (refine Since.trans ?_ (by with_reducible assumption)))))))
                  · obtain rfl : k = n := by omega
                    have e : L.take k = L := by rw [HNL.out]; exact List.take_length
                    rw [e, ← HTK.out] at HW' HOK' ⊢
                    have HEN := Lib.hid (show nums8 (ends7 (-1) (lsK (LL.take (j + 1)))) = ES ++ putL (((sumL (LL.take (j + 1)) : Nat) : Int) - 1) 2 by rw [HET.out, nums8_snoc, HES.out])
                    have HS9 := Lib.hid (show sumL (LL.take (j + 1)) = sumL (LL.take j) + k from HST.out)
                    have hel : ES.length ≤ 10000 := by rw [← HES.out, nums8_len, ends7_len]; unfold lsK; rw [List.length_map, List.length_take]; omega
                    have hsz : ES.length + (putL (((sumL (LL.take (j + 1)) : Nat) : Int) - 1) 2).length ≤ 140737488355328 := by rw [putL_len]; omega
                    clear e
                    generalize hg9 : sumL (LL.take (j + 1)) = S' at *
                    generalize sumL (LL.take j) = S9 at *
                    have HG9 := Lib.hid hg9
                    have u1 : IntKind.i64.wrap ((S9 : Int) + (k : Int)) = (S' : Int) := by have := HS9.out; rw [IntKind.wrap_i64]; omega
                    have u2 : IntKind.i64.wrap ((S' : Int) - 1) = (S' : Int) - 1 := by have := HS9.out; rw [IntKind.wrap_i64]; omega
                    have u3' : IntKind.i64.wrap ((j : Int) + 1) = (j : Int) + 1 := IntWalk.i64_in _ (by omega)
                    have hin : In64 ((S' : Int) - 1) := by have := HS9.out; unfold In64; omega
                    clear hg9
                    go_wp2_with (first | (go_at_call 26; (with_reducible refine (rput_o 2 ((S' : Int) - 1) 2 _ hin rfl (by omega)).mono ?_); rintro e w6 ⟨g6, rfl, hg6, hO6, hS6⟩; have HM6 := HW'.since hS6; have hr6 := own_rdv (by omega) byL_len hO6; have hl6 := putL_len ((S' : Int) - 1) 2) | (at_builtin; refine wpList_append_bw rfl (.tmp 147) (.tmp 150) rfl HM6.s u14 ES (by rfl) HM6.e _ (some ⟨g6, 0, none⟩) 2 2 (putL ((S' : Int) - 1) 2) hl6.symm (by rfl) hr6 hsz ?_; intro v7 w7 hO7 hS7 hg7 hw7; have HM7 := HM6.es hO7 hg7 hw7 hS7))
                    go_roundw
                    case rel => exact ⟨j + 1, by omega, by first | rfl | go_num, by rw [HG9.out], rfl, rfl, by rw [HEN.out]; exact HM7, HOK'⟩
                    case measure => simp [intOf]; omega
              · obtain rfl : j = N := by omega
                have e : LL.take j = LL := by rw [HN.out]; exact List.take_length
                rw [e] at HW HOK ⊢
                have E := Lib.hid (glE_0 (C := C) H0.out HZ.out H7.out HOK.out)
                have hGB := Lib.hid (show glB LL C = ((((putL j 2 ++ nums8 (boxK LL)) ++ nums8 (ends7 (-1) (lsK LL)) ++ putL m 2) ++ C) ++ rle7 (flK LL.flatten)) ++ sxK LL.flatten ++ syK LL.flatten by
                  unfold glB; rw [if_pos E.out]; unfold wr7; rw [if_neg (show ¬ lsK LL = [] from fun e => H0.out (List.map_eq_nil_iff.1 e))]; unfold wrB7 kn7
                  rw [show (lsK LL).length = j by unfold lsK; rw [List.length_map, ← HN.out], ← HMM.out]
                  simp only [List.append_assoc]; rfl)
                have hBX := Lib.hid (fun (w2 : World) (h2 : Since w w2) => rf_boxE A c LL w2 (HO.out.on h2) (by rw [← HN.out]; omega) HM.out)
                rw [← HN.out] at hBX
                unfold BoxPost7 at hBX
                have hx1 : ∀ v ∈ boxK LL, -32768 ≤ v ∧ v ≤ 32767 := by
                  have hxs := stepsOk_sh _ _ HOK.out.1
                  have hys := stepsOk_sh _ _ HOK.out.2
                  have hmn : ∀ l : List Int, (∀ x ∈ l, Sh x) → Sh (mn7 l) ∧ Sh (mx7 l) := fun l hl => by
                    cases l with
                    | nil => exact ⟨by decide, by decide⟩
                    | cons a r => exact ⟨foldl_min_sh (a :: r) a (hl a (by simp)) hl, foldl_max_sh (a :: r) a (hl a (by simp)) hl⟩
                  intro v hv
                  have hbl : boxK LL = [mn7 (xsK LL.flatten), mn7 (ysK LL.flatten), mx7 (xsK LL.flatten), mx7 (ysK LL.flatten)] := rfl
                  rw [hbl] at hv
                  simp only [List.mem_cons, List.not_mem_nil, or_false] at hv
                  rcases hv with rfl | rfl | rfl | rfl
                  · exact (hmn _ hxs).1
                  · exact (hmn _ hys).1
                  · exact (hmn _ hxs).2
                  · exact (hmn _ hys).2
                have hbl : boxK LL = [mn7 (LL.flatten.map Kt.x), mn7 (LL.flatten.map Kt.y), mx7 (LL.flatten.map Kt.x), mx7 (LL.flatten.map Kt.y)] := rfl
                have hfl1 := flK_len LL.flatten
                have hsx1 := sxK_le LL.flatten
                have hsy1 := syK_le LL.flatten
                have hend : (nums8 (ends7 (-1) (lsK LL))).length ≤ 10000 := by rw [nums8_len, ends7_len]; unfold lsK; rw [List.length_map, ← HN.out]; omega
                have hokf := flK_ok LL.flatten
                have HX1 := Lib.hid hx1
                obtain ⟨i1, i2, i3, i4, _, _, _, i8⟩ := HW
                have hWL := hS1.trans i8
                have hTL := hT1.since i8
                obtain ⟨wL, hwL⟩ : ∃ wL, wL = wr := ⟨_, rfl⟩
                rw [← hwL] at i1 i2 i3 i4 i8 hWL hTL ⊢
                clear hx1 e HOK hwL
                generalize boxK LL = BX at *
                generalize nums8 (ends7 (-1) (lsK LL)) = ES at *
                generalize flK LL.flatten = FS at *
                generalize sxK LL.flatten = XS at *
                generalize syK LL.flatten = YS at *
                generalize mn7 (LL.flatten.map Kt.x) = bx1 at *
                generalize mn7 (LL.flatten.map Kt.y) = bx2 at *
                generalize mx7 (LL.flatten.map Kt.x) = bx3 at *
                generalize mx7 (LL.flatten.map Kt.y) = bx4 at *
                subst hbl
                obtain ⟨Af, cf, ef, hcf, hrf⟩ := i1.rd (by omega) inL_len
                subst ef
                obtain ⟨Ax, cx, ex, hcx, hrx⟩ := i2.rd (by omega) byL_len
                subst ex
                obtain ⟨Ay, cy, ey, hcy, hry⟩ := i3.rd (by omega) byL_len
                subst ey
                obtain ⟨Ae, ce, ee, hce, hre⟩ := i4.rd (by omega) byL_len
                subst ee
                obtain ⟨p1, p2, p3, p4, p5⟩ := id hTL
                have hFM : FS.length ≤ 4096 := by omega
                obtain ⟨M, hM⟩ : ∃ M, M = FS.length := ⟨_, rfl⟩
                have hRF := rdi_rd' hrf hM
                rw [← hM] at hFM ⊢
                have HFM := Lib.hid hM
                have HOKF := Lib.hid hokf
                have hNI4 : In64 (j : Int) := by unfold In64; omega
                clear hfl1 hM hrf hokf
                go_upto_region 46 with (go_at_call 27; (with_reducible refine (hBX.out _ hWL).mono ?_); rintro e w4 ⟨rfl, hS4⟩; have hT4 := hTL.since hS4; have hA4 := hWL.trans hS4)
                refine wp_named fun w5 hw5 => ?_
                have hB5 : Since wL w5 := by subst hw5; (repeat (first | with_reducible (exact Since.refl _) | with_reducible assumption | with_reducible (refine Since.drew ?_) | with_reducible (refine Since.drewN ?_ _) | with_reducible (refine Since.alloc ?_ _) | (with_reducible (refine Since.setCell ?_ ?_ _); rotate_left; focus (first | (simp; done) | (simp; omega) | omega)) | (with_reducible (refine Since.trans ?_ (by with_reducible assumption)))))
                obtain ⟨ga, hga⟩ : ∃ ga, ga = w4.heap.size := ⟨_, rfl⟩
                have hP1 : Two w5 ga (.int .i64 bx1) (.int .i64 bx2) := by subst hw5; exact (two_new w4 ga hga _ _ _).since ((Since.refl _).alloc _)
                have hP2 : Two w5 (ga + 1) (.int .i64 bx3) (.int .i64 bx4) := by subst hw5; exact two_new _ (ga + 1) (by rw [hga]; simp) _ _ _
                rw [← hga]
                have hT5 := hTL.since hB5
                clear hw5 hga hT4 hA4 hS4 p1 p2 p3 p4 p5
                obtain ⟨p1, p2, p3, p4, p5⟩ := id hT5
                go_upto_region 47 with (go_at_call 26; (with_reducible refine (rput_o 2 (j : Int) 2 _ hNI4 rfl (by omega)).mono ?_); rintro e w6 ⟨g6, rfl, hg6, hO6, hS6⟩)
                have hO5 := hO6.low hB5.below.size
                have hB6 := hB5.trans hS6
                obtain ⟨q1, q2, q3, q4, q5⟩ := hP1.since hS6
                obtain ⟨r1, r2, r3, r4, r5⟩ := hP2.since hS6
                clear p1 p2 p3 p4 p5 hT5 hO6 hP1 hP2 hNI4
                go_wp2_with fail
                have hxb1 := HX1.out bx1 (by simp)
                have hxb2 := HX1.out bx2 (by simp)
                have hxb3 := HX1.out bx3 (by simp)
                have hxb4 := HX1.out bx4 (by simp)
                have HO5 := Lib.hid hO5
                have HB6 := Lib.hid hB6
                go_loopw [25, 172] (fun v y wr => ∃ (i : Nat) (z : Int), i ≤ 4 ∧ z = (i : Int) ∧ y = .int .i64 z ∧ OwnB wr wL.heap.size v (putL j 2 ++ nums8 (([bx1, bx2, bx3, bx4] : List Int).take i)) ∧ Since wL wr) (fun _ y _ => 4 - (intOf y).toNat)
                case atStart => exact ⟨0, 0, by omega, rfl, rfl, by simpa [nums8] using HO5.out, HB6.out⟩
                case round =>
                  obtain ⟨i, z, hi, hz, rfl, hO, hS⟩ := hrel
                  clear hO5 hB5 hB6 hS6 q1 q2 q3 q4 q5 r1 r2 r3 r4 r5
                  have hi5 : i = 0 ∨ i = 1 ∨ i = 2 ∨ i = 3 ∨ i = 4 := by omega
                  rcases hi5 with rfl | rfl | rfl | rfl | rfl

                  · obtain rfl : z = 0 := by omega
                    have hta : (([bx1, bx2, bx3, bx4] : List Int).take 1) = ([bx1, bx2, bx3, bx4] : List Int).take 0 ++ [bx1] := rfl
                    have HTA := Lib.hid (show putL j 2 ++ nums8 (([bx1, bx2, bx3, bx4] : List Int).take 1) = putL j 2 ++ nums8 (([bx1, bx2, bx3, bx4] : List Int).take 0) ++ putL bx1 2 by rw [hta, nums8_snoc, List.append_assoc])
                    have hlen : (putL j 2 ++ nums8 (([bx1, bx2, bx3, bx4] : List Int).take 0)).length + (putL bx1 2).length ≤ 140737488355328 := by rw [List.length_append, nums8_len, putL_len, putL_len, List.length_take]; omega
                    have hin : In64 bx1 := by unfold In64; omega
                    clear hta hz
                    generalize putL j 2 ++ nums8 (([bx1, bx2, bx3, bx4] : List Int).take 0) = P at *
                    go_wp2_with (first | (go_at_call 26; (with_reducible refine (rput_o 2 bx1 2 _ hin rfl (by omega)).mono ?_); rintro e w6 ⟨g6, rfl, hg6, hO6, hS6⟩; have hT6 := hS.trans hS6; have hP6 := OwnG.since hO hS6; have hr6 := own_rdv (by omega) byL_len hO6; have hl6 := putL_len bx1 2) | (at_builtin; refine wpList_append_bw rfl (.tmp 175) (.tmp 177) rfl hT6 u25 P (by rfl) hP6 _ (some ⟨g6, 0, none⟩) 2 2 (putL bx1 2) hl6.symm (by rfl) hr6 hlen ?_; intro v7 w7 hO7 hS7 hg7 hw7))
                    go_roundw
                    case rel => exact ⟨1, 1, by omega, rfl, by first | rfl | go_num | simp, by rw [HTA.out]; exact hO7, hS7⟩
                    case measure => simp [intOf]

                  · obtain rfl : z = 1 := by omega
                    have hta : (([bx1, bx2, bx3, bx4] : List Int).take 2) = ([bx1, bx2, bx3, bx4] : List Int).take 1 ++ [bx2] := rfl
                    have HTA := Lib.hid (show putL j 2 ++ nums8 (([bx1, bx2, bx3, bx4] : List Int).take 2) = putL j 2 ++ nums8 (([bx1, bx2, bx3, bx4] : List Int).take 1) ++ putL bx2 2 by rw [hta, nums8_snoc, List.append_assoc])
                    have hlen : (putL j 2 ++ nums8 (([bx1, bx2, bx3, bx4] : List Int).take 1)).length + (putL bx2 2).length ≤ 140737488355328 := by rw [List.length_append, nums8_len, putL_len, putL_len, List.length_take]; omega
                    have hin : In64 bx2 := by unfold In64; omega
                    clear hta hz
                    generalize putL j 2 ++ nums8 (([bx1, bx2, bx3, bx4] : List Int).take 1) = P at *
                    go_wp2_with (first | (go_at_call 26; (with_reducible refine (rput_o 2 bx2 2 _ hin rfl (by omega)).mono ?_); rintro e w6 ⟨g6, rfl, hg6, hO6, hS6⟩; have hT6 := hS.trans hS6; have hP6 := OwnG.since hO hS6; have hr6 := own_rdv (by omega) byL_len hO6; have hl6 := putL_len bx2 2) | (at_builtin; refine wpList_append_bw rfl (.tmp 175) (.tmp 177) rfl hT6 u25 P (by rfl) hP6 _ (some ⟨g6, 0, none⟩) 2 2 (putL bx2 2) hl6.symm (by rfl) hr6 hlen ?_; intro v7 w7 hO7 hS7 hg7 hw7))
                    go_roundw
                    case rel => exact ⟨2, 2, by omega, rfl, by first | rfl | go_num | simp, by rw [HTA.out]; exact hO7, hS7⟩
                    case measure => simp [intOf]

                  · obtain rfl : z = 2 := by omega
                    have hta : (([bx1, bx2, bx3, bx4] : List Int).take 3) = ([bx1, bx2, bx3, bx4] : List Int).take 2 ++ [bx3] := rfl
                    have HTA := Lib.hid (show putL j 2 ++ nums8 (([bx1, bx2, bx3, bx4] : List Int).take 3) = putL j 2 ++ nums8 (([bx1, bx2, bx3, bx4] : List Int).take 2) ++ putL bx3 2 by rw [hta, nums8_snoc, List.append_assoc])
                    have hlen : (putL j 2 ++ nums8 (([bx1, bx2, bx3, bx4] : List Int).take 2)).length + (putL bx3 2).length ≤ 140737488355328 := by rw [List.length_append, nums8_len, putL_len, putL_len, List.length_take]; omega
                    have hin : In64 bx3 := by unfold In64; omega
                    clear hta hz
                    generalize putL j 2 ++ nums8 (([bx1, bx2, bx3, bx4] : List Int).take 2) = P at *
                    go_wp2_with (first | (go_at_call 26; (with_reducible refine (rput_o 2 bx3 2 _ hin rfl (by omega)).mono ?_); rintro e w6 ⟨g6, rfl, hg6, hO6, hS6⟩; have hT6 := hS.trans hS6; have hP6 := OwnG.since hO hS6; have hr6 := own_rdv (by omega) byL_len hO6; have hl6 := putL_len bx3 2) | (at_builtin; refine wpList_append_bw rfl (.tmp 175) (.tmp 177) rfl hT6 u25 P (by rfl) hP6 _ (some ⟨g6, 0, none⟩) 2 2 (putL bx3 2) hl6.symm (by rfl) hr6 hlen ?_; intro v7 w7 hO7 hS7 hg7 hw7))
                    go_roundw
                    case rel => exact ⟨3, 3, by omega, rfl, by first | rfl | go_num | simp, by rw [HTA.out]; exact hO7, hS7⟩
                    case measure => simp [intOf]

                  · obtain rfl : z = 3 := by omega
                    have hta : (([bx1, bx2, bx3, bx4] : List Int).take 4) = ([bx1, bx2, bx3, bx4] : List Int).take 3 ++ [bx4] := rfl
                    have HTA := Lib.hid (show putL j 2 ++ nums8 (([bx1, bx2, bx3, bx4] : List Int).take 4) = putL j 2 ++ nums8 (([bx1, bx2, bx3, bx4] : List Int).take 3) ++ putL bx4 2 by rw [hta, nums8_snoc, List.append_assoc])
                    have hlen : (putL j 2 ++ nums8 (([bx1, bx2, bx3, bx4] : List Int).take 3)).length + (putL bx4 2).length ≤ 140737488355328 := by rw [List.length_append, nums8_len, putL_len, putL_len, List.length_take]; omega
                    have hin : In64 bx4 := by unfold In64; omega
                    clear hta hz
                    generalize putL j 2 ++ nums8 (([bx1, bx2, bx3, bx4] : List Int).take 3) = P at *
                    go_wp2_with (first | (go_at_call 26; (with_reducible refine (rput_o 2 bx4 2 _ hin rfl (by omega)).mono ?_); rintro e w6 ⟨g6, rfl, hg6, hO6, hS6⟩; have hT6 := hS.trans hS6; have hP6 := OwnG.since hO hS6; have hr6 := own_rdv (by omega) byL_len hO6; have hl6 := putL_len bx4 2) | (at_builtin; refine wpList_append_bw rfl (.tmp 175) (.tmp 177) rfl hT6 u25 P (by rfl) hP6 _ (some ⟨g6, 0, none⟩) 2 2 (putL bx4 2) hl6.symm (by rfl) hr6 hlen ?_; intro v7 w7 hO7 hS7 hg7 hw7))
                    go_roundw
                    case rel => exact ⟨4, 4, by omega, rfl, by first | rfl | go_num | simp, by rw [HTA.out]; exact hO7, hS7⟩
                    case measure => simp [intOf]

                  · obtain rfl : z = 4 := by omega
                    have hTk : ([bx1, bx2, bx3, bx4] : List Int).take 4 = [bx1, bx2, bx3, bx4] := rfl
                    rw [hTk] at hO
                    have hPL : (putL j 2 ++ nums8 [bx1, bx2, bx3, bx4]).length = 10 := by rw [List.length_append, nums8_len, putL_len]; rfl
                    have hT := hTL.since hS
                    obtain ⟨p1, p2, p3, p4, p5⟩ := id hT
                    clear hTk hz hi hxb1 hxb2 hxb3 hxb4
                    have hz0 : (putL j 2 ++ nums8 [bx1, bx2, bx3, bx4]).length + ES.length ≤ 140737488355328 := by omega
                    generalize putL j 2 ++ nums8 [bx1, bx2, bx3, bx4] = PP at *
                    have hz1 : (PP ++ ES).length + (putL (m : Int) 2).length ≤ 140737488355328 := by rw [putL_len, List.length_append]; omega
                    have hz2 : (PP ++ ES ++ putL (m : Int) 2).length + C.length ≤ 140737488355328 := by rw [List.length_append, List.length_append, putL_len, ← HMM.out]; omega
                    have hz3 : (PP ++ ES ++ putL (m : Int) 2 ++ C).length ≤ 100000000 := by rw [List.length_append, List.length_append, List.length_append, putL_len, ← HMM.out]; omega
                    have hre1 := hre.on hS
                    have hmin : In64 (m : Int) := by unfold In64; omega
                    have hml2 := putL_len (m : Int) 2
                    have HZ3 := Lib.hid hz3
                    clear hPL hz3
                    have tok1 : True := trivial
                    have tok2 : True := trivial
                    have tok3 : True := trivial
                    go_upto_region 55 with (first | (at_builtin; have _t := tok1; refine wpList_append_bw rfl (.tmp 180) (.tmp 181) rfl hS u25 PP (by rfl) hO _ Ae _ ce ES rfl (by rfl) hre1 hz0 ?_; intro v5 w5 hO5 hS5 hg5 hw5; clear tok1; have hT5 := hTL.since hS5; obtain ⟨q1, q2, q3, q4, q5⟩ := id hT5) | (go_at_call 26; (with_reducible refine (rput_o 2 (m : Int) 2 _ hmin rfl (by omega)).mono ?_); rintro e w6 ⟨g6, rfl, hg6, hO6, hS6⟩; have hT6 := hS5.trans hS6; have hP6 := OwnG.since hO5 hS6; have hr6 := own_rdv (by omega) byL_len hO6) | (at_builtin; have _t := tok2; refine wpList_append_bw rfl (.tmp 183) (.tmp 187) rfl hT6 v5 (PP ++ ES) (by rfl) hP6 _ (some ⟨g6, 0, none⟩) 2 2 (putL (m : Int) 2) hml2.symm (by rfl) hr6 hz1 ?_; intro v7 w7 hO7 hS7 hg7 hw7; clear tok2; have hT7 := hTL.since hS7; obtain ⟨r1, r2, r3, r4, r5⟩ := id hT7; have hC7 := HCC.out.on (hWL.trans hS7)) | (at_builtin; have _t := tok3; refine wpList_append_bw rfl (.tmp 189) (.tmp 191) rfl hS7 v7 (PP ++ ES ++ putL (m : Int) 2) (by rfl) hO7 _ B m d C HMM.out (by rfl) hC7 hz2 ?_; intro v8 w8 hO8 hS8 hg8 hw8; clear tok3))
                    have HS8 := Lib.hid hS8
                    clear hS hO hS5 hO5 hS7 hO7 hT6 hP6 hr6 hC7 hre1 hT5 hT7 hz0 hz1 hz2 hmin hml2 p1 p2 p3 p4 p5 q1 q2 q3 q4 q5 r1 r2 r3 r4 r5 hS6 hO6
                    generalize PP ++ ES ++ putL (m : Int) 2 ++ C = P0 at *
                    have HO8 := Lib.hid hO8
                    go_wp2_with fail
                    go_loopw [25, 28] (fun v y wr => ∃ (i : Nat) (P : List Int), i ≤ M ∧ y = .int .i64 (i : Int) ∧ OwnB wr wL.heap.size v (P0 ++ P) ∧ P.length ≤ i ∧ Since wL wr ∧ P ++ rle7 (FS.drop i) = rle7 FS) (fun _ y _ => M - (intOf y).toNat)
                    case atStart => exact ⟨0, [], by omega, rfl, by rw [List.append_nil]; exact HO8.out, Nat.le_refl _, HS8.out, rfl⟩
                    case round =>
                      obtain ⟨i, P, hi, rfl, hO, hP, hS, hR⟩ := hrel
                      have HR := Lib.hid hR
                      have hz3 := HZ3.out
                      clear hR hO8 hS8
                      by_cases him : i < M
                      · have him' : (i : Int) < (M : Int) := by omega
                        have hiG : i < FS.length := by rw [← HFM.out]; exact him
                        obtain ⟨hfo, hf6⟩ := HOKF.out (fnL FS i) (List.mem_of_getElem? (fnL_get hiG))
                        obtain ⟨fb, fo, rfl, gl, gc⟩ := hRF (by omega)
                        have gl2 := hS.2.2.1 _ gl
                        have g1 := (hS.1 _ _ gl).trans (gc i him)
                        simp only [I64, IntRow] at g1
                        have HGC := Lib.hid (fun j (hj : j < M) => (hS.1 _ _ gl).trans (gc j hj))
                        clear hRF gc
                        go_wp2_with fail
                        go_loopw [29] (fun z wi => ∃ r : Nat, 1 ≤ r ∧ r ≤ 256 ∧ i + r ≤ M ∧ z = .int .i64 (r : Int) ∧ Since wr wi ∧ Hid (∀ t, t < r → fnL FS (i + t) = fnL FS i)) (fun z _ => 256 - (intOf z).toNat)
                        case atStart => exact ⟨1, by omega, by omega, by omega, rfl, Since.refl _, Lib.hid (fun t ht => by rw [show t = 0 by omega]; rfl)⟩
                        case round =>
                          obtain ⟨r, hr1, hr2, hir, rfl, hSi, HS⟩ := hrel
                          have s1 := (hSi.1 _ _ gl2).trans g1
                          have gl3 := hSi.2.2.1 _ gl2
                          have hT := hS.trans hSi
                          have hw1 : IntKind.i64.wrap ((i : Int) + (r : Int)) = ((i + r : Nat) : Int) := by rw [IntKind.wrap_i64]; omega
                          by_cases hb : i + r = M
                          · have d2 : decide (((i + r : Nat) : Int) < (M : Int)) = false := by simp; omega
                            have HEND : r = 256 ∨ i + r = FS.length ∨ fnL FS (i + r) ≠ fnL FS i := .inr (.inl (by rw [hb]; exact HFM.out))
                            have hb' : (i : Int) + (r : Int) = M := by omega
                            go_wp2
                            go_quiet (fail)
                            by_cases hr0 : r = 1
                            · obtain rfl : r = 1 := by omega
                              have HRW := Lib.hid (rle7_row (G := FS) (i := i) (r := 1) hiG hr1 hr2 (by have := HFM.out; omega) HS.out HEND)
                              have hwb : IntKind.u8.wrap (fnL FS i) = fnL FS i := by rw [IntKind.wrap_u8]; have := hfo.1; have := hfo.2.1; omega
                              have hlen1 : (P0 ++ P).length + ([fnL FS i] : List Int).length ≤ 140737488355328 := by rw [List.length_append]; simp; omega
                              generalize hgy : fnL FS i = y at *
                              have hOq : OwnB (wr.drewN nq) wL.heap.size u25 (P0 ++ P) := OwnG.since hO (hSi.drewN nq)
                              clear hfo hf6 hgy HEND
                              go_wp2_with (at_builtin; refine wpList_append_b rfl (.tmp 236) (.tmp 242) rfl ((hT.drewN nq).alloc _) u25 (P0 ++ P) (by rfl) (OwnG.alloc hOq _) _ (some ⟨(wr.drewN nq).heap.size, 0, none⟩) 1 1 [y] rfl (by rfl) (rdb_new _ _ rfl _ _ _ rfl) hlen1 ?_; intro v7 w7 hO7 hS7)
                              go_roundw
                              case rel => exact ⟨i + 1, P ++ [y], by omega, by first | rfl | go_num, by rw [← List.append_assoc]; exact hO7, by rw [List.length_append]; simp; omega, hS7, by rw [← HR.out, HRW.out, if_pos rfl, List.append_assoc]⟩
                              case measure => simp [intOf]; omega
                            · have hr9 : (1 : Int) < (r : Int) := by omega
                              have HRW := Lib.hid (rle7_row (G := FS) (i := i) (r := r) hiG hr1 hr2 (by have := HFM.out; omega) HS.out HEND)
                              have hwa : IntKind.i64.wrap (fnL FS i + 8) = fnL FS i + 8 := by rw [IntKind.wrap_i64]; have := hfo.1; have := hfo.2.1; omega
                              have hwb : IntKind.u8.wrap (fnL FS i + 8) = fnL FS i + 8 := by rw [IntKind.wrap_u8]; have := hfo.1; omega
                              have hwr : IntKind.i64.wrap ((r : Int) - 1) = ((r - 1 : Nat) : Int) := by rw [IntKind.wrap_i64]; omega
                              have hwc : IntKind.u8.wrap ((r - 1 : Nat) : Int) = ((r - 1 : Nat) : Int) := by rw [IntKind.wrap_u8]; omega
                              have hlen2 : (P0 ++ P).length + ([fnL FS i + 8, ((r - 1 : Nat) : Int)] : List Int).length ≤ 140737488355328 := by rw [List.length_append]; simp; omega
                              generalize hgy : fnL FS i = y at *
                              have hOq : OwnB (wr.drewN nq) wL.heap.size u25 (P0 ++ P) := OwnG.since hO (hSi.drewN nq)
                              clear hfo hf6 hgy HEND
                              go_wp2_with (at_builtin; refine wpList_append_b rfl (.tmp 224) (.tmp 234) rfl ((hT.drewN nq).alloc _) u25 (P0 ++ P) (by rfl) (OwnG.alloc hOq _) _ (some ⟨(wr.drewN nq).heap.size, 0, none⟩) 2 2 [y + 8, ((r - 1 : Nat) : Int)] rfl (by rfl) (rdb_new _ _ rfl _ _ _ rfl) hlen2 ?_; intro v7 w7 hO7 hS7)
                              go_roundw
                              case rel => exact ⟨i + r, P ++ [y + 8, ((r - 1 : Nat) : Int)], by omega, by first | rfl | go_num, by rw [← List.append_assoc]; exact hO7, by rw [List.length_append]; simp; omega, hS7, by rw [← HR.out, HRW.out, if_neg (by omega), List.append_assoc]⟩
                              case measure => simp [intOf]; omega
                          · have d2 : decide (((i + r : Nat) : Int) < (M : Int)) = true := by simp; omega
                            have s2 := (hSi.1 _ _ gl2).trans (HGC.out (i + r) (by omega))
                            simp only [I64, IntRow] at s2
                            have hb' : i + r < M := by omega
                            have hb'' : (i : Int) + (r : Int) < M := by omega
                            by_cases hc : fnL FS (i + r) = fnL FS i
                            · rw [hc] at s2
                              by_cases ha : r = 256
                              · have d1 : decide ((r : Int) < 256) = false := by simp; omega
                                have HEND : r = 256 ∨ i + r = FS.length ∨ fnL FS (i + r) ≠ fnL FS i := .inl ha
                                have ha2 : 2 ≤ r := by omega
                                clear ha
                                go_wp2
                                go_quiet (fail)
                                have hr9 : (1 : Int) < (r : Int) := by omega
                                have HRW := Lib.hid (rle7_row (G := FS) (i := i) (r := r) hiG hr1 hr2 (by have := HFM.out; omega) HS.out HEND)
                                have hwa : IntKind.i64.wrap (fnL FS i + 8) = fnL FS i + 8 := by rw [IntKind.wrap_i64]; have := hfo.1; have := hfo.2.1; omega
                                have hwb : IntKind.u8.wrap (fnL FS i + 8) = fnL FS i + 8 := by rw [IntKind.wrap_u8]; have := hfo.1; omega
                                have hwr : IntKind.i64.wrap ((r : Int) - 1) = ((r - 1 : Nat) : Int) := by rw [IntKind.wrap_i64]; omega
                                have hwc : IntKind.u8.wrap ((r - 1 : Nat) : Int) = ((r - 1 : Nat) : Int) := by rw [IntKind.wrap_u8]; omega
                                have hlen2 : (P0 ++ P).length + ([fnL FS i + 8, ((r - 1 : Nat) : Int)] : List Int).length ≤ 140737488355328 := by rw [List.length_append]; simp; omega
                                generalize hgy : fnL FS i = y at *
                                have hOq : OwnB (wr.drewN nq) wL.heap.size u25 (P0 ++ P) := OwnG.since hO (hSi.drewN nq)
                                clear hfo hf6 hgy HEND hc
                                go_wp2_with (at_builtin; refine wpList_append_b rfl (.tmp 224) (.tmp 234) rfl ((hT.drewN nq).alloc _) u25 (P0 ++ P) (by rfl) (OwnG.alloc hOq _) _ (some ⟨(wr.drewN nq).heap.size, 0, none⟩) 2 2 [y + 8, ((r - 1 : Nat) : Int)] rfl (by rfl) (rdb_new _ _ rfl _ _ _ rfl) hlen2 ?_; intro v7 w7 hO7 hS7)
                                go_roundw
                                case rel => exact ⟨i + r, P ++ [y + 8, ((r - 1 : Nat) : Int)], by omega, by first | rfl | go_num, by rw [← List.append_assoc]; exact hO7, by rw [List.length_append]; simp; omega, hS7, by rw [← HR.out, HRW.out, if_neg (by omega), List.append_assoc]⟩
                                case measure => simp [intOf]; omega
                              · have d1 : decide ((r : Int) < 256) = true := by simp; omega
                                have HS2 := Lib.hid (show ∀ t, t < r + 1 → fnL FS (i + t) = fnL FS i from fun t ht => by
                                  by_cases e : t = r
                                  · subst e; exact hc
                                  · exact HS.out t (by omega))
                                have hwr : IntKind.i64.wrap ((r : Int) + 1) = (r : Int) + 1 := by rw [IntKind.wrap_i64]; omega
                                have hr256 : r < 256 := by omega
                                generalize fnL FS i = y at *
                                clear hc ha
                                go_wp2
                                go_quiet (fail)
                                go_wp2_with fail
                                go_roundw
                                case rel => exact ⟨r + 1, by omega, by omega, by omega, by first | rfl | go_num, by (repeat (first | with_reducible (exact Since.refl _) | with_reducible assumption | with_reducible (refine Since.drew ?_) | with_reducible (refine Since.drewN ?_ _) | with_reducible (refine Since.alloc ?_ _) | (with_reducible (refine Since.setCell ?_ ?_ _); rotate_left; focus (first | (simp; done) | (simp; omega) | omega)) | (with_reducible (refine Since.trans ?_ (by with_reducible assumption))))), HS2⟩
                                case measure => simp [intOf]; omega
                            · have HEND : r = 256 ∨ i + r = FS.length ∨ fnL FS (i + r) ≠ fnL FS i := .inr (.inr hc)
                              have d3 : (fnL FS (i + r) == fnL FS i) = false := by simpa using hc
                              obtain ⟨z, hz⟩ : ∃ z, z = fnL FS (i + r) := ⟨_, rfl⟩
                              rw [← hz] at s2 d3
                              clear hz
                              go_wp2
                              go_quiet (fail)
                              by_cases hr0 : r = 1
                              · obtain rfl : r = 1 := by omega
                                have HRW := Lib.hid (rle7_row (G := FS) (i := i) (r := 1) hiG hr1 hr2 (by have := HFM.out; omega) HS.out HEND)
                                have hwb : IntKind.u8.wrap (fnL FS i) = fnL FS i := by rw [IntKind.wrap_u8]; have := hfo.1; have := hfo.2.1; omega
                                have hlen1 : (P0 ++ P).length + ([fnL FS i] : List Int).length ≤ 140737488355328 := by rw [List.length_append]; simp; omega
                                generalize hgy : fnL FS i = y at *
                                have hOq : OwnB (wr.drewN nq) wL.heap.size u25 (P0 ++ P) := OwnG.since hO (hSi.drewN nq)
                                clear hfo hf6 hgy HEND hc
                                go_wp2_with (at_builtin; refine wpList_append_b rfl (.tmp 236) (.tmp 242) rfl ((hT.drewN nq).alloc _) u25 (P0 ++ P) (by rfl) (OwnG.alloc hOq _) _ (some ⟨(wr.drewN nq).heap.size, 0, none⟩) 1 1 [y] rfl (by rfl) (rdb_new _ _ rfl _ _ _ rfl) hlen1 ?_; intro v7 w7 hO7 hS7)
                                go_roundw
                                case rel => exact ⟨i + 1, P ++ [y], by omega, by first | rfl | go_num, by rw [← List.append_assoc]; exact hO7, by rw [List.length_append]; simp; omega, hS7, by rw [← HR.out, HRW.out, if_pos rfl, List.append_assoc]⟩
                                case measure => simp [intOf]; omega
                              · have hr9 : (1 : Int) < (r : Int) := by omega
                                have HRW := Lib.hid (rle7_row (G := FS) (i := i) (r := r) hiG hr1 hr2 (by have := HFM.out; omega) HS.out HEND)
                                have hwa : IntKind.i64.wrap (fnL FS i + 8) = fnL FS i + 8 := by rw [IntKind.wrap_i64]; have := hfo.1; have := hfo.2.1; omega
                                have hwb : IntKind.u8.wrap (fnL FS i + 8) = fnL FS i + 8 := by rw [IntKind.wrap_u8]; have := hfo.1; omega
                                have hwr : IntKind.i64.wrap ((r : Int) - 1) = ((r - 1 : Nat) : Int) := by rw [IntKind.wrap_i64]; omega
                                have hwc : IntKind.u8.wrap ((r - 1 : Nat) : Int) = ((r - 1 : Nat) : Int) := by rw [IntKind.wrap_u8]; omega
                                have hlen2 : (P0 ++ P).length + ([fnL FS i + 8, ((r - 1 : Nat) : Int)] : List Int).length ≤ 140737488355328 := by rw [List.length_append]; simp; omega
                                generalize hgy : fnL FS i = y at *
                                have hOq : OwnB (wr.drewN nq) wL.heap.size u25 (P0 ++ P) := OwnG.since hO (hSi.drewN nq)
                                clear hfo hf6 hgy HEND hc
                                go_wp2_with (at_builtin; refine wpList_append_b rfl (.tmp 224) (.tmp 234) rfl ((hT.drewN nq).alloc _) u25 (P0 ++ P) (by rfl) (OwnG.alloc hOq _) _ (some ⟨(wr.drewN nq).heap.size, 0, none⟩) 2 2 [y + 8, ((r - 1 : Nat) : Int)] rfl (by rfl) (rdb_new _ _ rfl _ _ _ rfl) hlen2 ?_; intro v7 w7 hO7 hS7)
                                go_roundw
                                case rel => exact ⟨i + r, P ++ [y + 8, ((r - 1 : Nat) : Int)], by omega, by first | rfl | go_num, by rw [← List.append_assoc]; exact hO7, by rw [List.length_append]; simp; omega, hS7, by rw [← HR.out, HRW.out, if_neg (by omega), List.append_assoc]⟩
                                case measure => simp [intOf]; omega
                      · obtain rfl : i = M := by omega
                        have e0 : P = rle7 FS := by
                          have h1 : FS.drop i = [] := List.drop_eq_nil_of_le (by rw [← HFM.out]; omega)
                          have h2 := HR.out
                          rw [h1, rle7_nil, List.append_nil] at h2
                          exact h2
                        rw [e0] at hO hP
                        clear e0
                        have hrx1 := hrx.on hS
                        have hz4 : (P0 ++ rle7 FS).length + XS.length ≤ 140737488355328 := by rw [List.length_append]; omega
                        have hz5 : (P0 ++ rle7 FS ++ XS).length + YS.length ≤ 140737488355328 := by rw [List.length_append, List.length_append]; omega
                        have tok1 : True := trivial
                        have tok2 : True := trivial
                        go_wp2_with (first | (at_builtin; have _t := tok1; refine wpList_append_bw rfl (.tmp 247) (.tmp 248) rfl hS u25 (P0 ++ rle7 FS) (by rfl) hO _ Ax _ cx XS rfl (by rfl) hrx1 hz4 ?_; intro v5 w5 hO5 hS5 hg5 hw5; clear tok1; have hry1 := hry.on hS5) | (at_builtin; have _t := tok2; refine wpList_append_bw rfl (.tmp 249) (.tmp 250) rfl hS5 v5 (P0 ++ rle7 FS ++ XS) (by rfl) hO5 _ Ay _ cy YS rfl (by rfl) hry1 hz5 ?_; intro v6 w6 hO6 hS6 hg6 hw6; clear tok2))
                        go_ret2
                        exact ⟨_, by rw [E.out]; rfl, by rw [hGB.out]; exact hO6.low hWL.below.size, hWL.trans hS6⟩

end Go.Proofs.Ytcjjcjpkmjbfkaa
