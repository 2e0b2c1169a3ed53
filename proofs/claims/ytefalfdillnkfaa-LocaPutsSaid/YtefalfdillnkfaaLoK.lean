/-
  Layer 6: the reference's 'PutMetrics', walked.
-/
import Derived.Test.YtefalfdillnkfaaLoJ
namespace Go.Proofs.Ytefalfdillnkfaa
open Go.RowKit
set_option linter.unusedVariables false

theorem fit_bad {X Y : Nat → Int} {j : Nat} (h : X j < 0 ∨ (0 ≤ X j ∧ 65535 < X j) ∨ (0 ≤ X j ∧ X j ≤ 65535 ∧ Y j < -32768) ∨ (0 ≤ X j ∧ X j ≤ 65535 ∧ -32768 ≤ Y j ∧ 32767 < Y j)) : fitM X Y j = false := by
  cases hb : fitM X Y j with
  | false => rfl
  | true => have := fitM_iff.1 hb; omega
set_option maxRecDepth 100000 in
set_option maxHeartbeats 8000000 in
theorem ref_putmetrics (A : Option Addr) (n d : Nat) (X Y : Nat → Int) (c : Int) (w : World) (h : Rd w w.heap.size A (n * 2) (MtV X Y)) (hXY : ∀ j, j < n → In64 (X j) ∧ In64 (Y j)) (hn : n ≤ maxLen) :
    Calls Try.prog 23 #[.slice A n d, .int .i64 c] w (PmPost X Y n c w) := by
  obtain ⟨i0, hi0, hz0, hz1, hz2⟩ := info_parts Try.info_u8
  have hn' : (n : Int) ≤ 9223372036854775807 := by simp only [maxLen] at hn; omega
  by_cases hbad : n < 1 ∨ 1024 < n ∨ c < 1 ∨ (n : Int) < c
  · have E := Lib.hid (show pmE X Y n c = 2 by unfold pmE; rw [if_pos hbad])
    have hb := pm_bad hbad
    clear hbad h
    rcases hb with h1 | ⟨h1, h2⟩ | ⟨h1, h2, h3⟩ | ⟨h1, h2, h3, h4⟩
    all_goals
      go_enter Try.func23, Try.ntmps23
      go_wp2
      go_ret2
      exact pm_post E.out rfl Rd.zero (by (repeat (first | with_reducible (exact Since.refl _) | with_reducible assumption | with_reducible (refine Since.drew ?_) | with_reducible (refine Since.drewN ?_ _) | with_reducible (refine Since.alloc ?_ _) | (with_reducible (refine Since.setCell ?_ ?_ _); rotate_left; focus (first | (simp; done) | (simp; omega) | omega)) | (with_reducible (refine Since.trans ?_ (by with_reducible assumption))))))
  have hE := pm_yes (X := X) (Y := Y) hbad
  obtain ⟨C, rfl⟩ : ∃ C : Nat, c = C := ⟨c.toNat, by omega⟩
  have hn1 : (1 : Int) ≤ n := by omega
  have hn2 : (n : Int) ≤ 1024 := by omega
  have hC1 : (1 : Int) ≤ C := by omega
  have hC2 : (C : Int) ≤ n := by omega
  rw [Int.toNat_natCast] at hE
  have dC : decide (n < C) = false := by simp; omega
  have HE := Lib.hid hE; have HH := Lib.hid h
  clear hE hbad h
  go_enter Try.func23, Try.ntmps23
  go_wp2
  go_loopw [31] (fun y wr => ∃ j : Nat, j ≤ n ∧ y = .int .i64 (j : Int) ∧ Since w wr ∧ allB (fitM X Y) j = true) (fun y _ => n - (intOf y).toNat)
  case atStart => exact ⟨0, by omega, rfl, Since.refl _, rfl⟩
  case round =>
    obtain ⟨j, hj, rfl, hSr, hall⟩ := hrel
    have HA := Lib.hid hall; clear hall
    by_cases hjn : j < n
    · have hjn' : (j : Int) < n := by omega
      obtain ⟨b, o, rfl, hb, hcc⟩ := HH.out (by omega)
      have m1 : wr.cell? ⟨b, o + j * 2, none⟩ = some (.int .i64 (X j)) := (hSr.1 _ _ hb).trans ((hcc (j * 2) (by omega)).trans (by rw [mtv_even]))
      have m2 : wr.cell? ⟨b, o + j * 2 + 1, none⟩ = some (.int .i64 (Y j)) := (hSr.1 _ _ hb).trans ((hcc (j * 2 + 1) (by omega)).trans (by rw [mtv_odd]))
      by_cases hf : fitM X Y j = true
      · have HF := Lib.hid (allB_next HA.out hf)
        have hfit := fitM_iff.1 hf
        generalize X j = x at *
        generalize Y j = y at *
        obtain ⟨f1, f2, f3, f4⟩ := hfit
        clear hcc hf
        go_wp2
        exact ⟨⟨j + 1, by omega, by simp, by (repeat (first | with_reducible (exact Since.refl _) | with_reducible assumption | with_reducible (refine Since.drew ?_) | with_reducible (refine Since.drewN ?_ _) | with_reducible (refine Since.alloc ?_ _) | (with_reducible (refine Since.setCell ?_ ?_ _); rotate_left; focus (first | (simp; done) | (simp; omega) | omega)) | (with_reducible (refine Since.trans ?_ (by with_reducible assumption))))), HF.out⟩, by simp [intOf]; omega⟩
      · have hno : fitM X Y j = false := by simpa using hf
        have E := Lib.hid (show pmE X Y n C = 6 by rw [HE.out, allB_no hno hjn]; rfl)
        have hcase : X j < 0 ∨ (0 ≤ X j ∧ 65535 < X j) ∨ (0 ≤ X j ∧ X j ≤ 65535 ∧ Y j < -32768) ∨ (0 ≤ X j ∧ X j ≤ 65535 ∧ -32768 ≤ Y j ∧ 32767 < Y j) := by
          have h2 : ¬ (0 ≤ X j ∧ X j ≤ 65535 ∧ -32768 ≤ Y j ∧ Y j ≤ 32767) := fun hh => hf (fitM_iff.2 hh)
          omega
        generalize X j = x at *
        generalize Y j = y at *
        clear hcc hf hno
        rcases hcase with k1 | ⟨k1, k2⟩ | ⟨k1, k2, k3⟩ | ⟨k1, k2, k3, k4⟩
        all_goals
          go_wp2
          go_ret2
          exact pm_post E.out rfl Rd.zero (by (repeat (first | with_reducible (exact Since.refl _) | with_reducible assumption | with_reducible (refine Since.drew ?_) | with_reducible (refine Since.drewN ?_ _) | with_reducible (refine Since.alloc ?_ _) | (with_reducible (refine Since.setCell ?_ ?_ _); rotate_left; focus (first | (simp; done) | (simp; omega) | omega)) | (with_reducible (refine Since.trans ?_ (by with_reducible assumption))))))
    · obtain rfl : j = n := by omega
      have HF := Lib.hid HA.out
      clear hjn HA
      go_wp2
      refine wp_named fun w4 hw4 => ?_
      have hT4 : Since w w4 := by subst hw4; exact hSr
      have HK := Lib.hid (HH.out.on hT4)
      clear hw4 hSr
      go_loopw [8, 56] (fun v y wr => ∃ i : Nat, i ≤ j ∧ y = .int .i64 (i : Int) ∧ Since w4 wr ∧ wr.ownsRow w4.heap.size 5 1 v (pmP C i) (tab (pmP C i) (U8 (pmF X Y C))) ∧ allB (samA X C) i = true) (fun _ y _ => j - (intOf y).toNat)
      case atStart => exact ⟨0, by omega, rfl, Since.refl _, pm_start w4 w4.heap.size C _, rfl⟩
      case round =>
        obtain ⟨i, hi, rfl, hSr, hown, hall⟩ := hrel
        have HS := Lib.hid hall; clear hall
        obtain ⟨vA, vc, rfl, hvc, hvr, hvb⟩ := own_any hown
        by_cases hin : i < j
        · have hin' : (i : Int) < j := by omega
          obtain ⟨b, o, rfl, hb, hcc⟩ := HK.out (by omega)
          have m1 : wr.cell? ⟨b, o + i * 2, none⟩ = some (.int .i64 (X i)) := (hSr.1 _ _ hb).trans ((hcc (i * 2) (by omega)).trans (by rw [mtv_even]))
          have m2 : wr.cell? ⟨b, o + i * 2 + 1, none⟩ = some (.int .i64 (Y i)) := (hSr.1 _ _ hb).trans ((hcc (i * 2 + 1) (by omega)).trans (by rw [mtv_odd]))
          have m3 : wr.cell? ⟨b, o + (C - 1) * 2, none⟩ = some (.int .i64 (X (C - 1))) := (hSr.1 _ _ hb).trans ((hcc ((C - 1) * 2) (by omega)).trans (by rw [mtv_even]))
          have hbn : b < wr.heap.size := Nat.lt_of_lt_of_le hb hSr.below.size
          have hfit := fitM_iff.1 (allB_iff.1 HF.out i hin)
          have hle := pmP_le C i
          have bnd1 : (pmP C i + 2) * 1 ≤ 140737488355328 := by omega
          have bnd2 : pmP C i + 2 ≤ maxLen := by simp only [maxLen]; omega
          have bnd3 : (pmP C i + 2 + 2) * 1 ≤ 140737488355328 := by omega
          have bnd4 : pmP C i + 2 + 2 ≤ maxLen := by simp only [maxLen]; omega
          have hlt : ∀ g, (Value.slice vA (pmP C i) vc).ownBlock = some g → g < wr.heap.size := fun g hg => own_lt hown hg
          have N1 := Lib.hid (fun hh => pm_next1 X Y C i hh); have N2 := Lib.hid (fun hh => pm_next2 X Y C i hh)
          have HL := Lib.hid hlt; have HV := Lib.hid hvb; have HO := Lib.hid hown
          by_cases hiC : i < C
          · have hsam : samA X C i = true := by unfold samA; rw [decide_eq_true hiC]; rfl
            have HS2 := Lib.hid (allB_next HS.out hsam)
            have hjC' : (i : Int) < C := by omega
            have d0 : decide ((C : Int) ≤ i) = false := by simp; omega
            have d1 : decide (C ≤ i) = false := by simp; omega
            have HN := Lib.hid (N1.out hiC)
            generalize X i = x at *
            generalize Y i = y at *
            generalize hP : pmP C i = P at *
            obtain ⟨f1, f2, f3, f4⟩ := hfit
            have tok1 := True.intro
            clear hcc hlt hle hvr hvb hown hP N1 N2 m3 hiC hsam
            go_wp2_with fail
            go_quiet (fail)
            go_wp2_with (first | (go_at_call 30; have _t := tok1; refine (rput_in 2 x _ _ (by unfold In64; omega) (by rfl) (by omega)).mono ?_; rintro e w5 ⟨g5, rfl, hg5, hR5, hS5⟩; have hs5 : Since wr w5 := (by (repeat (first | with_reducible (exact Since.refl _) | with_reducible assumption | with_reducible (refine Since.drew ?_) | with_reducible (refine Since.drewN ?_ _) | with_reducible (refine Since.alloc ?_ _) | (with_reducible (refine Since.setCell ?_ ?_ _); rotate_left; focus (first | (simp; done) | (simp; omega) | omega)) | (with_reducible (refine Since.trans ?_ (by with_reducible assumption)))))); have hown5 := own_since HO.out hs5; have hr5 := Rd.of_row hR5; have hT5 := hSr.trans hs5; have hq1 : w4.heap.size ≤ w5.heap.size := hT5.below.size; have hb5 : wr.heap.size < w5.heap.size := (by have := hS5.below.size; simp at this; omega); have hc5 : w5.cell? ⟨wr.heap.size, 1, none⟩ = some (.int .i64 y) := (hS5.1 _ 1 (by simp)).trans (show (wr.alloc (.cells #[.int .i64 x, .int .i64 y] 52)).cell? _ = _ from (by rw [World.cell?_alloc_new]; rfl)); clear tok1 hR5 HO; have tok2 := True.intro) | (at_builtin; have _t := tok2; refine wpList_append_any _ (by rfl) _ _ _ (by rfl) w4.heap.size 5 i0 _ 1 Try.underlying22 hi0 hz0 hz1 hz2 (by rfl) _ P _ (by rfl) hown5 _ _ 2 2 _ (by rfl) hr5 tab_ones bnd1 bnd2 hq1 ?_; intro v6' w6 hown6 hgr6; obtain ⟨A6, c6, rfl, hcc6, _, hvb6⟩ := own_shape hown6; have HV6 := Lib.hid hvb6; clear hvb6; have hT6 : Since w4 w6 := since_grown hT5 hgr6 HV.out; have hc6 : w6.cell? ⟨wr.heap.size, 1, none⟩ = some (.int .i64 y) := (grown_cell hgr6 hb5 (fun e => absurd (HL.out _ e) (Nat.lt_irrefl _)) 1).trans hc5; clear hown5 hgr6 hc5 tok2 hr5; have tok3 := True.intro) | (go_at_call 30; have _t := tok3; refine (rput_in 2 y _ _ (by unfold In64; omega) (by rfl) (by omega)).mono ?_; rintro e w7 ⟨g7, rfl, hg7, hR7, hS7⟩; have hown7 := own_since hown6 hS7; have hr7 := Rd.of_row hR7; have hT7 := hT6.trans hS7; have hq2 : w4.heap.size ≤ w7.heap.size := hT7.below.size; clear tok3 hR7 hown6; have tok4 := True.intro) | (at_builtin; have _t := tok4; refine wpList_append_any _ (by rfl) _ _ _ (by rfl) w4.heap.size 5 i0 _ 1 Try.underlying22 hi0 hz0 hz1 hz2 (by rfl) _ (P + 2) _ (by rfl) hown7 _ _ 2 2 _ (by rfl) hr7 tab_ones bnd3 bnd4 hq2 ?_; intro v8 w8 hown8 hgr8; have hT8 : Since w4 w8 := since_grown hT7 hgr8 HV6.out; clear hown7 hgr8 tok4 hr7))
            have hnx := HN.out
            have hl := congrArg List.length hnx
            simp only [List.length_append, tab_len] at hl
            rw [hnx, hl] at hown8
            exact ⟨⟨i + 1, by omega, by simp, hT8, hown8, HS2.out⟩, by simp [intOf]; omega⟩
          · have hjC' : ¬ (i : Int) < C := by omega
            have d0 : decide ((C : Int) ≤ i) = true := by simp; omega
            have d1 : decide (C ≤ i) = true := by simp; omega
            have e2 : IntKind.i64.wrap ((C : Int) - 1) = ((C - 1 : Nat) : Int) := by rw [IntWalk.i64_in _ (by omega)]; omega
            have i2 : ((C - 1 : Nat) : Int) < j := by omega
            have hsm : samA X C i = (X i == X (C - 1)) := by unfold samA; rw [decide_eq_false hiC]; rfl
            have HN := Lib.hid (N2.out (by omega))
            by_cases hxx : X i = X (C - 1)
            · have HS2 := Lib.hid (allB_next HS.out (show samA X C i = true by rw [hsm]; simpa using hxx))
              rw [← hxx] at m3
              generalize X i = x at *
              generalize Y i = y at *
              generalize hP : pmP C i = P at *
              obtain ⟨f1, f2, f3, f4⟩ := hfit
              obtain ⟨D, hD⟩ : ∃ D, C - 1 = D := ⟨_, rfl⟩
              rw [hD] at m3 e2 i2
              have i3 : (0 : Int) ≤ D := by omega
              have tok1 := True.intro
              clear hcc hlt hle hvr hvb hown hP N1 N2 hiC hxx hsm hD
              go_wp2_with fail
              go_quiet (fail)
              go_wp2_with (first | (go_at_call 30; have _t := tok1; refine (rput_in 2 y _ _ (by unfold In64; omega) (by rfl) (by omega)).mono ?_; rintro e w5 ⟨g5, rfl, hg5, hR5, hS5⟩; have hs5 : Since wr w5 := (by (repeat (first | with_reducible (exact Since.refl _) | with_reducible assumption | with_reducible (refine Since.drew ?_) | with_reducible (refine Since.drewN ?_ _) | with_reducible (refine Since.alloc ?_ _) | (with_reducible (refine Since.setCell ?_ ?_ _); rotate_left; focus (first | (simp; done) | (simp; omega) | omega)) | (with_reducible (refine Since.trans ?_ (by with_reducible assumption)))))); have hown5 := own_since HO.out hs5; have hr5 := Rd.of_row hR5; have hT5 := hSr.trans hs5; have hq1 : w4.heap.size ≤ w5.heap.size := hT5.below.size; clear tok1 hR5 HO; have tok2 := True.intro) | (at_builtin; have _t := tok2; refine wpList_append_any _ (by rfl) _ _ _ (by rfl) w4.heap.size 5 i0 _ 1 Try.underlying22 hi0 hz0 hz1 hz2 (by rfl) _ P _ (by rfl) hown5 _ _ 2 2 _ (by rfl) hr5 tab_ones bnd1 bnd2 hq1 ?_; intro v6 w6 hown6 hgr6; have hT6 : Since w4 w6 := since_grown hT5 hgr6 HV.out; clear hown5 hgr6 tok2 hr5))
              have hnx := HN.out
              have hl := congrArg List.length hnx
              simp only [List.length_append, tab_len] at hl
              rw [hnx, hl] at hown6
              exact ⟨⟨i + 1, by omega, by simp, hT6, hown6, HS2.out⟩, by simp [intOf]; omega⟩
            · have hno : samA X C i = false := by rw [hsm]; simpa using hxx
              have E := Lib.hid (show pmE X Y j C = 4 by rw [HE.out, HF.out, allB_no hno hin]; rfl)
              have dx : (X i != X (C - 1)) = true := by simpa using hxx
              generalize X i = x at *
              generalize X (C - 1) = z at *
              generalize Y i = y at *
              obtain ⟨D, hD⟩ : ∃ D, C - 1 = D := ⟨_, rfl⟩
              rw [hD] at m3 e2 i2
              have i3 : (0 : Int) ≤ D := by omega
              clear hcc hlt hle hvr hvb hown N1 N2 hiC hxx hsm hD hno hfit
              go_wp2_with fail
              go_quiet (fail)
              go_wp2
              go_ret2
              exact pm_post E.out rfl Rd.zero (hT4.trans (by (repeat (first | with_reducible (exact Since.refl _) | with_reducible assumption | with_reducible (refine Since.drew ?_) | with_reducible (refine Since.drewN ?_ _) | with_reducible (refine Since.alloc ?_ _) | (with_reducible (refine Since.setCell ?_ ?_ _); rotate_left; focus (first | (simp; done) | (simp; omega) | omega)) | (with_reducible (refine Since.trans ?_ (by with_reducible assumption)))))))
        · obtain rfl : i = j := by omega
          have E := Lib.hid (show pmE X Y i C = 0 by rw [HE.out, HF.out, HS.out]; rfl)
          clear HK
          go_wp2
          go_ret2
          exact pm_post E.out rfl (by rw [Int.toNat_natCast]; exact hvr) (hT4.trans hSr)
end Go.Proofs.Ytefalfdillnkfaa
