/-
  Layer 11: the law OutlineCloses, walked.
-/
import Derived.Test.YtdbenpncnkfliaaOuJ
import Derived.Test.YtdbenpncnkfliaaOuQ
namespace Go.Proofs.Ytdbenpncnkfliaa
open Go.RowKit Go.ChangeShapes Go.WideShapes Go.Deep
set_option linter.unusedVariables false

theorem mem_of_get {α : Type} {L : List α} {j : Nat} {a : α} (h : L[j]? = some a) : a ∈ L := List.mem_of_getElem? h
set_option maxRecDepth 1000000 in
set_option maxHeartbeats 32000000 in
theorem walk_outlinecloses (A : Option Addr) (n c : Nat) (X Y : Nat → Int) (O : Nat → Bool) (w : World) (h : RdK w w.heap.size A n X Y O) (hX : ∀ j, j < n → InP (X j) (Y j)) (hnm : n ≤ maxLen) :
    Calls Try.prog 5 #[.slice A n c] w fun e w' => e = .returned (.bool true) ∧ Since w w' := by
  have hn64 : (n : Int) ≤ 9223372036854775807 := by simp only [maxLen] at hnm; omega
  by_cases hn : n ≤ 300
  · have hd : decide ((300 : Int) < (n : Int)) = false := by simp; omega
    have hd2 : ¬ (300 : Int) < (n : Int) := by omega
    have HX := Lib.hid hX
    have HCH := Lib.hid (segs_chain n X Y O)
    have HEN := Lib.hid (fun (j : Nat) (hj : j < n) (ho : O j = true) (hne : segsL n X Y O ≠ []) => segs_ends n X Y O hj ho hne)
    have hll : (segsL n X Y O).length ≤ n := by
      unfold segsL
      split
      · simp
      · exact runS_len _ _ _ _ _ _ _
    clear hX
    go_enter Try.func5, Try.ntmps5
    go_wp2_with (first | (go_at_call 14; (with_reducible refine (alive11 _).mono ?_); rintro e w1 ⟨rfl, hS1⟩; have hR1 := h.on hS1; clear h) | (go_at_call 15; (with_reducible refine (ou_segs_rd A n c X Y O _ hR1 HX.out (by omega)).mono ?_); rintro e w2 ⟨A2, c2, rfl, hR2, hS2⟩; have hK2 := hR1.on hS2; have hT2 := hS1.trans hS2; clear hR1 hS1 hS2))
    generalize segsL n X Y O = L at *
    obtain ⟨m, hm⟩ : ∃ m, m = L.length := ⟨_, rfl⟩
    rw [← hm] at hll ⊢
    have HM := Lib.hid hm
    clear hm
    go_loopw [20] (fun y wr => ∃ j : Nat, j ≤ m ∧ y = .int .i64 (j : Int) ∧ Since w2 wr) (fun y _ => m - (intOf y).toNat)
    case atStart => exact ⟨0, by omega, rfl, Since.refl _⟩
    case round =>
      obtain ⟨i, hi, rfl, hSr⟩ := hrel
      by_cases him : i < m
      · have him' : (i : Int) < m := by omega
        have hml := HM.out
        obtain ⟨b, o, rfl, hb, hc⟩ := hR2 (by omega)
        have hmod : (i + 1) % m < m := Nat.mod_lt _ (by omega)
        have u1 : IntKind.i64.wrap ((i : Int) + 1) = (i : Int) + 1 := IntWalk.i64_in _ (by omega)
        have u4 : ((i : Int) + 1).tmod (m : Int) = (((i + 1) % m : Nat) : Int) := by rw [Int.tmod_eq_emod_of_nonneg (by omega), Int.natCast_emod, Int.natCast_add]; rfl
        have ha : L[i]? = some L[i] := List.getElem?_eq_getElem (by omega)
        have hbb : L[(i + 1) % m]? = some (L[(i + 1) % m]'(by omega)) := List.getElem?_eq_getElem (by omega)
        have hcl := chain_closes HCH.out.1 ha (by rw [← hml]; exact hbb)
        have hfine := HCH.out.2 _ (mem_of_get ha)
        obtain ⟨x1, x2, x3, x4, x5, x6, x7⟩ := hc i _ ha
        obtain ⟨y1, y2, y3, y4, y5, y6, y7⟩ := hc _ _ hbb
        generalize L[i] = a at *
        generalize L[(i + 1) % m]'(by omega) = q at *
        obtain ⟨ax, ay, cx, cy, bx, bz, k⟩ := a
        simp only at x1 x2 x3 x4 x5 x6 x7
        injection hcl with e1 e2
        rw [← e1] at y1
        rw [← e2] at y2
        generalize (i + 1) % m = p at *
        have x1 := (hSr.1 _ _ hb).trans x1
        have x2 := (hSr.1 _ _ hb).trans x2
        have x3 := (hSr.1 _ _ hb).trans x3
        have x4 := (hSr.1 _ _ hb).trans x4
        have x5 := (hSr.1 _ _ hb).trans x5
        have x6 := (hSr.1 _ _ hb).trans x6
        have x7 := (hSr.1 _ _ hb).trans x7
        have y1 := (hSr.1 _ _ hb).trans y1
        have y2 := (hSr.1 _ _ hb).trans y2
        have hbw := hSr.2.2.1 _ hb
        have hpI : (p : Int) < m := by omega
        have hnz : (m : Int) ≠ 0 := by omega
        clear hc ha hbb y3 y4 y5 y6 y7 e1 e2 hml q
        go_upto_region 9 with fail
        refine wp_named fun w3 hw3 => ?_
        have rS : Row w3 wr.heap.size 7 (Sf ⟨ax, ay, cx, cy, bx, bz, k⟩) := by subst hw3; exact srow wr _ rfl _ ⟨ax, ay, cx, cy, bx, bz, k⟩
        have hS3 : Since wr w3 := by subst hw3; (repeat (first | with_reducible (exact Since.refl _) | with_reducible assumption | with_reducible (refine Since.drew ?_) | with_reducible (refine Since.drewN ?_ _) | with_reducible (refine Since.alloc ?_ _) | (with_reducible (refine Since.setCell ?_ ?_ _); rotate_left; focus (first | (simp; done) | (simp; omega) | omega)) | (with_reducible (refine Since.trans ?_ (by with_reducible assumption)))))
        have y1 := (hS3.1 _ _ hbw).trans y1
        have y2 := (hS3.1 _ _ hbw).trans y2
        have hb3 := hS3.2.2.1 _ hbw
        clear hw3 x1 x2 x3 x4 x5 x6 x7 hbw
        obtain ⟨s1, s2, s3, s4, s5, s6, s7, s8⟩ := scells rS
        simp only at s1 s2 s3 s4 s5 s6 s7
        generalize wr.heap.size = r at *
        go_cut [66] (fun z wx => z = .bool false ∧ wx = w3.drew)
        case first =>
          have hf1 : sgOk ⟨ax, ay, cx, cy, bx, bz, k⟩ = true ∧ (k = true ∨ (cx = 0 ∧ cy = 0)) := by
            unfold fine at hfine
            simp only [Bool.and_eq_true, Bool.or_eq_true, beq_iff_eq] at hfine
            exact hfine
          clear hfine rS HM HCH HEN HX hK2 hR2 hT2
          obtain ⟨hok, hk⟩ := hf1
          unfold sgOk at hok
          cases k
          · obtain ⟨rfl, rfl⟩ : cx = 0 ∧ cy = 0 := by simpa using hk
            by_cases e1 : ax = bx
            · by_cases e2 : ay = bz
              · subst e1 e2; simp at hok
              · subst e1
                have e3 : (ay == bz) = false := by simp [e2]
                clear hok hk
                go_region
                all_goals (go_wp2_with fail)
                all_goals go_meet
                all_goals exact ⟨rfl, rfl⟩
            · have e3 : (ax == bx) = false := by simp [e1]
              clear hok hk
              go_region
              all_goals (go_wp2_with fail)
              all_goals go_meet
              all_goals exact ⟨rfl, rfl⟩
          · by_cases e1 : ax = bx
            · by_cases e2 : ay = bz
              · subst e1 e2
                by_cases e4 : cx = ax
                · by_cases e5 : cy = ay
                  · subst e4 e5; simp at hok
                  · subst e4
                    have e3 : (cy == ay) = false := by simp [e5]
                    clear hok hk
                    go_region
                    all_goals (go_wp2_with fail)
                    all_goals go_meet
                    all_goals exact ⟨rfl, rfl⟩
                · have e3 : (cx == ax) = false := by simp [e4]
                  clear hok hk
                  go_region
                  all_goals (go_wp2_with fail)
                  all_goals go_meet
                  all_goals exact ⟨rfl, rfl⟩
              · subst e1
                have e3 : (ay == bz) = false := by simp [e2]
                clear hok hk
                go_region
                all_goals (go_wp2_with fail)
                all_goals go_meet
                all_goals exact ⟨rfl, rfl⟩
            · have e3 : (ax == bx) = false := by simp [e1]
              clear hok hk
              go_region
              all_goals (go_wp2_with fail)
              all_goals go_meet
              all_goals exact ⟨rfl, rfl⟩
        obtain ⟨rfl, rfl⟩ := hcut
        go_wp2_with fail
        go_roundw
        case rel => exact ⟨i + 1, by omega, by go_num, (hSr.trans hS3).drew⟩
        case measure => simp [intOf]; omega
      · obtain rfl : m = i := by omega
        go_wp2_with fail
        go_loopw [70] (fun y wq => ∃ j : Nat, j ≤ n ∧ y = .int .i64 (j : Int) ∧ Since w2 wq) (fun y _ => n - (intOf y).toNat)
        case atStart => exact ⟨0, by omega, rfl, hSr⟩
        case round =>
          obtain ⟨j, hj, rfl, hSq⟩ := hrel
          by_cases hjn : j < n
          · have hjn' : (j : Int) < n := by omega
            obtain ⟨b, o, rfl, hb, hc⟩ := hK2 (by omega)
            obtain ⟨x1, x2, x3⟩ := hc j hjn
            have HEJ := Lib.hid (HEN.out j hjn)
            have x1 := (hSq.1 _ _ hb).trans x1
            have x2 := (hSq.1 _ _ hb).trans x2
            have x3 := (hSq.1 _ _ hb).trans x3
            have hbw := hSq.2.2.1 _ hb
            clear hc HEN HCH HX
            generalize X j = x at *
            generalize Y j = y at *
            generalize O j = oo at *
            go_upto_region 15 with fail
            refine wp_named fun w3 hw3 => ?_
            have rK : Row w3 wr.heap.size 3 (Kf x y oo) := by subst hw3; exact krow wr _ rfl _ _ _ _
            have hS3 : Since wr w3 := by subst hw3; (repeat (first | with_reducible (exact Since.refl _) | with_reducible assumption | with_reducible (refine Since.drew ?_) | with_reducible (refine Since.drewN ?_ _) | with_reducible (refine Since.alloc ?_ _) | (with_reducible (refine Since.setCell ?_ ?_ _); rotate_left; focus (first | (simp; done) | (simp; omega) | omega)) | (with_reducible (refine Since.trans ?_ (by with_reducible assumption)))))
            clear hw3 x1 x2 x3 hbw
            generalize wr.heap.size = rk at *
            obtain ⟨k1, k2, k3, k4⟩ := kcells rK
            go_cut [8] (fun z wx => z = .bool (!oo || decide (m = 0)) ∧ wx = w3)
            case first =>
              clear hR2 hK2 HM HEJ
              cases oo
              · go_wp2_with fail
                go_meet
                exact ⟨rfl, rfl⟩
              · by_cases hm0 : m = 0
                · subst hm0
                  go_wp2_with fail
                  go_meet
                  exact ⟨rfl, rfl⟩
                · have q1 : ((m : Int) == 0) = false := by simp; omega
                  go_wp2_with fail
                  go_meet
                  exact ⟨by simp [hm0], rfl⟩
            obtain ⟨rfl, rfl⟩ := hcut
            go_wp2_with fail
            go_loopw [8, 84] (fun v z wt => ∃ (i : Nat) (bv : Bool), i ≤ m ∧ z = .int .i64 (i : Int) ∧ v = .bool bv ∧ Since wc wt ∧ Hid (bv = true ∨ (oo = true ∧ m ≠ 0 ∧ ∀ i' a, i' < i → L[i']? = some a → ¬ (a.ax = x ∧ a.ay = y)))) (fun _ z _ => m - (intOf z).toNat)
            case atStart =>
              refine ⟨0, _, by omega, rfl, rfl, Since.refl _, Lib.hid ?_⟩
              cases oo
              · exact .inl rfl
              · by_cases hm0 : m = 0
                · exact .inl (by simp [hm0])
                · exact .inr ⟨rfl, hm0, fun i' a h => absurd h (by omega)⟩
            case round =>
              obtain ⟨i, bv, hi, rfl, rfl, hSt, HB⟩ := hrel
              have rKt := rK.since hSt
              clear k1 k2 k3 k4
              obtain ⟨k1, k2, k3, k4⟩ := kcells rKt
              by_cases him : i < m
              · have him' : (i : Int) < m := by omega
                have hml := HM.out
                obtain ⟨b2, o2, rfl, hb2, hc2⟩ := hR2 (by omega)
                have ha : L[i]? = some L[i] := List.getElem?_eq_getElem (by omega)
                have HA := Lib.hid ha
                obtain ⟨x1, x2, x3, x4, x5, x6, x7⟩ := hc2 i _ ha
                generalize L[i] = a at *
                obtain ⟨ax, ay, cx, cy, bx, bz, k⟩ := a
                simp only at x1 x2 x3 x4 x5 x6 x7
                have hSu := (hSq.trans hS3).trans hSt
                have x1 := (hSu.1 _ _ hb2).trans x1
                have x2 := (hSu.1 _ _ hb2).trans x2
                have x3 := (hSu.1 _ _ hb2).trans x3
                have x4 := (hSu.1 _ _ hb2).trans x4
                have x5 := (hSu.1 _ _ hb2).trans x5
                have x6 := (hSu.1 _ _ hb2).trans x6
                have x7 := (hSu.1 _ _ hb2).trans x7
                have hbw := hSu.2.2.1 _ hb2
                clear hc2 ha hml hR2 hK2
                go_upto_region 19 with fail
                refine wp_named fun w4 hw4 => ?_
                have rS : Row w4 wr.heap.size 7 (Sf ⟨ax, ay, cx, cy, bx, bz, k⟩) := by subst hw4; exact srow wr _ rfl _ ⟨ax, ay, cx, cy, bx, bz, k⟩
                have hS4 : Since wr w4 := by subst hw4; (repeat (first | with_reducible (exact Since.refl _) | with_reducible assumption | with_reducible (refine Since.drew ?_) | with_reducible (refine Since.drewN ?_ _) | with_reducible (refine Since.alloc ?_ _) | (with_reducible (refine Since.setCell ?_ ?_ _); rotate_left; focus (first | (simp; done) | (simp; omega) | omega)) | (with_reducible (refine Since.trans ?_ (by with_reducible assumption)))))
                have rK4 := rKt.since hS4
                clear hw4 x1 x2 x3 x4 x5 x6 x7 hbw k1 k2 k3 k4
                obtain ⟨s1, s2, s3, s4, s5, s6, s7, s8⟩ := scells rS
                simp only at s1 s2 s3 s4 s5 s6 s7
                obtain ⟨k1, k2, k3, k4⟩ := kcells rK4
                generalize wr.heap.size = r at *
                have hSn := hSt.trans hS4
                cases bv
                · by_cases e1 : ax = x
                  · by_cases e2 : ay = y
                    · subst e1 e2
                      go_wp2_with fail
                      go_roundw
                      case rel => exact ⟨i + 1, true, by omega, by go_num, rfl, hSn, Lib.hid (.inl rfl)⟩
                      case measure => simp [intOf]; omega
                    · have e3 : (ay == y) = false := by simp [e2]
                      subst e1
                      go_wp2_with fail
                      go_roundw
                      case rel =>
                        refine ⟨i + 1, false, by omega, by go_num, rfl, hSn, Lib.hid ?_⟩
                        rcases HB.out with h | ⟨h1, h2, h3⟩
                        · cases h
                        · refine .inr ⟨h1, h2, fun i' a hi' hg => ?_⟩
                          by_cases e : i' = i
                          · subst e; rw [HA.out] at hg; injection hg with hg; subst hg; exact fun h => e2 h.2
                          · exact h3 i' a (by omega) hg
                      case measure => simp [intOf]; omega
                  · have e3 : (ax == x) = false := by simp [e1]
                    go_wp2_with fail
                    go_roundw
                    case rel =>
                      refine ⟨i + 1, false, by omega, by go_num, rfl, hSn, Lib.hid ?_⟩
                      rcases HB.out with h | ⟨h1, h2, h3⟩
                      · cases h
                      · refine .inr ⟨h1, h2, fun i' a hi' hg => ?_⟩
                        by_cases e : i' = i
                        · subst e; rw [HA.out] at hg; injection hg with hg; subst hg; exact fun h => e1 h.1
                        · exact h3 i' a (by omega) hg
                    case measure => simp [intOf]; omega
                · go_wp2_with fail
                  go_roundw
                  case rel => exact ⟨i + 1, true, by omega, by go_num, rfl, hSn, Lib.hid (.inl rfl)⟩
                  case measure => simp [intOf]; omega
              · obtain rfl : m = i := by omega
                have hbv : bv = true := by
                  rcases HB.out with h | ⟨h1, h2, h3⟩
                  · exact h
                  · obtain ⟨a, ha, e1, e2⟩ := HEJ.out h1 (fun e => h2 (by rw [HM.out, e]; rfl))
                    obtain ⟨i', hi', hg⟩ := List.getElem_of_mem ha
                    exact absurd ⟨e1, e2⟩ (h3 i' a (by rw [HM.out]; exact hi') (by rw [List.getElem?_eq_getElem hi', hg]))
                subst hbv
                go_wp2_with fail
                go_roundw
                case rel => exact ⟨j + 1, by omega, by go_num, (hSq.trans hS3).trans hSt⟩
                case measure => simp [intOf]; omega
          · obtain rfl : j = n := by omega
            go_wp2_with fail
            go_ret
            exact ⟨rfl, hT2.trans hSq⟩
  · have hd : decide ((300 : Int) < (n : Int)) = true := by simp; omega
    have hd2 : (300 : Int) < (n : Int) := by omega
    go_enter Try.func5, Try.ntmps5
    go_wp2_with (go_at_call 14; (with_reducible refine (alive11 _).mono ?_); rintro e w1 ⟨rfl, hS1⟩)
    go_ret
    exact ⟨rfl, by (repeat (first | with_reducible (exact Since.refl _) | with_reducible assumption | with_reducible (refine Since.drew ?_) | with_reducible (refine Since.drewN ?_ _) | with_reducible (refine Since.alloc ?_ _) | (with_reducible (refine Since.setCell ?_ ?_ _); rotate_left; focus (first | (simp; done) | (simp; omega) | omega)) | (with_reducible (refine Since.trans ?_ (by with_reducible assumption)))))⟩
end Go.Proofs.Ytdbenpncnkfliaa
