/-
  Layer 9: the document's all tables, with those that are made.
-/
import Derived.Test.YteckkcpnfeoehaaGreatDoorMpZ
import Derived.Test.YteckkcpnfeoehaaGreatDoorMpK
namespace Go.Proofs.YteckkcpnfeoehaaGreatDoor
set_option maxRecDepth 100000
open Go.RowKit Go.ChangeShapes Go.WideShapes Go.Deep
set_option linter.unusedVariables false
set_option linter.unusedSimpArgs false

theorem rlocw9 (F : Fn9) (A : Option Addr) (c N : Nat) (hN : N = F.GG.length + 1) (w : World) (h : RdI w w.heap.size A (plA F.GG)) (hs : sumB F.GG ≤ 140737488355328) (hg : F.GG.length ≤ 70000) :
    Calls Tryz.prog 72 #[.slice A N c, .bool F.h.l] w fun e w' => ∃ A' c', e = .returned (.tuple #[.slice A' (locB F).length c', .int .i64 (locE F)]) ∧ RdB w' w'.heap.size A' (locB F) ∧ Since w w' := by
  subst hN
  have hn : (F.GG.length + 1) * 8 ≤ 140737488355328 := by omega
  have h2 := plA_rd h
  have hf : ∀ j, j < F.GG.length + 1 → In64 (pl9 F.GG j) := fun j _ => pl9_in F.GG hs j
  rw [locB_len]
  unfold locE locB
  have key : ∀ {l : Bool} {e w'}, WrPost l (pl9 F.GG) (F.GG.length + 1) w e w' → ∃ A' c', e = .returned (.tuple #[.slice A' (wrN l (pl9 F.GG) (F.GG.length + 1)) c', .int .i64 (wrE l (pl9 F.GG) (F.GG.length + 1))]) ∧ RdB w' w'.heap.size A' ((List.range (wrN l (pl9 F.GG) (F.GG.length + 1))).map (wrF l (pl9 F.GG))) ∧ Since w w' := by
    rintro l e w' ⟨A', c', rfl, hO, hS⟩
    exact ⟨A', c', rfl, rdb_map (own_rd hO).2.1, hS⟩
  cases F.h.l
  · exact (ref_write2 A (F.GG.length + 1) c (pl9 F.GG) w hn hf h2).mono fun _ _ => key
  · exact (ref_write4 A (F.GG.length + 1) c (pl9 F.GG) w hn hf h2).mono fun _ _ => key
theorem rmetw (Am : Option Addr) (cm : Nat) (F : Fn9) (n : Nat) (hn : n = F.MM.length) (w : World) (h : Rd w w.heap.size Am (F.MM.length * 2) (MtV (mtX F.MM) (mtY F.MM))) (hW : ∀ j, j < F.MM.length → In64 (mtX F.MM j) ∧ In64 (mtY F.MM j)) (hl : F.MM.length ≤ maxLen) :
    Calls Tryz.prog 73 #[.slice Am n cm, .int .i64 F.ct] w fun e w' => ∃ A' c', e = .returned (.tuple #[.slice A' (hmtB F).length c', .int .i64 (hmtE F)]) ∧ RdB w' w'.heap.size A' (hmtB F) ∧ Since w w' := by
  subst hn
  refine (ref_putmetrics Am F.MM.length cm (mtX F.MM) (mtY F.MM) F.ct w h hW hl).mono ?_
  rintro e w' ⟨A', c', rfl, hr, hS⟩
  exact ⟨A', c', by rw [hmtB_len]; rfl, rdb_map hr, hS⟩
theorem flat_next {GG : List (List Int)} {j : Nat} {L : List Int} (hj : GG[j]? = some L) : (GG.take (j + 1)).flatten = (GG.take j).flatten ++ L := by
  have hl : j < GG.length := by
    rcases Nat.lt_or_ge j GG.length with h | h
    · exact h
    · rw [List.getElem?_eq_none h] at hj; cases hj
  have hT : GG[j] = L := by rw [List.getElem?_eq_getElem hl] at hj; exact Option.some.inj hj
  rw [List.take_succ_eq_append_getElem hl, List.flatten_append, hT]; simp
theorem flat_take_le (GG : List (List Int)) (j : Nat) : (GG.take j).flatten.length ≤ sumB GG := by
  have := pl9_le GG j
  unfold pl9 at this
  rw [flat_len]
  omega
set_option maxRecDepth 1000000 in
set_option maxHeartbeats 32000000 in
theorem rf_all9 (x : Fh) (F : Fn9) (C : Array Value) (hC : C = fnV x F) (w : World) (hR : FnR w w.heap.size x F) (hG : NoGr F) (hW : FnW F) :
    Calls Tryz.prog 32 #[.agg C] w (TabP F w) := by
  have HP0 := fun (w2 : World) (h2 : Since w w2) (C2 : Array Value) (hC2 : CV x F C2) => rf_places9 x F C2 hC2 w2 (hR.on h2) hG
  obtain ⟨xAt, xct, xAm, xcm, xAg, xcg⟩ := x
  have hT : RdTL w w.heap.size xAt F.TT := hR.tabs
  have hM : Rd w w.heap.size xAm (F.MM.length * 2) (MtV (mtX F.MM) (mtY F.MM)) := hR.mets
  have hQ : RdBL w w.heap.size xAg F.GG := hR.glys
  have hg1 := hG.glys
  have hg2 := hG.sumG
  have hg3 := hG.mets
  have hg4 := hG.tabs
  have HBX := Lib.hid (fun (t : TypeId) => (fn_box (x := ⟨xAt, xct, xAm, xcm, xAg, xcg⟩) (nt := F.TT.length) (h := F.h) (m := F.m) (nm := F.MM.length) (ct := F.ct) (ng := F.GG.length) w w.heap.size rfl t))
  have HC := Lib.hid (show C = (fnC ⟨xAt, xct, xAm, xcm, xAg, xcg⟩ F.TT.length F.h F.m F.MM.length F.ct F.GG.length).toArray from hC)
  have HP := Lib.hid (fun (w2 : World) (h2 : Since w w2) => HP0 w2 h2 (fnA ⟨xAt, xct, xAm, xcm, xAg, xcg⟩ F.TT.length F.h F.m F.MM.length F.ct F.GG.length) rfl)
  unfold fnA at HP
  clear HP0
  have HLW := Lib.hid (fun (A : Option Addr) (c N : Nat) (w2 : World) (hN : N = F.GG.length + 1) (h : RdI w2 w2.heap.size A (plA F.GG)) => rlocw9 F A c N hN w2 h (by omega) (by omega))
  have HMW := Lib.hid (fun (w2 : World) (h2 : Since w w2) => rmetw xAm xcm F F.MM.length rfl w2 (hM.on h2) hW.mets (by simp only [maxLen]; omega))
  have hf0 := few_nogr hG
  have HW1 := Lib.hid (fun (A : Option Addr) (d : Nat) (w2 : World) (h2 : Since w w2) (hr : RdB w2 w2.heap.size A (locB F)) => rf_with4 xAt F.TT.length xct F.TT tgLoca A (locB F).length d (locB F) w2 (hT.on h2) rfl hf0 hr rfl (locB_few hG))
  have hf1 := few_with (T := ⟨tgLoca, locB F⟩) hf0 (by omega) (locB_few hG) (show tgLoca.size ≤ maxLen by decide)
  have hl1 := len_with F.TT ⟨tgLoca, locB F⟩
  have HW2 := Lib.hid (fun (A : Option Addr) (N c : Nat) (B : Option Addr) (m d : Nat) (w2 : World) (h : RdTL w2 w2.heap.size A (withT F.TT ⟨tgLoca, locB F⟩)) (hN : N = (withT F.TT ⟨tgLoca, locB F⟩).length) (hm : m = F.GG.flatten.length) (hr : RdB w2 w2.heap.size B F.GG.flatten) => rf_with4 A N c _ tgGlyf B m d F.GG.flatten w2 h hN hf1 hr hm (by rw [flat_len]; omega))
  have hf2 := few_with (T := ⟨tgGlyf, F.GG.flatten⟩) hf1 (by omega) (by show F.GG.flatten.length ≤ 1000000; rw [flat_len]; omega) (show tgGlyf.size ≤ maxLen by decide)
  have hl2 := len_with (withT F.TT ⟨tgLoca, locB F⟩) ⟨tgGlyf, F.GG.flatten⟩
  have HW3 := Lib.hid (fun (A : Option Addr) (N c : Nat) (B : Option Addr) (d : Nat) (w2 : World) (h : RdTL w2 w2.heap.size A (withT (withT F.TT ⟨tgLoca, locB F⟩) ⟨tgGlyf, F.GG.flatten⟩)) (hN : N = (withT (withT F.TT ⟨tgLoca, locB F⟩) ⟨tgGlyf, F.GG.flatten⟩).length) (hr : RdB w2 w2.heap.size B (hmtB F)) => rf_with4 A N c _ tgHmtx B (hmtB F).length d (hmtB F) w2 h hN hf2 hr rfl (hmtB_few hG))
  have HE : Hid (allE F = if locE F ≠ 0 then locE F else hmtE F) := Lib.hid rfl
  have HALL := Lib.hid (show all9 F = withT (withT (withT F.TT ⟨tgLoca, locB F⟩) ⟨tgGlyf, F.GG.flatten⟩) ⟨tgHmtx, hmtB F⟩ from rfl)
  obtain ⟨T1, hT1⟩ : ∃ T1, T1 = withT F.TT ⟨tgLoca, locB F⟩ := ⟨_, rfl⟩
  rw [← hT1] at HW1 HW2 HW3 HALL
  obtain ⟨T2, hT2⟩ : ∃ T2, T2 = withT T1 ⟨tgGlyf, F.GG.flatten⟩ := ⟨_, rfl⟩
  rw [← hT2] at HW2 HW3 HALL
  obtain ⟨E1, hE1⟩ : ∃ E, E = locE F := ⟨_, rfl⟩
  obtain ⟨E2, hE2⟩ : ∃ E, E = hmtE F := ⟨_, rfl⟩
  rw [← hE1] at HLW HE
  rw [← hE2] at HMW HE
  obtain ⟨P1, hP1⟩ : ∃ P, P = locB F := ⟨_, rfl⟩
  obtain ⟨P2, hP2⟩ : ∃ P, P = hmtB F := ⟨_, rfl⟩
  rw [← hP1] at HLW HW1
  rw [← hP2] at HMW HW3 HALL
  obtain ⟨ng, hng⟩ : ∃ n, n = F.GG.length := ⟨_, rfl⟩
  have HNG := Lib.hid hng
  have HQ := Lib.hid hQ
  have HSM := Lib.hid hg2
  have hngI : (ng : Int) ≤ 1100 := by omega
  clear hC hR hT hM hQ hg1 hg2 hg3 hg4 hf0 hf1 hf2 hl1 hl2 hT1 hT2 hE1 hE2 hP1 hP2 hG hW hng
  obtain ⟨ll, hll⟩ : ∃ l, l = F.h.l := ⟨_, rfl⟩
  rw [← hll] at HLW
  have HLL := Lib.hid hll
  clear hll
  go_enter Tryz.func32, Tryz.ntmps32
  go_upto_region 1 with fail
  refine wp_named fun w1 hw1 => ?_
  have hS1 : Since w w1 := by subst hw1; (repeat (first | with_reducible (exact Since.refl _) | with_reducible assumption | with_reducible (refine Since.drew ?_) | with_reducible (refine Since.drewN ?_ _) | with_reducible (refine Since.alloc ?_ _) | (with_reducible (refine Since.setCell ?_ ?_ _); rotate_left; focus (first | (simp; done) | (simp; omega) | omega)) | (with_reducible (refine Since.trans ?_ (by with_reducible assumption)))))
  have HB1 := Lib.hid (show BoxL w1 w.heap.size (fnC ⟨xAt, xct, xAm, xcm, xAg, xcg⟩ F.TT.length F.h F.m F.MM.length F.ct F.GG.length) by subst hw1; rw [HC.out]; exact HBX.out _)
  clear hw1 HBX
  obtain ⟨f0, ⟨f1, f2, f3, f4, f5, f6⟩, ⟨f7, f8, f9, fa, fb, fc, fd⟩, fe, ff, fg⟩ := fn_cells HB1.out
  simp only [← HLL.out] at f6 HP
  go_cut [4, 5] (fun v y w2 => ∃ A2 c2, v = .slice A2 P1.length c2 ∧ y = .int .i64 E1 ∧ RdB w2 w2.heap.size A2 P1 ∧ Since w w2 ∧ Since w1 w2)
  case first =>
    go_region_with (first | (go_at_call 13; (with_reducible refine (HP.out _ (by (repeat (first | with_reducible (exact Since.refl _) | with_reducible assumption | with_reducible (refine Since.drew ?_) | with_reducible (refine Since.drewN ?_ _) | with_reducible (refine Since.alloc ?_ _) | (with_reducible (refine Since.setCell ?_ ?_ _); rotate_left; focus (first | (simp; done) | (simp; omega) | omega)) | (with_reducible (refine Since.trans ?_ (by with_reducible assumption))))))).mono ?_); rintro e w2 ⟨A2, c2, rfl, hr2, hS2⟩; have d6 : w2.cell? ⟨w.heap.size, 6, none⟩ = some (.bool ll) := (by rw [HLL.out]; exact (HB1.out.since (by (repeat (first | with_reducible (exact Since.refl _) | with_reducible assumption | with_reducible (refine Since.drew ?_) | with_reducible (refine Since.drewN ?_ _) | with_reducible (refine Since.alloc ?_ _) | (with_reducible (refine Since.setCell ?_ ?_ _); rotate_left; focus (first | (simp; done) | (simp; omega) | omega)) | (with_reducible (refine Since.trans ?_ (by with_reducible assumption))))))).cell 6 rfl)) | (go_at_call 72; (with_reducible refine (HLW.out _ _ _ _ rfl (by first | exact hr2 | exact RdG.on hr2 (by (repeat (first | with_reducible (exact Since.refl _) | with_reducible assumption | with_reducible (refine Since.drew ?_) | with_reducible (refine Since.drewN ?_ _) | with_reducible (refine Since.alloc ?_ _) | (with_reducible (refine Since.setCell ?_ ?_ _); rotate_left; focus (first | (simp; done) | (simp; omega) | omega)) | (with_reducible (refine Since.trans ?_ (by with_reducible assumption)))))))).mono ?_); rintro e w3 ⟨A3, c3, rfl, hr3, hS3⟩))
    all_goals go_wp2_with fail
    all_goals go_meet
    all_goals exact ⟨_, _, rfl, rfl, hr3, by (repeat (first | with_reducible (exact Since.refl _) | with_reducible assumption | with_reducible (refine Since.drew ?_) | with_reducible (refine Since.drewN ?_ _) | with_reducible (refine Since.alloc ?_ _) | (with_reducible (refine Since.setCell ?_ ?_ _); rotate_left; focus (first | (simp; done) | (simp; omega) | omega)) | (with_reducible (refine Since.trans ?_ (by with_reducible assumption))))), by (repeat (first | with_reducible (exact Since.refl _) | with_reducible assumption | with_reducible (refine Since.drew ?_) | with_reducible (refine Since.drewN ?_ _) | with_reducible (refine Since.alloc ?_ _) | (with_reducible (refine Since.setCell ?_ ?_ _); rotate_left; focus (first | (simp; done) | (simp; omega) | omega)) | (with_reducible (refine Since.trans ?_ (by with_reducible assumption)))))⟩
  case rest =>
    obtain ⟨A2, c2, rfl, rfl, hr2, hS2, hS12⟩ := hcut
    clear f0 f1 f2 f3 f4 f5 f6 f7 f8 f9 fa fb fc fd fe ff fg HP HLW
    by_cases h1 : E1 = 0
    · by_cases h2 : E2 = 0
      · subst h1
        subst h2
        have hE := Lib.hid (show allE F = 0 by rw [HE.out]; simp)
        clear HE
        have hB2 := HB1.out.since hS12
        have c14 := hB2.cell 14 (v := .slice xAm F.MM.length xcm) rfl
        have c15 := hB2.cell 15 (v := .int .i64 F.ct) rfl
        have hlb := hB2.lt
        go_upto_region 7 with (go_at_call 73; (with_reducible refine (HMW.out _ hS2).mono ?_); rintro e w3 ⟨A3, c3, rfl, hr3, hS3⟩)
        have hS3w := hS2.trans hS3
        have hB3 := hB2.since hS3
        have d16 := hB3.cell 16 (v := .slice xAg ng xcg) (by rw [HNG.out]; rfl)
        have hlb3 := hB3.lt
        have HK2 := Lib.hid (RdG.on hr2 hS3)
        have HK3 := Lib.hid hr3
        have HB3 := Lib.hid hB3
        have HO0 := Lib.hid (show OwnB w3 w3.heap.size (.slice none 0 0) (F.GG.take 0).flatten from by rw [List.take_zero]; exact OwnG.nil _ _ _ _ _)
        have HS3 := Lib.hid hS3w
        clear c14 c15 hlb hB2 hB3 hr2 hr3 hS3 hS3w hS2 hS12
        go_wp2_with fail
        go_loopw [8, 38] (fun z v wr => ∃ j : Nat, j ≤ ng ∧ v = .int .i64 (j : Int) ∧ OwnB wr w3.heap.size z (F.GG.take j).flatten ∧ Since w3 wr) (fun _ v _ => ng - (intOf v).toNat)
        case atStart => exact ⟨0, by omega, rfl, HO0.out, Since.refl _⟩
        case round =>
          obtain ⟨j, hj, rfl, hO, hS⟩ := hrel
          clear HO0 d16 hlb3
          by_cases hjn : j < ng
          · have hjn' : (j : Int) < ng := by omega
            have hjL : j < F.GG.length := by rw [← HNG.out]; exact hjn
            have hL : F.GG[j]? = some F.GG[j] := List.getElem?_eq_getElem hjL
            obtain ⟨b, o, A', c', e1, hb, hc, hlc, hr⟩ := (HQ.out.on (HS3.out.trans hS)).row hL
            have HNX := Lib.hid (flat_next hL)
            have HL1 := Lib.hid (flat_take_le F.GG j)
            have HL2 := Lib.hid (flat_take_le F.GG (j + 1))
            generalize F.GG[j] = L at *
            obtain ⟨l, hl⟩ : ∃ l, l = L.length := ⟨_, rfl⟩
            rw [← hl] at hc hlc
            subst e1
            have HR := Lib.hid (show RdB wr wr.heap.size A' L from hr)
            have HLL2 := Lib.hid hl
            have HO := Lib.hid hO
            have HX := Lib.hid (show (F.GG.take j).flatten.length + L.length ≤ 140737488355328 by
              have h1 := HL2.out; rw [HNX.out, List.length_append] at h1; have := HSM.out; omega)
            clear hL hjL hr hl hO
            go_wp2_with (at_builtin; refine wpList_append_b rfl _ _ rfl hS _ _ rfl HO.out _ A' l c' L HLL2.out rfl HR.out HX.out ?_; intro v5 w5 hO5 hS5)
            go_roundw
            case measure => simp [intOf]; omega
            case rel => first | exact ⟨j + 1, by omega, by first | rfl | go_num | simp, by rw [HNX.out]; exact hO5, hS5⟩ | ((repeat apply Exists.intro); refine ⟨?_, rfl⟩; exact ⟨j + 1, by omega, by first | rfl | go_num | simp, by rw [HNX.out]; exact hO5, hS5⟩)
          · obtain rfl : ng = j := by omega
            have hjn' : ¬ (ng : Int) < (ng : Int) := by omega
            rw [HNG.out, List.take_length] at hO
            obtain ⟨A5, c5, rfl, _, hr5⟩ := OwnG.rd (by omega) byL_len hO
            have hSw := HS3.out.trans hS
            have hBr := HB3.out.since hS
            have d0 := hBr.cell 0 (v := .slice xAt F.TT.length xct) rfl
            have hlbr := hBr.lt
            obtain ⟨m5, hm5⟩ : ∃ m, m = F.GG.flatten.length := ⟨_, rfl⟩
            rw [← hm5]
            have HM5 := Lib.hid hm5
            have HR5 := Lib.hid hr5
            have HK2 := Lib.hid (RdG.on HK2.out hS)
            have HK3 := Lib.hid (RdG.on HK3.out hS)
            clear hO hr5 hm5
            go_wp2_with (first
              | (go_at_call 53; (with_reducible refine (HW1.out _ _ _ hSw HK2.out).mono ?_); rintro e w4 ⟨v4, rfl, hO4, hS4⟩; obtain ⟨A4, c4, rfl, _, hR4⟩ := hO4.rd; have hS4w := hSw.trans hS4; have k5 := RdG.on HR5.out hS4; have k3 := RdG.on HK3.out hS4)
              | (go_at_call 53; (with_reducible refine (HW2.out _ _ _ _ _ _ _ hR4 rfl HM5.out k5).mono ?_); rintro e w6 ⟨v6, rfl, hO6, hS6⟩; obtain ⟨A6, c6, rfl, _, hR6⟩ := hO6.rd; have hS6w := hS4w.trans hS6; have k4 := RdG.on k3 hS6)
              | (go_at_call 53; (with_reducible refine (HW3.out _ _ _ _ _ _ hR6 rfl k4).mono ?_); rintro e w7 ⟨v7, rfl, hO7, hS7⟩))
            go_ret2
            refine ⟨_, by rw [hE.out]; rfl, ?_, hS6w.trans hS7⟩
            rw [hE.out, if_pos rfl, HALL.out]
            exact hO7.low hS6w.below.size
      · subst h1
        have hE := Lib.hid (show allE F = E2 by rw [HE.out]; simp)
        have dx : (E2 == 0) = false := by simpa using h2
        have HX := Lib.hid h2
        clear HE h2
        have hB2 := HB1.out.since hS12
        have c14 := hB2.cell 14 (v := .slice xAm F.MM.length xcm) rfl
        have c15 := hB2.cell 15 (v := .int .i64 F.ct) rfl
        go_wp2_with (go_at_call 73; (with_reducible refine (HMW.out _ hS2).mono ?_); rintro e w3 ⟨A3, c3, rfl, hr3, hS3⟩; have hS3w := hS2.trans hS3)
        go_ret2
        exact tab_no hE.out HX.out hS3w
    · have hE := Lib.hid (show allE F = E1 by rw [HE.out, if_pos h1])
      have dx : (E1 == 0) = false := by simpa using h1
      have HX := Lib.hid h1
      clear HE h1
      go_wp2_with fail
      go_ret2
      exact tab_no hE.out HX.out hS2
end Go.Proofs.YteckkcpnfeoehaaGreatDoor
