/-
  Layer 9: Right and Write of the program.
-/
import Derived.Test.YteckkcpnfeoehaaGreatDoorFnG
namespace Go.Proofs.YteckkcpnfeoehaaGreatDoor
set_option maxRecDepth 100000
open Go.RowKit Go.ChangeShapes Go.WideShapes Go.Deep
set_option linter.unusedVariables false
set_option linter.unusedSimpArgs false

theorem mem_all9 {F : Fn9} {U : Tb} (h : U ∈ all9 F) : U = ⟨tgHmtx, hmtB F⟩ ∨ U = ⟨tgGlyf, F.GG.flatten⟩ ∨ U = ⟨tgLoca, locB F⟩ ∨ U ∈ F.TT := by
  unfold all9 at h
  rcases mem_with h with h | h
  · exact .inl h
  · rcases mem_with h with h | h
    · exact .inr (.inl h)
    · rcases mem_with h with h | h
      · exact .inr (.inr (.inl h))
      · exact .inr (.inr (.inr h))
theorem all9_bytes {F : Fn9} (hW : FnW F) : ∀ T, T ∈ all9 F → Bytes T.data := fun T hT => by
  rcases mem_all9 hT with rfl | rfl | rfl | h
  · exact hmtB_bytes F
  · exact flat_bytes hW.glys
  · exact locB_bytes F
  · exact hW.tabs T h
theorem all9_few {F : Fn9} (hG : NoGr F) : FewT (all9 F) := by
  have h4 := hG.tabs
  have hs := hG.sumG
  have l1 := len_with F.TT ⟨tgLoca, locB F⟩
  have l2 := len_with (withT F.TT ⟨tgLoca, locB F⟩) ⟨tgGlyf, F.GG.flatten⟩
  unfold all9
  exact few_with (few_with (few_with (few_nogr hG) (by omega) (locB_few hG) (show tgLoca.size ≤ maxLen by decide)) (by omega) (show F.GG.flatten.length ≤ 1000000 by rw [flat_len]; omega) (show tgGlyf.size ≤ maxLen by decide)) (by omega) (hmtB_few hG) (show tgHmtx.size ≤ maxLen by decide)
theorem wp_fn_load {ops : Array Oper} {rest : List Oper} {op : Oper} {a : Act} {Q : Exit → Act → World → Prop} {w : World} {b nt nm ng : Nat} {y : Fh} {h : Hd9} {m : Mx9} {ct : Int} (hgd : op.guard = none) (x : Operand) (ho : op.op = .load 30 x) (hx : a.eval x = .pointer (some ⟨b, 0, none⟩)) (hB : BoxL w b (fnC y nt h m nm ct ng)) (hk : wpList Tryz.prog ops Q rest (a.put op.dst (.agg (fnC y nt h m nm ct ng).toArray)) w) : wpList Tryz.prog ops Q (op :: rest) a w :=
  wpList_load_box hgd _ x ho hx hB Tryz.underlying30 rfl infoFn hk
theorem right_no {F : Fn9} (h : ¬ pre9 F) : Right9 F = false := right9_no fun e => h e.1
set_option maxRecDepth 1000000 in
set_option maxHeartbeats 64000000 in
theorem fn_right (x : Fh) (F : Fn9) (C : Array Value) (hC : C = fnV x F) (w : World) (hT : Tabs w) (hR : FnR w w.heap.size x F) (hG : NoGr F) (hW : FnW F) (hgc : F.GG.length ≤ x.cg) :
    Calls Tryz.prog 10 #[.agg C] w fun e w' => e = .returned (.bool (Right9 F)) ∧ Since w w' := by
  subst hC
  obtain ⟨xAt, xct, xAm, xcm, xAg, xcg⟩ := x
  have hTT : RdTL w w.heap.size xAt F.TT := hR.tabs
  have hg4 := hG.tabs
  have HBX := Lib.hid (fun (t : TypeId) => (fn_box (x := ⟨xAt, xct, xAm, xcm, xAg, xcg⟩) (nt := F.TT.length) (h := F.h) (m := F.m) (nm := F.MM.length) (ct := F.ct) (ng := F.GG.length) w w.heap.size rfl t))
  have hmx : F.TT.length ≤ maxLen := by simp only [maxLen]; omega
  have HG := Lib.hid (fun (w2 : World) (h2 : Since w w2) => fn_any_gen xAt F.TT.length xct F.TT w2 (hTT.on h2) rfl hmx)
  have HV := Lib.hid (fun (w2 : World) (h2 : Since w w2) => fn_any_var xAt F.TT.length xct F.TT w2 (hTT.on h2) rfl hmx)
  have HA := Lib.hid (fun (w2 : World) (h2 : Since w w2) => fn_agrees ⟨xAt, xct, xAm, xcm, xAg, xcg⟩ F _ rfl w2 (hT.since h2) (hTT.on h2) hmx (fun T hT => by have := (hG.dats T hT).1; omega) hW.tabs)
  have HTB := Lib.hid (fun (w2 : World) (h2 : Since w w2) => fn_tables ⟨xAt, xct, xAm, xcm, xAg, xcg⟩ F _ rfl w2 (hR.on h2) hG hW hgc)
  have HRT := Lib.hid (fun (A : Option Addr) (N c : Nat) (w2 : World) (h : RdTL w2 w2.heap.size A (all9 F)) (hN : N = (all9 F).length) => sf_right A N c (all9 F) w2 h hN (all9_few hG))
  unfold TabP at HTB
  unfold fnV at HA HTB ⊢
  rw [made9_is] at HG
  rw [gvar_is] at HV
  have hg1 := hG.glys
  have hg3 := hG.mets
  obtain ⟨RR, hRR⟩ : ∃ R, R = Right9 F := ⟨_, rfl⟩
  rw [← hRR]
  have NO := Lib.hid (fun (h : ¬ pre9 F) => hRR.trans (right_no h))
  have hpre : pre9 F ↔ (1 ≤ F.GG.length ∧ F.GG.length ≤ 1024) ∧ made9 F.TT = false ∧ has9 F.TT tgGvar = false ∧ decide (agr9 F) = true ∧ F.m.g = (F.GG.length : Int) ∧ F.MM.length = F.GG.length := by
    unfold pre9; rw [decide_eq_true_iff]
  have YE := Lib.hid (fun (h : pre9 F) (h2 : allE F = 0) => (hRR.trans (by
    rw [Bool.eq_iff_iff, right9_iff, rightG_iff]
    exact ⟨fun e => e.2.2, fun e => ⟨h, h2, e⟩⟩) : RR = RightG (all9 F)))
  have NE := Lib.hid (fun (h2 : ¬ allE F = 0) => hRR.trans (right9_no fun e => h2 e.2.1))
  rw [hpre] at NO
  rw [hpre] at YE
  generalize RightG (all9 F) = r4 at *
  generalize allE F = E at *
  generalize decide (agr9 F) = a at *
  generalize made9 F.TT = g at *
  generalize has9 F.TT tgGvar = v at *
  generalize all9 F = T9 at *
  generalize F.GG.length = ng at *
  generalize F.MM.length = nm at *
  generalize F.TT.length = nt at *
  generalize F.h = h' at *
  generalize F.m = m' at *
  generalize F.ct = k' at *
  clear hR hT hTT hG hW hRR hmx hpre
  by_cases h1 : ng < 1
  · have d1 : decide ((ng : Int) < 1) = true := by simp; omega
    have i1 : (ng : Int) < 1 := by omega
    have HX := Lib.hid (NO.out (fun e => by omega))
    clear NO YE NE h1
    have tok2 : True := trivial
    go_enter Tryz.func10, Tryz.ntmps10
    go_upto_region 1 with fail
    refine wp_named fun w1 hw1 => ?_
    have hS1 : Since w w1 := by subst hw1; (repeat (first | with_reducible (exact Since.refl _) | with_reducible assumption | with_reducible (refine Since.drew ?_) | with_reducible (refine Since.drewN ?_ _) | with_reducible (refine Since.alloc ?_ _) | (with_reducible (refine Since.setCell ?_ ?_ _); rotate_left; focus (first | (simp; done) | (simp; omega) | omega)) | (with_reducible (refine Since.trans ?_ (by with_reducible assumption)))))
    have hB1 : BoxL w1 w.heap.size (fnC ⟨xAt, xct, xAm, xcm, xAg, xcg⟩ nt h' m' nm k' ng) := by subst hw1; exact HBX.out _
    clear hw1 HBX
    have c16 := hB1.cell 16 (v := .slice xAg ng xcg) rfl
    have c0 := hB1.cell 0 (v := .slice xAt nt xct) rfl
    go_wp2_with fail
    go_ret
    exact ⟨by rw [HX.out]; first | rfl | simp, by (repeat (first | with_reducible (exact Since.refl _) | with_reducible assumption | with_reducible (refine Since.drew ?_) | with_reducible (refine Since.drewN ?_ _) | with_reducible (refine Since.alloc ?_ _) | (with_reducible (refine Since.setCell ?_ ?_ _); rotate_left; focus (first | (simp; done) | (simp; omega) | omega)) | (with_reducible (refine Since.trans ?_ (by with_reducible assumption)))))⟩
  have d1 : decide ((ng : Int) < 1) = false := by simp; omega
  have i1 : ¬ (ng : Int) < 1 := by omega
  by_cases h2 : 1024 < ng
  · have d2 : decide ((1024 : Int) < (ng : Int)) = true := by simp; omega
    have i2 : (1024 : Int) < (ng : Int) := by omega
    have HX := Lib.hid (NO.out (fun e => by omega))
    clear NO YE NE h1 h2
    have tok2 : True := trivial
    go_enter Tryz.func10, Tryz.ntmps10
    go_upto_region 1 with fail
    refine wp_named fun w1 hw1 => ?_
    have hS1 : Since w w1 := by subst hw1; (repeat (first | with_reducible (exact Since.refl _) | with_reducible assumption | with_reducible (refine Since.drew ?_) | with_reducible (refine Since.drewN ?_ _) | with_reducible (refine Since.alloc ?_ _) | (with_reducible (refine Since.setCell ?_ ?_ _); rotate_left; focus (first | (simp; done) | (simp; omega) | omega)) | (with_reducible (refine Since.trans ?_ (by with_reducible assumption)))))
    have hB1 : BoxL w1 w.heap.size (fnC ⟨xAt, xct, xAm, xcm, xAg, xcg⟩ nt h' m' nm k' ng) := by subst hw1; exact HBX.out _
    clear hw1 HBX
    have c16 := hB1.cell 16 (v := .slice xAg ng xcg) rfl
    have c0 := hB1.cell 0 (v := .slice xAt nt xct) rfl
    go_wp2_with fail
    go_ret
    exact ⟨by rw [HX.out]; first | rfl | simp, by (repeat (first | with_reducible (exact Since.refl _) | with_reducible assumption | with_reducible (refine Since.drew ?_) | with_reducible (refine Since.drewN ?_ _) | with_reducible (refine Since.alloc ?_ _) | (with_reducible (refine Since.setCell ?_ ?_ _); rotate_left; focus (first | (simp; done) | (simp; omega) | omega)) | (with_reducible (refine Since.trans ?_ (by with_reducible assumption)))))⟩
  have d2 : decide ((1024 : Int) < (ng : Int)) = false := by simp; omega
  have i2 : ¬ (1024 : Int) < (ng : Int) := by omega
  cases hg : g
  rotate_left
  · rw [hg] at HG
    have HX := Lib.hid (NO.out (fun e => by rw [hg] at e; cases e.2.1))
    clear NO YE NE h1 h2 hg
    have tok2 : True := trivial
    go_enter Tryz.func10, Tryz.ntmps10
    go_upto_region 1 with fail
    refine wp_named fun w1 hw1 => ?_
    have hS1 : Since w w1 := by subst hw1; (repeat (first | with_reducible (exact Since.refl _) | with_reducible assumption | with_reducible (refine Since.drew ?_) | with_reducible (refine Since.drewN ?_ _) | with_reducible (refine Since.alloc ?_ _) | (with_reducible (refine Since.setCell ?_ ?_ _); rotate_left; focus (first | (simp; done) | (simp; omega) | omega)) | (with_reducible (refine Since.trans ?_ (by with_reducible assumption)))))
    have hB1 : BoxL w1 w.heap.size (fnC ⟨xAt, xct, xAm, xcm, xAg, xcg⟩ nt h' m' nm k' ng) := by subst hw1; exact HBX.out _
    clear hw1 HBX
    have c16 := hB1.cell 16 (v := .slice xAg ng xcg) rfl
    have c0 := hB1.cell 0 (v := .slice xAt nt xct) rfl
    go_wp2_with (first | (go_at_call 34; have _t := tok2; (with_reducible refine (HG.out _ hS1).mono ?_); rintro e w2 ⟨rfl, hS2⟩; have hS2w := hS1.trans hS2; have hB2 := hB1.since hS2; have d0 := hB2.cell 0 (v := .slice xAt nt xct) rfl; have d16 := hB2.cell 16 (v := .slice xAg ng xcg) rfl; clear tok2))
    go_ret
    exact ⟨by rw [HX.out]; first | rfl | simp, hS2w.trans (by (repeat (first | with_reducible (exact Since.refl _) | with_reducible assumption | with_reducible (refine Since.drew ?_) | with_reducible (refine Since.drewN ?_ _) | with_reducible (refine Since.alloc ?_ _) | (with_reducible (refine Since.setCell ?_ ?_ _); rotate_left; focus (first | (simp; done) | (simp; omega) | omega)) | (with_reducible (refine Since.trans ?_ (by with_reducible assumption))))))⟩
  rw [hg] at HG
  cases hv : v
  rotate_left
  · rw [hv] at HV
    have HX := Lib.hid (NO.out (fun e => by rw [hv] at e; cases e.2.2.1))
    clear NO YE NE h1 h2 hg hv
    have tok2 : True := trivial
    go_enter Tryz.func10, Tryz.ntmps10
    go_upto_region 1 with fail
    refine wp_named fun w1 hw1 => ?_
    have hS1 : Since w w1 := by subst hw1; (repeat (first | with_reducible (exact Since.refl _) | with_reducible assumption | with_reducible (refine Since.drew ?_) | with_reducible (refine Since.drewN ?_ _) | with_reducible (refine Since.alloc ?_ _) | (with_reducible (refine Since.setCell ?_ ?_ _); rotate_left; focus (first | (simp; done) | (simp; omega) | omega)) | (with_reducible (refine Since.trans ?_ (by with_reducible assumption)))))
    have hB1 : BoxL w1 w.heap.size (fnC ⟨xAt, xct, xAm, xcm, xAg, xcg⟩ nt h' m' nm k' ng) := by subst hw1; exact HBX.out _
    clear hw1 HBX
    have c16 := hB1.cell 16 (v := .slice xAg ng xcg) rfl
    have c0 := hB1.cell 0 (v := .slice xAt nt xct) rfl
    go_wp2_with (first | (go_at_call 34; have _t := tok2; (with_reducible refine (HG.out _ hS1).mono ?_); rintro e w2 ⟨rfl, hS2⟩; have hS2w := hS1.trans hS2; have hB2 := hB1.since hS2; have d0 := hB2.cell 0 (v := .slice xAt nt xct) rfl; have d16 := hB2.cell 16 (v := .slice xAg ng xcg) rfl; clear tok2) | (go_at_call 34; (with_reducible refine (HV.out _ hS2w).mono ?_); rintro e w3 ⟨rfl, hS3⟩; have hS3w := hS2w.trans hS3; have hB3 := hB2.since hS3))
    go_ret
    exact ⟨by rw [HX.out]; first | rfl | simp, hS3w.trans (by (repeat (first | with_reducible (exact Since.refl _) | with_reducible assumption | with_reducible (refine Since.drew ?_) | with_reducible (refine Since.drewN ?_ _) | with_reducible (refine Since.alloc ?_ _) | (with_reducible (refine Since.setCell ?_ ?_ _); rotate_left; focus (first | (simp; done) | (simp; omega) | omega)) | (with_reducible (refine Since.trans ?_ (by with_reducible assumption))))))⟩
  rw [hv] at HV
  cases ha : a
  · rw [ha] at HA
    have HX := Lib.hid (NO.out (fun e => by rw [ha] at e; cases e.2.2.2.1))
    clear NO YE NE h1 h2 hg hv ha
    have tok2 : True := trivial
    go_enter Tryz.func10, Tryz.ntmps10
    go_upto_region 1 with fail
    refine wp_named fun w1 hw1 => ?_
    have hS1 : Since w w1 := by subst hw1; (repeat (first | with_reducible (exact Since.refl _) | with_reducible assumption | with_reducible (refine Since.drew ?_) | with_reducible (refine Since.drewN ?_ _) | with_reducible (refine Since.alloc ?_ _) | (with_reducible (refine Since.setCell ?_ ?_ _); rotate_left; focus (first | (simp; done) | (simp; omega) | omega)) | (with_reducible (refine Since.trans ?_ (by with_reducible assumption)))))
    have hB1 : BoxL w1 w.heap.size (fnC ⟨xAt, xct, xAm, xcm, xAg, xcg⟩ nt h' m' nm k' ng) := by subst hw1; exact HBX.out _
    clear hw1 HBX
    have c16 := hB1.cell 16 (v := .slice xAg ng xcg) rfl
    have c0 := hB1.cell 0 (v := .slice xAt nt xct) rfl
    go_wp2_with (first | (go_at_call 34; have _t := tok2; (with_reducible refine (HG.out _ hS1).mono ?_); rintro e w2 ⟨rfl, hS2⟩; have hS2w := hS1.trans hS2; have hB2 := hB1.since hS2; have d0 := hB2.cell 0 (v := .slice xAt nt xct) rfl; have d16 := hB2.cell 16 (v := .slice xAg ng xcg) rfl; clear tok2) | (go_at_call 34; (with_reducible refine (HV.out _ hS2w).mono ?_); rintro e w3 ⟨rfl, hS3⟩; have hS3w := hS2w.trans hS3; have hB3 := hB2.since hS3) | (refine wp_fn_load rfl _ rfl (by rfl) (by first | with_reducible exact hB4 | with_reducible exact hB3) ?_) | (go_at_call 37; (with_reducible refine (HA.out _ hS3w).mono ?_); rintro e w4 ⟨rfl, hS4⟩; have hS4w := hS3w.trans hS4; have hB4 := hB3.since hS4; have e7 := hB4.cell 7 (v := .int .i64 m'.g) rfl; have e16 := hB4.cell 16 (v := .slice xAg ng xcg) rfl; have e14 := hB4.cell 14 (v := .slice xAm nm xcm) rfl))
    go_ret
    exact ⟨by rw [HX.out]; first | rfl | simp, hS4w.trans (by (repeat (first | with_reducible (exact Since.refl _) | with_reducible assumption | with_reducible (refine Since.drew ?_) | with_reducible (refine Since.drewN ?_ _) | with_reducible (refine Since.alloc ?_ _) | (with_reducible (refine Since.setCell ?_ ?_ _); rotate_left; focus (first | (simp; done) | (simp; omega) | omega)) | (with_reducible (refine Since.trans ?_ (by with_reducible assumption))))))⟩
  rw [ha] at HA
  by_cases h6 : m'.g = (ng : Int)
  rotate_left
  · have d6 : (m'.g == (ng : Int)) = false := by simpa using h6
    have n6 : (m'.g != (ng : Int)) = true := by simpa using h6
    have HX := Lib.hid (NO.out (fun e => h6 e.2.2.2.2.1))
    clear NO YE NE h1 h2 hg hv ha h6
    have tok2 : True := trivial
    go_enter Tryz.func10, Tryz.ntmps10
    go_upto_region 1 with fail
    refine wp_named fun w1 hw1 => ?_
    have hS1 : Since w w1 := by subst hw1; (repeat (first | with_reducible (exact Since.refl _) | with_reducible assumption | with_reducible (refine Since.drew ?_) | with_reducible (refine Since.drewN ?_ _) | with_reducible (refine Since.alloc ?_ _) | (with_reducible (refine Since.setCell ?_ ?_ _); rotate_left; focus (first | (simp; done) | (simp; omega) | omega)) | (with_reducible (refine Since.trans ?_ (by with_reducible assumption)))))
    have hB1 : BoxL w1 w.heap.size (fnC ⟨xAt, xct, xAm, xcm, xAg, xcg⟩ nt h' m' nm k' ng) := by subst hw1; exact HBX.out _
    clear hw1 HBX
    have c16 := hB1.cell 16 (v := .slice xAg ng xcg) rfl
    have c0 := hB1.cell 0 (v := .slice xAt nt xct) rfl
    go_wp2_with (first | (go_at_call 34; have _t := tok2; (with_reducible refine (HG.out _ hS1).mono ?_); rintro e w2 ⟨rfl, hS2⟩; have hS2w := hS1.trans hS2; have hB2 := hB1.since hS2; have d0 := hB2.cell 0 (v := .slice xAt nt xct) rfl; have d16 := hB2.cell 16 (v := .slice xAg ng xcg) rfl; clear tok2) | (go_at_call 34; (with_reducible refine (HV.out _ hS2w).mono ?_); rintro e w3 ⟨rfl, hS3⟩; have hS3w := hS2w.trans hS3; have hB3 := hB2.since hS3) | (refine wp_fn_load rfl _ rfl (by rfl) (by first | with_reducible exact hB4 | with_reducible exact hB3) ?_) | (go_at_call 37; (with_reducible refine (HA.out _ hS3w).mono ?_); rintro e w4 ⟨rfl, hS4⟩; have hS4w := hS3w.trans hS4; have hB4 := hB3.since hS4; have e7 := hB4.cell 7 (v := .int .i64 m'.g) rfl; have e16 := hB4.cell 16 (v := .slice xAg ng xcg) rfl; have e14 := hB4.cell 14 (v := .slice xAm nm xcm) rfl))
    go_ret
    exact ⟨by rw [HX.out]; first | rfl | simp, hS4w.trans (by (repeat (first | with_reducible (exact Since.refl _) | with_reducible assumption | with_reducible (refine Since.drew ?_) | with_reducible (refine Since.drewN ?_ _) | with_reducible (refine Since.alloc ?_ _) | (with_reducible (refine Since.setCell ?_ ?_ _); rotate_left; focus (first | (simp; done) | (simp; omega) | omega)) | (with_reducible (refine Since.trans ?_ (by with_reducible assumption))))))⟩
  have d6 : (m'.g == (ng : Int)) = true := by simpa using h6
  have n6 : (m'.g != (ng : Int)) = false := by simpa using h6
  by_cases h7 : nm = ng
  rotate_left
  · have d7 : ((nm : Int) == (ng : Int)) = false := beq_eq_false_iff_ne.2 (by omega)
    have n7 : ((nm : Int) != (ng : Int)) = true := bne_iff_ne.2 (by omega)
    have n7' : (nm != ng) = true := bne_iff_ne.2 (by omega)
    have d7' : (nm == ng) = false := by simpa using h7
    have HX := Lib.hid (NO.out (fun e => h7 e.2.2.2.2.2))
    clear NO YE NE h1 h2 hg hv ha h6
    have tok2 : True := trivial
    go_enter Tryz.func10, Tryz.ntmps10
    go_upto_region 1 with fail
    refine wp_named fun w1 hw1 => ?_
    have hS1 : Since w w1 := by subst hw1; (repeat (first | with_reducible (exact Since.refl _) | with_reducible assumption | with_reducible (refine Since.drew ?_) | with_reducible (refine Since.drewN ?_ _) | with_reducible (refine Since.alloc ?_ _) | (with_reducible (refine Since.setCell ?_ ?_ _); rotate_left; focus (first | (simp; done) | (simp; omega) | omega)) | (with_reducible (refine Since.trans ?_ (by with_reducible assumption)))))
    have hB1 : BoxL w1 w.heap.size (fnC ⟨xAt, xct, xAm, xcm, xAg, xcg⟩ nt h' m' nm k' ng) := by subst hw1; exact HBX.out _
    clear hw1 HBX
    have c16 := hB1.cell 16 (v := .slice xAg ng xcg) rfl
    have c0 := hB1.cell 0 (v := .slice xAt nt xct) rfl
    go_wp2_with (first | (go_at_call 34; have _t := tok2; (with_reducible refine (HG.out _ hS1).mono ?_); rintro e w2 ⟨rfl, hS2⟩; have hS2w := hS1.trans hS2; have hB2 := hB1.since hS2; have d0 := hB2.cell 0 (v := .slice xAt nt xct) rfl; have d16 := hB2.cell 16 (v := .slice xAg ng xcg) rfl; clear tok2) | (go_at_call 34; (with_reducible refine (HV.out _ hS2w).mono ?_); rintro e w3 ⟨rfl, hS3⟩; have hS3w := hS2w.trans hS3; have hB3 := hB2.since hS3) | (refine wp_fn_load rfl _ rfl (by rfl) (by first | with_reducible exact hB4 | with_reducible exact hB3) ?_) | (go_at_call 37; (with_reducible refine (HA.out _ hS3w).mono ?_); rintro e w4 ⟨rfl, hS4⟩; have hS4w := hS3w.trans hS4; have hB4 := hB3.since hS4; have e7 := hB4.cell 7 (v := .int .i64 m'.g) rfl; have e16 := hB4.cell 16 (v := .slice xAg ng xcg) rfl; have e14 := hB4.cell 14 (v := .slice xAm nm xcm) rfl))
    go_ret
    exact ⟨by rw [HX.out]; first | rfl | simp, hS4w.trans (by (repeat (first | with_reducible (exact Since.refl _) | with_reducible assumption | with_reducible (refine Since.drew ?_) | with_reducible (refine Since.drewN ?_ _) | with_reducible (refine Since.alloc ?_ _) | (with_reducible (refine Since.setCell ?_ ?_ _); rotate_left; focus (first | (simp; done) | (simp; omega) | omega)) | (with_reducible (refine Since.trans ?_ (by with_reducible assumption))))))⟩
  have d7 : ((nm : Int) == (ng : Int)) = true := beq_iff_eq.2 (by omega)
  have n7 : ((nm : Int) != (ng : Int)) = false := by rw [bne_eq_false_iff_eq]; omega
  have n7' : (nm != ng) = false := by rw [bne_eq_false_iff_eq]; omega
  have d7' : (nm == ng) = true := by simpa using h7
  have PR := Lib.hid (show (1 ≤ ng ∧ ng ≤ 1024) ∧ g = false ∧ v = false ∧ a = true ∧ m'.g = (ng : Int) ∧ nm = ng from ⟨by omega, hg, hv, ha, h6, h7⟩)
  by_cases h8 : E = 0
  rotate_left
  · have d8 : (E == 0) = false := by simpa using h8
    have HX := Lib.hid (NE.out h8)
    clear NO YE NE h1 h2 hg hv ha h6 h7 h8 PR
    have tok2 : True := trivial
    go_enter Tryz.func10, Tryz.ntmps10
    go_upto_region 1 with fail
    refine wp_named fun w1 hw1 => ?_
    have hS1 : Since w w1 := by subst hw1; (repeat (first | with_reducible (exact Since.refl _) | with_reducible assumption | with_reducible (refine Since.drew ?_) | with_reducible (refine Since.drewN ?_ _) | with_reducible (refine Since.alloc ?_ _) | (with_reducible (refine Since.setCell ?_ ?_ _); rotate_left; focus (first | (simp; done) | (simp; omega) | omega)) | (with_reducible (refine Since.trans ?_ (by with_reducible assumption)))))
    have hB1 : BoxL w1 w.heap.size (fnC ⟨xAt, xct, xAm, xcm, xAg, xcg⟩ nt h' m' nm k' ng) := by subst hw1; exact HBX.out _
    clear hw1 HBX
    have c16 := hB1.cell 16 (v := .slice xAg ng xcg) rfl
    have c0 := hB1.cell 0 (v := .slice xAt nt xct) rfl
    go_wp2_with (first | (go_at_call 34; have _t := tok2; (with_reducible refine (HG.out _ hS1).mono ?_); rintro e w2 ⟨rfl, hS2⟩; have hS2w := hS1.trans hS2; have hB2 := hB1.since hS2; have d0 := hB2.cell 0 (v := .slice xAt nt xct) rfl; have d16 := hB2.cell 16 (v := .slice xAg ng xcg) rfl; clear tok2) | (go_at_call 34; (with_reducible refine (HV.out _ hS2w).mono ?_); rintro e w3 ⟨rfl, hS3⟩; have hS3w := hS2w.trans hS3; have hB3 := hB2.since hS3) | (refine wp_fn_load rfl _ rfl (by rfl) (by first | with_reducible exact hB4 | with_reducible exact hB3) ?_) | (go_at_call 37; (with_reducible refine (HA.out _ hS3w).mono ?_); rintro e w4 ⟨rfl, hS4⟩; have hS4w := hS3w.trans hS4; have hB4 := hB3.since hS4; have e7 := hB4.cell 7 (v := .int .i64 m'.g) rfl; have e16 := hB4.cell 16 (v := .slice xAg ng xcg) rfl; have e14 := hB4.cell 14 (v := .slice xAm nm xcm) rfl) | (go_at_call 25; (with_reducible refine (HTB.out _ hS4w).mono ?_); rintro e w5 ⟨v5, rfl, hO5, hS5⟩; have hS5w := hS4w.trans hS5; skip))
    go_ret
    exact ⟨by rw [HX.out]; first | rfl | simp, hS5w.trans (by (repeat (first | with_reducible (exact Since.refl _) | with_reducible assumption | with_reducible (refine Since.drew ?_) | with_reducible (refine Since.drewN ?_ _) | with_reducible (refine Since.alloc ?_ _) | (with_reducible (refine Since.setCell ?_ ?_ _); rotate_left; focus (first | (simp; done) | (simp; omega) | omega)) | (with_reducible (refine Since.trans ?_ (by with_reducible assumption))))))⟩
  · have HX := Lib.hid (YE.out PR.out h8)
    subst h8
    simp only [if_true] at HTB
    clear NO YE NE h1 h2 hg hv ha h6 h7 PR
    have tok2 : True := trivial
    go_enter Tryz.func10, Tryz.ntmps10
    go_upto_region 1 with fail
    refine wp_named fun w1 hw1 => ?_
    have hS1 : Since w w1 := by subst hw1; (repeat (first | with_reducible (exact Since.refl _) | with_reducible assumption | with_reducible (refine Since.drew ?_) | with_reducible (refine Since.drewN ?_ _) | with_reducible (refine Since.alloc ?_ _) | (with_reducible (refine Since.setCell ?_ ?_ _); rotate_left; focus (first | (simp; done) | (simp; omega) | omega)) | (with_reducible (refine Since.trans ?_ (by with_reducible assumption)))))
    have hB1 : BoxL w1 w.heap.size (fnC ⟨xAt, xct, xAm, xcm, xAg, xcg⟩ nt h' m' nm k' ng) := by subst hw1; exact HBX.out _
    clear hw1 HBX
    have c16 := hB1.cell 16 (v := .slice xAg ng xcg) rfl
    have c0 := hB1.cell 0 (v := .slice xAt nt xct) rfl
    go_wp2_with (first | (go_at_call 34; have _t := tok2; (with_reducible refine (HG.out _ hS1).mono ?_); rintro e w2 ⟨rfl, hS2⟩; have hS2w := hS1.trans hS2; have hB2 := hB1.since hS2; have d0 := hB2.cell 0 (v := .slice xAt nt xct) rfl; have d16 := hB2.cell 16 (v := .slice xAg ng xcg) rfl; clear tok2) | (go_at_call 34; (with_reducible refine (HV.out _ hS2w).mono ?_); rintro e w3 ⟨rfl, hS3⟩; have hS3w := hS2w.trans hS3; have hB3 := hB2.since hS3) | (refine wp_fn_load rfl _ rfl (by rfl) (by first | with_reducible exact hB4 | with_reducible exact hB3) ?_) | (go_at_call 37; (with_reducible refine (HA.out _ hS3w).mono ?_); rintro e w4 ⟨rfl, hS4⟩; have hS4w := hS3w.trans hS4; have hB4 := hB3.since hS4; have e7 := hB4.cell 7 (v := .int .i64 m'.g) rfl; have e16 := hB4.cell 16 (v := .slice xAg ng xcg) rfl; have e14 := hB4.cell 14 (v := .slice xAm nm xcm) rfl) | (go_at_call 25; (with_reducible refine (HTB.out _ hS4w).mono ?_); rintro e w5 ⟨v5, rfl, hO5, hS5⟩; have hS5w := hS4w.trans hS5; obtain ⟨A5, c5, rfl, _, hR5⟩ := hO5.rd) | (go_at_call 38; (with_reducible refine (HRT.out _ _ _ _ hR5 rfl).mono ?_); rintro e w6 ⟨rfl, hS6⟩))
    go_ret
    exact ⟨by rw [HX.out]; first | rfl | simp, hS5w.trans (by (repeat (first | with_reducible (exact Since.refl _) | with_reducible assumption | with_reducible (refine Since.drew ?_) | with_reducible (refine Since.drewN ?_ _) | with_reducible (refine Since.alloc ?_ _) | (with_reducible (refine Since.setCell ?_ ?_ _); rotate_left; focus (first | (simp; done) | (simp; omega) | omega)) | (with_reducible (refine Since.trans ?_ (by with_reducible assumption))))))⟩
end Go.Proofs.YteckkcpnfeoehaaGreatDoor
