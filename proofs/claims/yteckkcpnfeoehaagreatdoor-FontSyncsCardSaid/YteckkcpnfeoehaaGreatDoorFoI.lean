/-
  Layer 9: Sync of the program, walked.
-/
import Derived.Test.YteckkcpnfeoehaaGreatDoorMpT
namespace Go.Proofs.YteckkcpnfeoehaaGreatDoor
set_option maxRecDepth 100000
open Go.RowKit Go.ChangeShapes Go.WideShapes Go.Deep
set_option linter.unusedVariables false
set_option linter.unusedSimpArgs false

@[go_sem] theorem iz0s (a b c : Value) (w : World) : (Instr.index 82 (.agg #[a, b, c]) (.int .i64 0)).run Tryz.prog w = .ok a w := by rfl
@[go_sem] theorem iz1s (a b c : Value) (w : World) : (Instr.index 82 (.agg #[a, b, c]) (.int .i64 1)).run Tryz.prog w = .ok b w := by rfl
@[go_sem] theorem iz2s (a b c : Value) (w : World) : (Instr.index 82 (.agg #[a, b, c]) (.int .i64 2)).run Tryz.prog w = .ok c w := by rfl
theorem syU_few {F : Fn9} (hG : NoGr F) (D0 D1 D2 : List Int) (h0 : D0.length ≤ 40000) (h1 : D1.length ≤ 40000) (h2 : D2.length ≤ 40000) : ∀ j, FewT (syU F.TT D0 D1 D2 j) ∧ (syU F.TT D0 D1 D2 j).length ≤ 1000 := by
  have a0 := few_nogr hG
  have l0 : F.TT.length ≤ 101 := hG.tabs
  have a1 := few_with (T := ⟨tgHead, D0⟩) a0 (by omega) (by show D0.length ≤ 1000000; omega) (by show tgHead.size ≤ maxLen; decide)
  have l1 := len_with F.TT ⟨tgHead, D0⟩
  have a2 := few_with (T := ⟨tgMaxp, D1⟩) a1 (by omega) (by show D1.length ≤ 1000000; omega) (by show tgMaxp.size ≤ maxLen; decide)
  have l2 := len_with (withT F.TT ⟨tgHead, D0⟩) ⟨tgMaxp, D1⟩
  have a3 := few_with (T := ⟨tgHhea, D2⟩) a2 (by omega) (by show D2.length ≤ 1000000; omega) (by show tgHhea.size ≤ maxLen; decide)
  have l3 := len_with (withT (withT F.TT ⟨tgHead, D0⟩) ⟨tgMaxp, D1⟩) ⟨tgHhea, D2⟩
  intro j
  rcases j with _ | _ | _ | j
  · exact ⟨a0, by show F.TT.length ≤ 1000; omega⟩
  · exact ⟨a1, by show (withT F.TT ⟨tgHead, D0⟩).length ≤ 1000; omega⟩
  · exact ⟨a2, by show (withT (withT F.TT ⟨tgHead, D0⟩) ⟨tgMaxp, D1⟩).length ≤ 1000; omega⟩
  · exact ⟨a3, by show (withT (withT (withT F.TT ⟨tgHead, D0⟩) ⟨tgMaxp, D1⟩) ⟨tgHhea, D2⟩).length ≤ 1000; omega⟩
def syG (F : Fn9) : Fn9 := ⟨F.TT, syH F, syM F, F.MM, F.ct, F.GG⟩
set_option maxRecDepth 1000000 in
set_option maxHeartbeats 64000000 in
theorem fn_sync (x : Fh) (F : Fn9) (C : Array Value) (hC : CV x F C) (w : World) (hT : Tabs w) (hR : FnR w w.heap.size x F) (hG : NoGr F) (hW : FnW F) :
    Calls Tryz.prog 17 #[.agg C] w (SyncP9 F w) := by
  have HFR := Lib.hid (fun (w2 : World) (h2 : Since w w2) => fresh_cv x F C hC w2 (hR.on h2) hG)
  have HBX := Lib.hid (fun (t : TypeId) => (fn_box (x := x) (nt := F.TT.length) (h := F.h) (m := F.m) (nm := F.MM.length) (ct := F.ct) (ng := F.GG.length) w w.heap.size rfl t))
  have HC := Lib.hid (show C = (fnC x F.TT.length F.h F.m F.MM.length F.ct F.GG.length).toArray from hC)
  have HT := Lib.hid hT
  have HG := Lib.hid hG
  have HW := Lib.hid hW
  have hng : (F.GG.length : Int) ≤ 1100 := by have := hG.glys; omega
  have hng0 : (0 : Int) ≤ (F.GG.length : Int) := by omega
  clear hT hR hG hW
  go_enter Tryz.func17, Tryz.ntmps17
  go_upto_region 1 with fail
  refine wp_named fun w1 hw1 => ?_
  have hS1 : Since w w1 := by subst hw1; (repeat (first | with_reducible (exact Since.refl _) | with_reducible assumption | with_reducible (refine Since.drew ?_) | with_reducible (refine Since.drewN ?_ _) | with_reducible (refine Since.alloc ?_ _) | (with_reducible (refine Since.setCell ?_ ?_ _); rotate_left; focus (first | (simp; done) | (simp; omega) | omega)) | (with_reducible (refine Since.trans ?_ (by with_reducible assumption)))))
  have hB1 : FB w1 w.heap.size x F := by subst hw1; rw [HC.out]; exact (HBX.out _).alloc _
  have hB2 : BoxL w1 (w.heap.size + 1) (fnC zX 0 zH zM 0 0 0) := by subst hw1; exact new_fn _ (w.heap.size + 1) (by simp) _
  clear hw1 HBX HC
  have hz1 : w.heap.size + 2 ≤ w1.heap.size := hB2.lt
  go_upto_region 2 with (first | (refine fb_load rfl _ rfl (by rfl) (by with_reducible exact hB1) hC ?_) | (go_at_call 42; (with_reducible refine (HFR.out _ hS1).mono ?_); rintro e w2 ⟨y, D, rfl, hD, hO2, hS2⟩; have hS02 := hS1.trans hS2; have hB12 := hB1.since hS2) | (refine fb_store2 rfl _ _ rfl (by rfl) (by with_reducible exact hB12) hD (by rfl) ?_; intro w3 hB3 hN3))
  have hY3 : SyS w w3 y F := ⟨hN3.2 w hS02 (Nat.le_refl _), hB3, (hB2.since hS2).nigh hN3 (by omega), (hO2.low hz1).nigh hN3 (by omega)⟩
  have d16 := BoxL.cell hB3 16 (v := .slice y.Ag F.GG.length y.cg) rfl
  have d7 := BoxL.cell hB3 7 (v := .int .i64 F.m.g) rfl
  have f7 := BoxL.frz hB3 7
  have hlb := hB3.lt
  have HY3 := Lib.hid hY3
  clear hB1 hB2 hB12 hO2 hS2 hS02 hN3 hz1 hS1 hY3
  go_upto_region 3 with fail
  refine wp_named fun w4 hw4 => ?_
  have hB4 : FB w4 w.heap.size y ⟨F.TT, F.h, syM F, F.MM, F.ct, F.GG⟩ := by subst hw4; exact BoxL.set hB3 7 (.int .i64 (F.GG.length : Int))
  have hY4 : SyS w w4 y ⟨F.TT, F.h, syM F, F.MM, F.ct, F.GG⟩ := HY3.out.box (by subst hw4; exact (Nigh.refl _ _).set _ _) hB4 rfl rfl rfl
  clear hw4 d16 d7 f7 hlb hB3 HY3
  obtain ⟨C1, hC1⟩ : ∃ C1, CV y ⟨F.TT, F.h, syM F, F.MM, F.ct, F.GG⟩ C1 := ⟨_, rfl⟩
  have HPL := Lib.hid (places_cv y _ C1 hC1 w4 hY4.rd ⟨HG.out.tabs, HG.out.dats, HG.out.sumT, HG.out.glys, HG.out.gly, HG.out.sumG, HG.out.mets⟩)
  have HY4 := Lib.hid hY4
  clear hY4
  obtain ⟨bl, hbl⟩ : ∃ bl, bl = (wrE false (pl9 F.GG) (F.GG.length + 1) != 0) := ⟨_, rfl⟩
  have HBL := Lib.hid hbl
  clear hbl
  go_upto_if 17 with (first | (refine fb_load rfl _ rfl (by rfl) (by with_reducible exact hB4) hC1 ?_) | (go_at_call 12; (with_reducible refine HPL.out.mono ?_); rintro e w5 ⟨A5, c5, rfl, hR5, hS5⟩) | (go_at_call 43; (with_reducible refine (fn_long A5 c5 (F.GG.length + 1) F.GG w5 hR5 rfl (by have := HG.out.glys; omega)).mono ?_); rintro e w6 ⟨rfl, hS6⟩))
  have hY6 := (HY4.out.since hS5).since hS6
  rw [← HBL.out]
  clear HY4 HPL hB4 hS5 hS6 hR5 hC1
  go_cut [] (fun wx => SyS w wx y (syG F))
  case first =>
    have hB6 := hY6.b
    have d6 := BoxL.cell hB6 6 (v := .bool F.h.l) rfl
    have f6 := BoxL.frz hB6 6
    have hlb := BoxL.lt hB6
    cases bl
    · go_wp2_with fail
      go_meet
      have e : syH F = F.h := by unfold syH; rw [← HBL.out, Bool.or_false]
      exact hY6.box (Nigh.refl _ _) (by unfold syG; rw [e]; exact hB6) rfl rfl rfl
    · go_wp2_with fail
      go_meet
      have e : syH F = ⟨F.h.em, F.h.a, F.h.b, F.h.c, F.h.d, true⟩ := by unfold syH; rw [← HBL.out, Bool.or_true]
      exact hY6.box ((Nigh.refl _ _).set 6 (.bool true)) (by unfold syG; rw [e]; exact BoxL.set hB6 6 (.bool true)) rfl rfl rfl
  case rest =>
    clear hY6 HFR
    obtain ⟨wq, hwq⟩ : ∃ wq, wq = wc := ⟨_, rfl⟩
    subst hwq
    have hYc := hcut
    clear hcut
    have k0 := BoxL.cell hYc.b 0 (v := .slice y.At F.TT.length y.ct) rfl
    have hlb := BoxL.lt hYc.b
    have HLK := Lib.hid (fun b w2 (h2 : Since wq w2) ty hb => look3 F.TT tgHead tgMaxp tgHhea y.At F.TT.length y.ct b wq w2 hYc.rd.tabs rfl (by have := HG.out.tabs; simp only [maxLen]; omega) (fun T hT => by have := (HG.out.dats T hT).1; omega) h2 ty hb)
    rw [look3E] at HLK
    have hr8 := hYc.r
    have hs8 := hYc.s
    have hz8 := hYc.lt2
    have HYC := Lib.hid hYc
    clear hYc
    cases h3 : three9 F.TT
    · have hE := Lib.hid (show syE F = 8 by unfold syE; rw [if_pos h3])
      unfold three9 at h3
      rw [h3] at HLK
      simp only [Bool.false_eq_true, if_false] at HLK
      clear h3 HYC hz8
      go_wp2_with (first | (go_at_call 44; (with_reducible refine (HLK.out _ _ (Since.refl _) _ rfl).mono ?_); rintro e w7 ⟨A7, c7, rfl, hO7, hS7⟩; have hr7 := hr8.since hS7; have hs7 := hs8.trans hS7) | (refine wp_fn_store rfl _ _ rfl (by rfl) (by with_reducible exact hr7) zX 0 zH zM 0 0 0 (by rfl) ?_; intro wz hz hNz))
      refine ret_agg_tmp (P := Tryz.prog) Tryz.results17 (by rfl) hz.1 Tryz.underlying30 rfl infoFn (by rfl) rfl (sync_no hE.out (by omega) (hNz.2 w hs7 (by omega)))
    · have h3' := h3
      unfold three9 at h3'
      rw [h3'] at HLK
      simp only [if_true] at HLK
      clear h3'
      go_upto_region 8 with (go_at_call 44; (with_reducible refine (HLK.out _ _ (Since.refl _) _ rfl).mono ?_); rintro e w7 ⟨A7, c7, rfl, hO7, hS7⟩; obtain ⟨q, A0, n0, c0, A1, n1, c1, A2, n2, c2, rfl, hD7, hq7⟩ := dat3_of hO7 hz8; clear hO7)
      have hEE := syE.eq_1 F
      rw [h3, if_neg (by simp)] at hEE
      obtain ⟨L0, hL0⟩ : ∃ L, L = dat9 F.TT tgHead := ⟨_, rfl⟩
      obtain ⟨L1, hL1⟩ : ∃ L, L = dat9 F.TT tgMaxp := ⟨_, rfl⟩
      obtain ⟨L2, hL2⟩ : ∃ L, L = dat9 F.TT tgHhea := ⟨_, rfl⟩
      have hx0 : L0.length ≤ 40000 := by rw [hL0]; exact dat_len (fun T hT => (HG.out.dats T hT).1)
      have hx1 : L1.length ≤ 40000 := by rw [hL1]; exact dat_len (fun T hT => (HG.out.dats T hT).1)
      have hx2 : L2.length ≤ 40000 := by rw [hL2]; exact dat_len (fun T hT => (HG.out.dats T hT).1)
      rw [← hL0, ← hL1, ← hL2] at hEE
      have HX0 := Lib.hid hx0
      have HX1 := Lib.hid hx1
      have HX2 := Lib.hid hx2
      have HST := Lib.hid (show syT F = syU F.TT (phB L0 (syH F)) (mpB L1 (syM F)) (pcB L2 F.ct) 3 by rw [hL0, hL1, hL2]; rfl)
      have HH0 := Lib.hid (show three9 F.TT = true from h3)
      rw [← hL0, ← hL1, ← hL2] at hD7
      obtain ⟨E0, hE0⟩ : ∃ E, E = phEL L0 (syH F) := ⟨_, rfl⟩
      obtain ⟨E1, hE1⟩ : ∃ E, E = mpEL L1 (syM F) := ⟨_, rfl⟩
      obtain ⟨E2, hE2⟩ : ∃ E, E = pcEL L2 F.ct := ⟨_, rfl⟩
      rw [← hE0, ← hE1, ← hE2] at hEE
      have HEE := Lib.hid hEE
      have HE0 := Lib.hid hE0.symm
      have HE1 := Lib.hid hE1.symm
      have HE2 := Lib.hid hE2.symm
      have HDL := Lib.hid (show L0 = dat9 F.TT tgHead ∧ L1 = dat9 F.TT tgMaxp ∧ L2 = dat9 F.TT tgHhea from ⟨hL0, hL1, hL2⟩)
      have hSc : Since wq w7 := hS7
      clear hEE h3 HLK hr8 hs8 hz8 k0 hlb hS7 hL0 hL1 hL2 hE0 hE1 hE2 hx0 hx1 hx2
      have HIM := Lib.hid (show In64 (syM F).g ∧ In64 (syM F).p ∧ In64 (syM F).c ∧ In64 (syM F).q ∧ In64 (syM F).r ∧ In64 (syM F).e ∧ In64 (syM F).d from ⟨by show In64 ((F.GG.length : Nat) : Int); unfold In64; omega, HW.out.mx.2⟩)
      have ht8 := HT.out.since (HYC.out.s.trans hSc)
      have HPH := Lib.hid (fun (w2 : World) (h2 : Since w7 w2) => fn_puthead A0 c0 n0 L0 (syH F) w2 (ht8.since h2).b (hD7.since h2).r0.1 hD7.e0 HW.out.hd (by have := HX0.out; omega) E0 HE0.out)
      have hYb := BoxL.since HYC.out.b hSc
      have p1 := BoxL.cell hYb 1 (v := .int .i64 (syH F).em) rfl
      have p2 := BoxL.cell hYb 2 (v := .int .i64 (syH F).a) rfl
      have p3 := BoxL.cell hYb 3 (v := .int .i64 (syH F).b) rfl
      have p4 := BoxL.cell hYb 4 (v := .int .i64 (syH F).c) rfl
      have p5 := BoxL.cell hYb 5 (v := .int .i64 (syH F).d) rfl
      have p6 := BoxL.cell hYb 6 (v := .bool (syH F).l) rfl
      have hlb := BoxL.lt hYb
      have d0 := hD7.k0
      have hql := hD7.lt
      have hqc : ¬ q = w.heap.size := by have := hD7.lo; omega
      have HD7 := Lib.hid hD7
      have HSC := Lib.hid hSc
      have hlt8 : wq.heap.size ≤ w7.heap.size := hSc.below.size
      clear hYb hD7 ht8 hSc
      go_cut [5] (fun z wx => z = .int .i64 E0 ∧ Since wq wx ∧ Hid (E0 = 0 → ∃ A n c, Dat3 w wx q A n c A1 n1 c1 A2 n2 c2 (phB L0 (syH F)) L1 L2))
      case first =>
        go_region_law (go_simp; go_wp2_with (go_at_call 45; (with_reducible refine (HPH.out _ (by (repeat (first | with_reducible (exact Since.refl _) | with_reducible assumption | with_reducible (refine Since.drew ?_) | with_reducible (refine Since.drewN ?_ _) | with_reducible (refine Since.alloc ?_ _) | (with_reducible (refine Since.setCell ?_ ?_ _); rotate_left; focus (first | (simp; done) | (simp; omega) | omega)) | (with_reducible (refine Since.trans ?_ (by with_reducible assumption))))))).mono ?_); rintro e w9 ⟨A', n', c', rfl, hN9, hS9⟩; have hX9 : Since w7 w9 := (by (repeat (first | with_reducible (exact Since.refl _) | with_reducible assumption | with_reducible (refine Since.drew ?_) | with_reducible (refine Since.drewN ?_ _) | with_reducible (refine Since.alloc ?_ _) | (with_reducible (refine Since.setCell ?_ ?_ _); rotate_left; focus (first | (simp; done) | (simp; omega) | omega)) | (with_reducible (refine Since.trans ?_ (by with_reducible assumption)))))); have hD9 := HD7.out.since hX9; have y0 := hD9.k0; have yf := hD9.fz 0; have yl := hD9.lt; have HN9 := Lib.hid hN9; clear hN9))
        all_goals go_wp2_with fail
        all_goals go_meet
        all_goals exact ⟨by first | rfl | simp, (HSC.out.trans hX9).setCell (p := ⟨q, _, none⟩) hq7 _, Lib.hid (fun h0 => ⟨A', n', c', hD9.put0 (HN9.out h0).1 (RdN.sub (HN9.out h0).2 (HSC.out.below.size) HYC.out.lt2 hql)⟩)⟩
      obtain ⟨rfl, hSc, HDN⟩ := hcut
      clear p1 p2 p3 p4 p5 p6 hlb d0 hql hqc HD7 HSC HPH hlt8
      by_cases h0 : E0 = 0
      rotate_left
      · have hE := Lib.hid (show syE F = E0 by rw [HEE.out]; rw [if_pos h0])
        have hne := Lib.hid h0
        have dE : (E0 != 0) = true := by simpa using h0
        have hr9 := HYC.out.r.since hSc
        have hs9 := HYC.out.s.trans hSc
        clear h0 HDN
        go_wp2_with (refine wp_fn_store rfl _ _ rfl (by rfl) (by with_reducible exact hr9) zX 0 zH zM 0 0 0 (by rfl) ?_; intro wz hz hNz)
        refine ret_agg_tmp (P := Tryz.prog) Tryz.results17 (by rfl) hz.1 Tryz.underlying30 rfl infoFn (by rfl) rfl (sync_no hE.out hne.out (hNz.2 w hs9 (by omega)))
      obtain ⟨A0', n0', c0', hD7⟩ := HDN.out h0
      have HZ0 := Lib.hid h0
      subst h0
      clear HDN
      go_upto_region 11 with fail
      have ht11 := HT.out.since (HYC.out.s.trans hSc)
      have HPH := Lib.hid (fun (w2 : World) (h2 : Since wc w2) => fn_putmaxp A1 c1 n1 L1 (syM F) w2 (ht11.since h2) (hD7.since h2).r1.1 hD7.e1 HIM.out (by have := HX1.out; omega) E1 HE1.out)
      have hYb := BoxL.since HYC.out.b hSc
      have p7 := BoxL.cell hYb 7 (v := .int .i64 (syM F).g) rfl
      have p8 := BoxL.cell hYb 8 (v := .int .i64 (syM F).p) rfl
      have p9 := BoxL.cell hYb 9 (v := .int .i64 (syM F).c) rfl
      have p10 := BoxL.cell hYb 10 (v := .int .i64 (syM F).q) rfl
      have p11 := BoxL.cell hYb 11 (v := .int .i64 (syM F).r) rfl
      have p12 := BoxL.cell hYb 12 (v := .int .i64 (syM F).e) rfl
      have p13 := BoxL.cell hYb 13 (v := .int .i64 (syM F).d) rfl
      have hlb := BoxL.lt hYb
      have d0 := hD7.k1
      have hql := hD7.lt
      have hqc : ¬ q = w.heap.size := by have := hD7.lo; omega
      have HD7 := Lib.hid hD7
      have HSC := Lib.hid hSc
      have hlt11 : wq.heap.size ≤ wc.heap.size := hSc.below.size
      clear hYb hD7 ht11 hSc
      go_cut [5] (fun z wx => z = .int .i64 E1 ∧ Since wq wx ∧ Hid (E1 = 0 → ∃ A n c, Dat3 w wx q A0' n0' c0' A n c A2 n2 c2 (phB L0 (syH F)) (mpB L1 (syM F)) L2))
      case first =>
        go_region_law (go_simp; go_wp2_with (go_at_call 46; (with_reducible refine (HPH.out _ (by (repeat (first | with_reducible (exact Since.refl _) | with_reducible assumption | with_reducible (refine Since.drew ?_) | with_reducible (refine Since.drewN ?_ _) | with_reducible (refine Since.alloc ?_ _) | (with_reducible (refine Since.setCell ?_ ?_ _); rotate_left; focus (first | (simp; done) | (simp; omega) | omega)) | (with_reducible (refine Since.trans ?_ (by with_reducible assumption))))))).mono ?_); rintro e w9 ⟨A', n', c', rfl, hN9, hS9⟩; have hX9 : Since wc w9 := (by (repeat (first | with_reducible (exact Since.refl _) | with_reducible assumption | with_reducible (refine Since.drew ?_) | with_reducible (refine Since.drewN ?_ _) | with_reducible (refine Since.alloc ?_ _) | (with_reducible (refine Since.setCell ?_ ?_ _); rotate_left; focus (first | (simp; done) | (simp; omega) | omega)) | (with_reducible (refine Since.trans ?_ (by with_reducible assumption)))))); have hD9 := HD7.out.since hX9; have y0 := hD9.k1; have yf := hD9.fz 1; have yl := hD9.lt; have HN9 := Lib.hid hN9; clear hN9))
        all_goals go_wp2_with fail
        all_goals go_meet
        all_goals exact ⟨by first | rfl | simp, (HSC.out.trans hX9).setCell (p := ⟨q, _, none⟩) hq7 _, Lib.hid (fun h0 => ⟨A', n', c', hD9.put1 (HN9.out h0).1 (RdN.sub (HN9.out h0).2 (HSC.out.below.size) HYC.out.lt2 hql)⟩)⟩
      obtain ⟨rfl, hSc, HDN⟩ := hcut
      clear p7 p8 p9 p10 p11 p12 p13 hlb d0 hql hqc HD7 HSC HPH hlt11
      by_cases h1 : E1 = 0
      rotate_left
      · have hE := Lib.hid (show syE F = E1 by rw [HEE.out]; rw [if_neg (by simp), if_pos h1])
        have hne := Lib.hid h1
        have dE : (E1 != 0) = true := by simpa using h1
        have hr9 := HYC.out.r.since hSc
        have hs9 := HYC.out.s.trans hSc
        clear h1 HDN
        go_wp2_with (refine wp_fn_store rfl _ _ rfl (by rfl) (by with_reducible exact hr9) zX 0 zH zM 0 0 0 (by rfl) ?_; intro wz hz hNz)
        refine ret_agg_tmp (P := Tryz.prog) Tryz.results17 (by rfl) hz.1 Tryz.underlying30 rfl infoFn (by rfl) rfl (sync_no hE.out hne.out (hNz.2 w hs9 (by omega)))
      obtain ⟨A1', n1', c1', hD7⟩ := HDN.out h1
      have HZ1 := Lib.hid h1
      subst h1
      clear HDN
      go_upto_region 14 with fail
      have ht14 := HT.out.since (HYC.out.s.trans hSc)
      have HPH := Lib.hid (fun (w2 : World) (h2 : Since wc w2) => fn_putcount A2 c2 n2 L2 F.ct w2 (hD7.since h2).r2.1 hD7.e2 HW.out.ct (by have := HX2.out; omega) E2 HE2.out)
      have hYb := BoxL.since HYC.out.b hSc
      have p15 := BoxL.cell hYb 15 (v := .int .i64 F.ct) rfl
      have hlb := BoxL.lt hYb
      have d0 := hD7.k2
      have hql := hD7.lt
      have hqc : ¬ q = w.heap.size := by have := hD7.lo; omega
      have HD7 := Lib.hid hD7
      have HSC := Lib.hid hSc
      have hlt14 : wq.heap.size ≤ wc.heap.size := hSc.below.size
      clear hYb hD7 ht14 hSc
      go_cut [5] (fun z wx => z = .int .i64 E2 ∧ Since wq wx ∧ Hid (E2 = 0 → ∃ A n c, Dat3 w wx q A0' n0' c0' A1' n1' c1' A n c (phB L0 (syH F)) (mpB L1 (syM F)) (pcB L2 F.ct)))
      case first =>
        go_region_law (go_simp; go_wp2_with (go_at_call 47; (with_reducible refine (HPH.out _ (by (repeat (first | with_reducible (exact Since.refl _) | with_reducible assumption | with_reducible (refine Since.drew ?_) | with_reducible (refine Since.drewN ?_ _) | with_reducible (refine Since.alloc ?_ _) | (with_reducible (refine Since.setCell ?_ ?_ _); rotate_left; focus (first | (simp; done) | (simp; omega) | omega)) | (with_reducible (refine Since.trans ?_ (by with_reducible assumption))))))).mono ?_); rintro e w9 ⟨A', n', c', rfl, hN9, hS9⟩; have hX9 : Since wc w9 := (by (repeat (first | with_reducible (exact Since.refl _) | with_reducible assumption | with_reducible (refine Since.drew ?_) | with_reducible (refine Since.drewN ?_ _) | with_reducible (refine Since.alloc ?_ _) | (with_reducible (refine Since.setCell ?_ ?_ _); rotate_left; focus (first | (simp; done) | (simp; omega) | omega)) | (with_reducible (refine Since.trans ?_ (by with_reducible assumption)))))); have hD9 := HD7.out.since hX9; have y0 := hD9.k2; have yf := hD9.fz 2; have yl := hD9.lt; have HN9 := Lib.hid hN9; clear hN9))
        all_goals go_wp2_with fail
        all_goals go_meet
        all_goals exact ⟨by first | rfl | simp, (HSC.out.trans hX9).setCell (p := ⟨q, _, none⟩) hq7 _, Lib.hid (fun h0 => ⟨A', n', c', hD9.put2 (HN9.out h0).1 (RdN.sub (HN9.out h0).2 (HSC.out.below.size) HYC.out.lt2 hql)⟩)⟩
      obtain ⟨rfl, hSc, HDN⟩ := hcut
      clear p15 hlb d0 hql hqc HD7 HSC HPH hlt14
      by_cases h2 : E2 = 0
      rotate_left
      · have hE := Lib.hid (show syE F = E2 by rw [HEE.out]; rw [if_neg (by simp), if_neg (by simp)])
        have hne := Lib.hid h2
        have dE : (E2 != 0) = true := by simpa using h2
        have hr9 := HYC.out.r.since hSc
        have hs9 := HYC.out.s.trans hSc
        clear h2 HDN
        go_wp2_with (refine wp_fn_store rfl _ _ rfl (by rfl) (by with_reducible exact hr9) zX 0 zH zM 0 0 0 (by rfl) ?_; intro wz hz hNz)
        refine ret_agg_tmp (P := Tryz.prog) Tryz.results17 (by rfl) hz.1 Tryz.underlying30 rfl infoFn (by rfl) rfl (sync_no hE.out hne.out (hNz.2 w hs9 (by omega)))
      obtain ⟨A2', n2', c2', hD7⟩ := HDN.out h2
      have HZ2 := Lib.hid h2
      subst h2
      clear HDN
      have hE := Lib.hid (show syE F = 0 by rw [HEE.out, if_neg (by simp), if_neg (by simp)])
      have HD0 := Lib.hid (show (phB L0 (syH F)).length ≤ 40000 by rw [phB_len]; exact HX0.out)
      have HD1 := Lib.hid (show (mpB L1 (syM F)).length ≤ 40000 by rw [mpB_len]; exact HX1.out)
      have HD2 := Lib.hid (show (pcB L2 F.ct).length ≤ 40000 by rw [pcB_len]; exact HX2.out)
      have HFEW := Lib.hid (syU_few HG.out (phB L0 (syH F)) (mpB L1 (syM F)) (pcB L2 F.ct) HD0.out HD1.out HD2.out)
      clear HE0 HE1 HE2 HX0 HX1 HX2 HEE HIM HZ0 HZ1 HZ2 HDL HH0
      generalize phB L0 (syH F) = D0 at *
      generalize mpB L1 (syM F) = D1 at *
      generalize pcB L2 F.ct = D2 at *
      have hYs : SyS w wc y ⟨syU F.TT D0 D1 D2 0, syH F, syM F, F.MM, F.ct, F.GG⟩ := HYC.out.since hSc
      have HYS := Lib.hid hYs
      have HD7 := Lib.hid hD7
      clear hYs hD7 hSc
      go_wp2_with fail
      go_loopw [77] (fun v wr => ∃ (j : Nat) (z : Fh), j ≤ 3 ∧ v = .int .i64 (j : Int) ∧ SyS w wr z ⟨syU F.TT D0 D1 D2 j, syH F, syM F, F.MM, F.ct, F.GG⟩ ∧ Dat3 w wr q A0' n0' c0' A1' n1' c1' A2' n2' c2' D0 D1 D2) (fun v _ => 3 - (intOf v).toNat)
      case atStart => exact ⟨0, y, by omega, rfl, HYS.out, HD7.out⟩
      case round =>
        obtain ⟨j, z, hj, rfl, hYr, hDr⟩ := hrel
        clear HYS HD7
        rcases (show j = 0 ∨ j = 1 ∨ j = 2 ∨ j = 3 by omega) with rfl | rfl | rfl | rfl

        · have hfw := HFEW.out 0
          have HWI := Lib.hid (fun (w2 : World) (h2 : Since wr w2) => sf_with z.At (syU F.TT D0 D1 D2 0).length z.ct (syU F.TT D0 D1 D2 0) tgHead A0' n0' c0' D0 w2 (hYr.rd.tabs.on h2) rfl hfw.1 (by omega) ((hDr.since h2).r0.1) hDr.e0 (by have := HD0.out; omega))
          have hYb := hYr.b
          have k0 := BoxL.cell hYb 0 (v := .slice z.At (syU F.TT D0 D1 D2 0).length z.ct) rfl
          have d0 := hDr.k0
          have hlb := BoxL.lt hYb
          have hql := hDr.lt
          have HYR := Lib.hid hYr
          have HDR := Lib.hid hDr
          have hzr := hYr.lt2
          have m1 : (((0 : Nat) : Int)) = 0 := rfl
          rw [m1]
          clear hfw hYb hYr hDr m1
          go_upto_region 20 with fail
          go_region_law (go_simp; go_wp2_with (go_at_call 48; (with_reducible refine (HWI.out _ (by (repeat (first | with_reducible (exact Since.refl _) | with_reducible assumption | with_reducible (refine Since.drew ?_) | with_reducible (refine Since.drewN ?_ _) | with_reducible (refine Since.alloc ?_ _) | (with_reducible (refine Since.setCell ?_ ?_ _); rotate_left; focus (first | (simp; done) | (simp; omega) | omega)) | (with_reducible (refine Since.trans ?_ (by with_reducible assumption))))))).mono ?_); rintro e w9 ⟨v9, rfl, hO9, hS9⟩; obtain ⟨A9, c9, rfl, _, _⟩ := hO9.rd; have hX9 : Since wr w9 := (by (repeat (first | with_reducible (exact Since.refl _) | with_reducible assumption | with_reducible (refine Since.drew ?_) | with_reducible (refine Since.drewN ?_ _) | with_reducible (refine Since.alloc ?_ _) | (with_reducible (refine Since.setCell ?_ ?_ _); rotate_left; focus (first | (simp; done) | (simp; omega) | omega)) | (with_reducible (refine Since.trans ?_ (by with_reducible assumption)))))); have hY9 := HYR.out.since hX9; have k9 := BoxL.cell hY9.b 0 (v := .slice z.At (syU F.TT D0 D1 D2 0).length z.ct) rfl; have f9 := BoxL.frz hY9.b 0; have l9 := BoxL.lt hY9.b; have HY9 := Lib.hid hY9; have HO9 := Lib.hid (OwnT.low (base' := w.heap.size + 2) hO9 (by first | exact hzr | (simp; exact hzr))); clear hY9 hO9))
          all_goals go_wp2_with fail
          all_goals go_roundw
          all_goals first | (simp [intOf]; done) | (simp [intOf]; omega) | first | exact ⟨1, ⟨A9, c9, z.Am, z.cm, z.Ag, z.cg⟩, by omega, by first | rfl | go_num | simp, HY9.out.putT HO9.out, (HDR.out.since hX9).nigh ((Nigh.refl _ _).set _ _) (by omega)⟩ | ((repeat apply Exists.intro); refine ⟨?_, rfl⟩; exact ⟨1, ⟨A9, c9, z.Am, z.cm, z.Ag, z.cg⟩, by omega, by first | rfl | go_num | simp, HY9.out.putT HO9.out, (HDR.out.since hX9).nigh ((Nigh.refl _ _).set _ _) (by omega)⟩)

        · have hfw := HFEW.out 1
          have HWI := Lib.hid (fun (w2 : World) (h2 : Since wr w2) => sf_with z.At (syU F.TT D0 D1 D2 1).length z.ct (syU F.TT D0 D1 D2 1) tgMaxp A1' n1' c1' D1 w2 (hYr.rd.tabs.on h2) rfl hfw.1 (by omega) ((hDr.since h2).r1.1) hDr.e1 (by have := HD1.out; omega))
          have hYb := hYr.b
          have k0 := BoxL.cell hYb 0 (v := .slice z.At (syU F.TT D0 D1 D2 1).length z.ct) rfl
          have d0 := hDr.k1
          have hlb := BoxL.lt hYb
          have hql := hDr.lt
          have HYR := Lib.hid hYr
          have HDR := Lib.hid hDr
          have hzr := hYr.lt2
          have m1 : (((1 : Nat) : Int)) = 1 := rfl
          rw [m1]
          clear hfw hYb hYr hDr m1
          go_upto_region 20 with fail
          go_region_law (go_simp; go_wp2_with (go_at_call 48; (with_reducible refine (HWI.out _ (by (repeat (first | with_reducible (exact Since.refl _) | with_reducible assumption | with_reducible (refine Since.drew ?_) | with_reducible (refine Since.drewN ?_ _) | with_reducible (refine Since.alloc ?_ _) | (with_reducible (refine Since.setCell ?_ ?_ _); rotate_left; focus (first | (simp; done) | (simp; omega) | omega)) | (with_reducible (refine Since.trans ?_ (by with_reducible assumption))))))).mono ?_); rintro e w9 ⟨v9, rfl, hO9, hS9⟩; obtain ⟨A9, c9, rfl, _, _⟩ := hO9.rd; have hX9 : Since wr w9 := (by (repeat (first | with_reducible (exact Since.refl _) | with_reducible assumption | with_reducible (refine Since.drew ?_) | with_reducible (refine Since.drewN ?_ _) | with_reducible (refine Since.alloc ?_ _) | (with_reducible (refine Since.setCell ?_ ?_ _); rotate_left; focus (first | (simp; done) | (simp; omega) | omega)) | (with_reducible (refine Since.trans ?_ (by with_reducible assumption)))))); have hY9 := HYR.out.since hX9; have k9 := BoxL.cell hY9.b 0 (v := .slice z.At (syU F.TT D0 D1 D2 1).length z.ct) rfl; have f9 := BoxL.frz hY9.b 0; have l9 := BoxL.lt hY9.b; have HY9 := Lib.hid hY9; have HO9 := Lib.hid (OwnT.low (base' := w.heap.size + 2) hO9 (by first | exact hzr | (simp; exact hzr))); clear hY9 hO9))
          all_goals go_wp2_with fail
          all_goals go_roundw
          all_goals first | (simp [intOf]; done) | (simp [intOf]; omega) | first | exact ⟨2, ⟨A9, c9, z.Am, z.cm, z.Ag, z.cg⟩, by omega, by first | rfl | go_num | simp, HY9.out.putT HO9.out, (HDR.out.since hX9).nigh ((Nigh.refl _ _).set _ _) (by omega)⟩ | ((repeat apply Exists.intro); refine ⟨?_, rfl⟩; exact ⟨2, ⟨A9, c9, z.Am, z.cm, z.Ag, z.cg⟩, by omega, by first | rfl | go_num | simp, HY9.out.putT HO9.out, (HDR.out.since hX9).nigh ((Nigh.refl _ _).set _ _) (by omega)⟩)

        · have hfw := HFEW.out 2
          have HWI := Lib.hid (fun (w2 : World) (h2 : Since wr w2) => sf_with z.At (syU F.TT D0 D1 D2 2).length z.ct (syU F.TT D0 D1 D2 2) tgHhea A2' n2' c2' D2 w2 (hYr.rd.tabs.on h2) rfl hfw.1 (by omega) ((hDr.since h2).r2.1) hDr.e2 (by have := HD2.out; omega))
          have hYb := hYr.b
          have k0 := BoxL.cell hYb 0 (v := .slice z.At (syU F.TT D0 D1 D2 2).length z.ct) rfl
          have d0 := hDr.k2
          have hlb := BoxL.lt hYb
          have hql := hDr.lt
          have HYR := Lib.hid hYr
          have HDR := Lib.hid hDr
          have hzr := hYr.lt2
          have m1 : (((2 : Nat) : Int)) = 2 := rfl
          rw [m1]
          clear hfw hYb hYr hDr m1
          go_upto_region 20 with fail
          go_region_law (go_simp; go_wp2_with (go_at_call 48; (with_reducible refine (HWI.out _ (by (repeat (first | with_reducible (exact Since.refl _) | with_reducible assumption | with_reducible (refine Since.drew ?_) | with_reducible (refine Since.drewN ?_ _) | with_reducible (refine Since.alloc ?_ _) | (with_reducible (refine Since.setCell ?_ ?_ _); rotate_left; focus (first | (simp; done) | (simp; omega) | omega)) | (with_reducible (refine Since.trans ?_ (by with_reducible assumption))))))).mono ?_); rintro e w9 ⟨v9, rfl, hO9, hS9⟩; obtain ⟨A9, c9, rfl, _, _⟩ := hO9.rd; have hX9 : Since wr w9 := (by (repeat (first | with_reducible (exact Since.refl _) | with_reducible assumption | with_reducible (refine Since.drew ?_) | with_reducible (refine Since.drewN ?_ _) | with_reducible (refine Since.alloc ?_ _) | (with_reducible (refine Since.setCell ?_ ?_ _); rotate_left; focus (first | (simp; done) | (simp; omega) | omega)) | (with_reducible (refine Since.trans ?_ (by with_reducible assumption)))))); have hY9 := HYR.out.since hX9; have k9 := BoxL.cell hY9.b 0 (v := .slice z.At (syU F.TT D0 D1 D2 2).length z.ct) rfl; have f9 := BoxL.frz hY9.b 0; have l9 := BoxL.lt hY9.b; have HY9 := Lib.hid hY9; have HO9 := Lib.hid (OwnT.low (base' := w.heap.size + 2) hO9 (by first | exact hzr | (simp; exact hzr))); clear hY9 hO9))
          all_goals go_wp2_with fail
          all_goals go_roundw
          all_goals first | (simp [intOf]; done) | (simp [intOf]; omega) | first | exact ⟨3, ⟨A9, c9, z.Am, z.cm, z.Ag, z.cg⟩, by omega, by first | rfl | go_num | simp, HY9.out.putT HO9.out, (HDR.out.since hX9).nigh ((Nigh.refl _ _).set _ _) (by omega)⟩ | ((repeat apply Exists.intro); refine ⟨?_, rfl⟩; exact ⟨3, ⟨A9, c9, z.Am, z.cm, z.Ag, z.cg⟩, by omega, by first | rfl | go_num | simp, HY9.out.putT HO9.out, (HDR.out.since hX9).nigh ((Nigh.refl _ _).set _ _) (by omega)⟩)

        · have hb := hYr.b
          have hr := hYr.r
          have m1 : (((3 : Nat) : Int)) = 3 := rfl
          rw [m1]
          obtain ⟨C3, hC3⟩ : ∃ C3, CV z ⟨syU F.TT D0 D1 D2 3, syH F, syM F, F.MM, F.ct, F.GG⟩ C3 := ⟨_, rfl⟩
          have HYR := Lib.hid hYr
          clear hYr hDr m1
          go_wp2_with (first | (refine fb_load rfl _ rfl (by rfl) (by with_reducible exact hb) hC3 ?_) | (refine fb_store rfl _ _ rfl (by rfl) (by with_reducible exact hr) hC3 (by rfl) ?_; intro wz hz hNz))
          refine ret_agg_tmp (P := Tryz.prog) Tryz.results17 (by rfl) hz.1 Tryz.underlying30 rfl infoFn (by rfl) rfl (sync_yes hE.out (hNz.2 w HYR.out.s (by omega)) (by have h9 := HYR.out.o.nigh hNz (by omega); unfold syF; rw [HST.out]; exact h9) (by rw [HST.out]) rfl rfl rfl rfl rfl)
end Go.Proofs.YteckkcpnfeoehaaGreatDoor
