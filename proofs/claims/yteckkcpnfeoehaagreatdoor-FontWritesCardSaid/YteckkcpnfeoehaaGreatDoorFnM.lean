/-
  Layer 9: Read of the program, walked.
-/
import Derived.Test.YteckkcpnfeoehaaGreatDoorFnMt
namespace Go.Proofs.YteckkcpnfeoehaaGreatDoor
set_option maxRecDepth 100000
open Go.RowKit Go.ChangeShapes Go.WideShapes Go.Deep
set_option linter.unusedVariables false
set_option linter.unusedSimpArgs false

theorem rdT_var {T : List Tb} (h : has9 T tgGvar = true) : rdT9 T = (11, none9) := by unfold rdT9; rw [if_pos h]
theorem rdT_none {T : List Tb} (h : has9 T tgGvar = false) (h2 : (has9 T tgLoca && has9 T tgGlyf && has9 T tgHmtx) = false) : rdT9 T = (8, none9) := by unfold rdT9; rw [if_neg (by rw [h]; simp), if_pos h2]
theorem rdT_fld {T : List Tb} (h : has9 T tgGvar = false) (h2 : (has9 T tgLoca && has9 T tgGlyf && has9 T tgHmtx) = true) (h3 : fldE T ≠ 0) : rdT9 T = (fldE T, none9) := by unfold rdT9; rw [if_neg (by rw [h]; simp), if_neg (by rw [h2]; simp), if_pos h3]
theorem rdT_rng {T : List Tb} (h : has9 T tgGvar = false) (h2 : (has9 T tgLoca && has9 T tgGlyf && has9 T tgHmtx) = true) (h3 : fldE T = 0) (h4 : (fldM T).g < 1 ∨ 1024 < (fldM T).g) : rdT9 T = (6, none9) := by unfold rdT9; rw [if_neg (by rw [h]; simp), if_neg (by rw [h2]; simp), if_neg (by omega), if_pos h4]
theorem rdT_gly {T : List Tb} (h : has9 T tgGvar = false) (h2 : (has9 T tgLoca && has9 T tgGlyf && has9 T tgHmtx) = true) (h3 : fldE T = 0) (h4 : ¬ ((fldM T).g < 1 ∨ 1024 < (fldM T).g)) (h5 : glyE (dat9 T tgLoca) (dat9 T tgGlyf) (fldH T).l (fldM T).g ≠ 0) : rdT9 T = (glyE (dat9 T tgLoca) (dat9 T tgGlyf) (fldH T).l (fldM T).g, none9) := by unfold rdT9; rw [if_neg (by rw [h]; simp), if_neg (by rw [h2]; simp), if_neg (by omega), if_neg h4, if_pos h5]
theorem rdT_met {T : List Tb} (h : has9 T tgGvar = false) (h2 : (has9 T tgLoca && has9 T tgGlyf && has9 T tgHmtx) = true) (h3 : fldE T = 0) (h4 : ¬ ((fldM T).g < 1 ∨ 1024 < (fldM T).g)) (h5 : glyE (dat9 T tgLoca) (dat9 T tgGlyf) (fldH T).l (fldM T).g = 0) (h6 : mtE (dat9 T tgHmtx).length (fldC T) (fldM T).g ≠ 0) : rdT9 T = (mtE (dat9 T tgHmtx).length (fldC T) (fldM T).g, none9) := by unfold rdT9; rw [if_neg (by rw [h]; simp), if_neg (by rw [h2]; simp), if_neg (by omega), if_neg h4, if_neg (by omega), if_pos h6]
theorem Rd.nigh_hi {w w' : World} {B n q : Nat} {A : Option Addr} {V : Nat → Value} (h : Rd w B A n V) (hB : B ≤ w.heap.size) (k : Nigh q w w') (hb : ∀ b o, A = some ⟨b, o, none⟩ → b ≠ q) : Rd w' B A n V := fun hn => by
  obtain ⟨b, o, e, hb', hc⟩ := h hn
  refine ⟨b, o, e, hb', fun j hj => ?_⟩
  rw [← hc j hj]
  have := k.1.2 b (by omega) (hb b o e)
  simp only [World.cell?, this]
theorem rd9_ok {R : Int × Fn9} {F : Fn9} {w w' : World} {x : Fh} {nt nm ng : Nat} (hR : R = (0, F)) (h1 : nt = F.TT.length) (h2 : nm = F.MM.length) (h3 : ng = F.GG.length) (hF : FnR w' w'.heap.size x F) (hc : ng ≤ x.cg) (hS : Since w w') : Rd9P R w (.returned (.tuple #[.agg (fnC x nt F.h F.m nm F.ct ng).toArray, .int .i64 0])) w' := by
  subst hR h1 h2 h3
  exact ⟨x, rfl, hF, hc, hS⟩
def met9 (M : List Int) (C : Nat) (n : Nat) : List (Int × Int) := (List.range n).map (fun i => (mtA (fnL M) C i, mtB (fnL M) C i))
theorem rdT_ok {T : List Tb} (h : has9 T tgGvar = false) (h2 : (has9 T tgLoca && has9 T tgGlyf && has9 T tgHmtx) = true) (h3 : fldE T = 0) (h4 : ¬ ((fldM T).g < 1 ∨ 1024 < (fldM T).g)) (h5 : glyE (dat9 T tgLoca) (dat9 T tgGlyf) (fldH T).l (fldM T).g = 0) (h6 : mtE (dat9 T tgHmtx).length (fldC T) (fldM T).g = 0) : rdT9 T = (0, ⟨T.filter (fun T => !isGen T), fldH T, fldM T, met9 (dat9 T tgHmtx) (fldC T).toNat (fldM T).g.toNat, fldC T, glyG (dat9 T tgLoca) (dat9 T tgGlyf) (fldH T).l (fldM T).g.toNat⟩) := by unfold rdT9; rw [if_neg (by rw [h]; simp), if_neg (by rw [h2]; simp), if_neg (by omega), if_neg h4, if_neg (by omega), if_neg (by omega)]; rfl
theorem met9_len (M : List Int) (C n : Nat) : (met9 M C n).length = n := by unfold met9; simp
theorem met9_rd {w : World} {B : Nat} {A : Option Addr} {M : List Int} {C n : Nat} (h : Rd w B A (n * 2) (MtV (mtA (fnL M) C) (mtB (fnL M) C))) : Rd w B A ((met9 M C n).length * 2) (MtV (mtX (met9 M C n)) (mtY (met9 M C n))) := by
  rw [met9_len]
  refine h.congr fun j hj => ?_
  have hi : j / 2 < n := by omega
  have e : (met9 M C n).getD (j / 2) (0, 0) = (mtA (fnL M) C (j / 2), mtB (fnL M) C (j / 2)) := by
    unfold met9
    rw [List.getD_eq_getElem?_getD, List.getElem?_map, List.getElem?_range hi]; rfl
  unfold MtV mtX mtY
  rw [e]
theorem fld_facts {T : List Tb} (hb : ∀ U, U ∈ T → Bytes U.data) (h : fldE T = 0) : In64 (fldC T) := by
  unfold fldC
  rw [if_pos h]
  have hf : ofL ctE (dat9 T tgHhea) = 0 := by
    unfold fldE at h
    split at h
    · cases h
    · split at h
      · contradiction
      · split at h
        · contradiction
        · exact h
  have hbd : Bytes (dat9 T tgHhea) := dat9_cases (P := Bytes) (fun v hv => by cases hv) hb _
  unfold ofL ctN ctE at *
  split at hf
  · cases hf
  · rename_i hl
    split at hf
    · cases hf
    · rename_i h0
      rw [if_pos (by rw [if_neg hl, if_neg h0])]
      have r := numAt_range (f := fnL (dat9 T tgHhea)) (p := 34) (k := 2) (fun j hj => bytes_fn hbd j (by omega))
      simp only [Int.reducePow] at r
      unfold In64; omega
set_option maxRecDepth 1000000 in
set_option maxHeartbeats 64000000 in
theorem fn_read (A : Option Addr) (n c : Nat) (L : List Int) (w : World) (hT : Tabs w) (h : RdB w w.heap.size A L) (hn : n = L.length) (hb : Bytes L) (hx : n ≤ 140737488355328) (hnc : n ≤ c) :
    Calls Tryz.prog 20 #[.slice A n c] w (Rd9P (rd9 L) w) := by
  have HRD := Lib.hid (fun (w2 : World) (h2 : Since w w2) => sf_read4 A n c L w2 (h.on h2) hn hb hx hnc)
  unfold RdP at HRD
  have hE4 := rd4_facts hb
  have hR9 : rd9 L = if (rd4 L).1 ≠ 0 then ((rd4 L).1, none9) else rdT9 (rd4 L).2 := rfl
  generalize (rd4 L).1 = E4 at *
  generalize (rd4 L).2 = T at *
  generalize rd9 L = R9 at *
  clear h hn hb hx hnc
  by_cases h4 : E4 = 0
  rotate_left
  · have d4 : (E4 == 0) = false := by simpa using h4
    have HX := Lib.hid (show R9 = (E4, none9) by rw [hR9, if_pos h4])
    clear hR9 hE4 h4
    go_enter Tryz.func20, Tryz.ntmps20
    go_upto_region 1 with fail
    refine wp_named fun w1 hw1 => ?_
    have hS1 : Since w w1 := by subst hw1; (repeat (first | with_reducible (exact Since.refl _) | with_reducible assumption | with_reducible (refine Since.drew ?_) | with_reducible (refine Since.drewN ?_ _) | with_reducible (refine Since.alloc ?_ _) | (with_reducible (refine Since.setCell ?_ ?_ _); rotate_left; focus (first | (simp; done) | (simp; omega) | omega)) | (with_reducible (refine Since.trans ?_ (by with_reducible assumption)))))
    have hb1 : BoxL w1 w.heap.size (fnC zX 0 zH zM 0 0 0) := by subst hw1; exact new_fn w _ rfl _
    clear hw1
    go_wp2_with (first | (go_at_call 54; (with_reducible refine (HRD.out _ hS1).mono ?_); rintro e w2 ⟨v2, rfl, hO2, hS2⟩; obtain ⟨A2, c2, rfl, _, hR2⟩ := hO2.rd; have hS2w := hS1.trans hS2; have hb2 := hb1.since hS2) | (refine wp_fn_store rfl _ _ rfl (by rfl) (by with_reducible exact hb2) zX 0 zH zM 0 0 0 (by rfl) ?_; intro wz hz hNz; have hSz := hNz.2 w hS2w (Nat.le_refl _)))
    refine ret_agg_tmp (P := Tryz.prog) Tryz.results20 (by rfl) hz.1 Tryz.underlying30 rfl infoFn (by rfl) rfl (rd9_no HX.out hSz)
  subst h4
  rw [if_neg (by simp)] at hR9
  obtain ⟨hl64, hTb⟩ := hE4 rfl
  have hTl : ∀ U, U ∈ T → U.data.length ≤ 140737488355328 := fun U hU => by have := (hTb U hU).2.1; omega
  have hTy : ∀ U, U ∈ T → Bytes U.data := fun U hU => (hTb U hU).1
  have hmx : T.length ≤ maxLen := by simp only [maxLen]; omega
  have HV := Lib.hid (fun (A2 : Option Addr) (c2 : Nat) (w2 : World) (h : RdTL w2 w2.heap.size A2 T) => fn_any_var A2 T.length c2 T w2 h rfl hmx)
  rw [gvar_is] at HV
  cases hg : has9 T tgGvar
  rotate_left
  · rw [hg] at HV
    have HX := Lib.hid (hR9.trans (rdT_var hg))
    clear hR9 hE4 hg hTb hTl hTy
    go_enter Tryz.func20, Tryz.ntmps20
    go_upto_region 1 with fail
    refine wp_named fun w1 hw1 => ?_
    have hS1 : Since w w1 := by subst hw1; (repeat (first | with_reducible (exact Since.refl _) | with_reducible assumption | with_reducible (refine Since.drew ?_) | with_reducible (refine Since.drewN ?_ _) | with_reducible (refine Since.alloc ?_ _) | (with_reducible (refine Since.setCell ?_ ?_ _); rotate_left; focus (first | (simp; done) | (simp; omega) | omega)) | (with_reducible (refine Since.trans ?_ (by with_reducible assumption)))))
    have hb1 : BoxL w1 w.heap.size (fnC zX 0 zH zM 0 0 0) := by subst hw1; exact new_fn w _ rfl _
    clear hw1
    go_wp2_with (first | (go_at_call 54; (with_reducible refine (HRD.out _ hS1).mono ?_); rintro e w2 ⟨v2, rfl, hO2, hS2⟩; obtain ⟨A2, c2, rfl, _, hR2⟩ := hO2.rd; have hS2w := hS1.trans hS2; have hb2 := hb1.since hS2) | (go_at_call 34; (with_reducible refine (HV.out _ _ _ hR2).mono ?_); rintro e w3 ⟨rfl, hS3⟩; have hS3w := hS2w.trans hS3; have hb3 := hb2.since hS3) | (refine wp_fn_store rfl _ _ rfl (by rfl) (by with_reducible exact hb3) zX 0 zH zM 0 0 0 (by rfl) ?_; intro wz hz hNz; have hSz := hNz.2 w hS3w (Nat.le_refl _)))
    refine ret_agg_tmp (P := Tryz.prog) Tryz.results20 (by rfl) hz.1 Tryz.underlying30 rfl infoFn (by rfl) rfl (rd9_no HX.out hSz)
  rw [hg] at HV
  have HK := Lib.hid (fun (A2 : Option Addr) (c2 b : Nat) (w2 w3 : World) (h : RdTL w2 w2.heap.size A2 T) (hS : Since w2 w3) ty hb => look3 T tgLoca tgGlyf tgHmtx A2 T.length c2 b w2 w3 h rfl hmx hTl hS ty hb)
  rw [look3E] at HK
  cases hh : (has9 T tgLoca && has9 T tgGlyf && has9 T tgHmtx)
  · rw [hh] at HK
    simp only [Bool.false_eq_true, if_false] at HK
    have HX := Lib.hid (hR9.trans (rdT_none hg hh))
    clear hR9 hE4 hg hh hTb hTl hTy
    go_enter Tryz.func20, Tryz.ntmps20
    go_upto_region 1 with fail
    refine wp_named fun w1 hw1 => ?_
    have hS1 : Since w w1 := by subst hw1; (repeat (first | with_reducible (exact Since.refl _) | with_reducible assumption | with_reducible (refine Since.drew ?_) | with_reducible (refine Since.drewN ?_ _) | with_reducible (refine Since.alloc ?_ _) | (with_reducible (refine Since.setCell ?_ ?_ _); rotate_left; focus (first | (simp; done) | (simp; omega) | omega)) | (with_reducible (refine Since.trans ?_ (by with_reducible assumption)))))
    have hb1 : BoxL w1 w.heap.size (fnC zX 0 zH zM 0 0 0) := by subst hw1; exact new_fn w _ rfl _
    clear hw1
    go_wp2_with (first | (go_at_call 54; (with_reducible refine (HRD.out _ hS1).mono ?_); rintro e w2 ⟨v2, rfl, hO2, hS2⟩; obtain ⟨A2, c2, rfl, _, hR2⟩ := hO2.rd; have hS2w := hS1.trans hS2; have hb2 := hb1.since hS2) | (go_at_call 34; (with_reducible refine (HV.out _ _ _ hR2).mono ?_); rintro e w3 ⟨rfl, hS3⟩; have hS3w := hS2w.trans hS3; have hb3 := hb2.since hS3) | (go_at_call 44; (with_reducible refine (HK.out _ _ _ _ _ hR2 hS3 _ rfl).mono ?_); rintro e w4 ⟨A4, c4, rfl, hO4, hS4⟩; have hS4w := hS3w.trans hS4; have hb4 := hb3.since hS4) | (refine wp_fn_store rfl _ _ rfl (by rfl) (by with_reducible exact hb4) zX 0 zH zM 0 0 0 (by rfl) ?_; intro wz hz hNz; have hSz := hNz.2 w hS4w (Nat.le_refl _)))
    refine ret_agg_tmp (P := Tryz.prog) Tryz.results20 (by rfl) hz.1 Tryz.underlying30 rfl infoFn (by rfl) rfl (rd9_no HX.out hSz)
  rw [hh] at HK
  simp only [if_true] at HK
  have HF := Lib.hid (fun (A2 : Option Addr) (c2 : Nat) (w2 : World) (hT2 : Tabs w2) (h : RdTL w2 w2.heap.size A2 T) => fn_fields T A2 T.length c2 w2 hT2 h rfl hmx hTl hTy)
  unfold FldP at HF
  have HDB := Lib.hid (dat9_cases (P := Bytes) (TT := T) (fun v hv => by cases hv) hTy)
  have HDL := Lib.hid (dat9_cases (P := fun L => L.length ≤ 140737488355328) (TT := T) (by simp) hTl)
  have HFF := Lib.hid (fun h => fld_facts hTy h)
  have hTn : 0 < T.length := by
    rcases Nat.eq_zero_or_pos T.length with h0 | h0
    · rw [List.length_eq_zero_iff.1 h0] at hh; cases hh
    · exact h0
  have HTN := Lib.hid hTn
  have H64 := Lib.hid hl64
  have HR9 := Lib.hid hR9
  have HGV := Lib.hid hg
  have HHV := Lib.hid hh
  have HTS := Lib.hid (fun (w2 : World) (h : Since w w2) => hT.since h)
  clear hR9 hE4 hg hh hTb hTl hTy hT hTn hl64 hmx
  obtain ⟨E, hE⟩ : ∃ E, E = fldE T := ⟨_, rfl⟩
  obtain ⟨H, hH⟩ : ∃ H, H = fldH T := ⟨_, rfl⟩
  obtain ⟨M, hM⟩ : ∃ M, M = fldM T := ⟨_, rfl⟩
  obtain ⟨K, hK⟩ : ∃ K, K = fldC T := ⟨_, rfl⟩
  rw [← hE, ← hH, ← hM, ← hK] at HF
  have HE := Lib.hid hE
  have HH := Lib.hid hH
  have HM := Lib.hid hM
  have HKK := Lib.hid hK
  clear hE hH hM hK
  obtain ⟨D0, hD0⟩ : ∃ D, D = dat9 T tgLoca := ⟨_, rfl⟩
  obtain ⟨D1, hD1⟩ : ∃ D, D = dat9 T tgGlyf := ⟨_, rfl⟩
  obtain ⟨D2, hD2⟩ : ∃ D, D = dat9 T tgHmtx := ⟨_, rfl⟩
  rw [← hD0, ← hD1, ← hD2] at HK
  have HD0 := Lib.hid hD0
  have HD1 := Lib.hid hD1
  have HD2 := Lib.hid hD2
  clear hD0 hD1 hD2
  go_enter Tryz.func20, Tryz.ntmps20
  go_upto_region 1 with fail
  refine wp_named fun w1 hw1 => ?_
  have hS1 : Since w w1 := by subst hw1; (repeat (first | with_reducible (exact Since.refl _) | with_reducible assumption | with_reducible (refine Since.drew ?_) | with_reducible (refine Since.drewN ?_ _) | with_reducible (refine Since.alloc ?_ _) | (with_reducible (refine Since.setCell ?_ ?_ _); rotate_left; focus (first | (simp; done) | (simp; omega) | omega)) | (with_reducible (refine Since.trans ?_ (by with_reducible assumption)))))
  have hb1 : BoxL w1 w.heap.size (fnC zX 0 zH zM 0 0 0) := by subst hw1; exact new_fn w _ rfl _
  clear hw1
  go_upto_region 11 with (first | (go_at_call 54; (with_reducible refine (HRD.out _ hS1).mono ?_); rintro e w2 ⟨v2, rfl, hO2, hS2⟩; obtain ⟨A2, c2, rfl, _, hR2⟩ := hO2.rd; have hS2w := hS1.trans hS2; have hb2 := hb1.since hS2) | (go_at_call 34; (with_reducible refine (HV.out _ _ _ hR2).mono ?_); rintro e w3 ⟨rfl, hS3⟩; have hS3w := hS2w.trans hS3; have hb3 := hb2.since hS3) | (go_at_call 44; (with_reducible refine (HK.out _ _ _ _ _ hR2 hS3 _ rfl).mono ?_); rintro e w4 ⟨A4, c4, rfl, hO4, hS4⟩; have hS4w := hS3w.trans hS4; have hb4 := hb3.since hS4) | (refine wp_fn_store rfl _ _ rfl (by rfl) (by with_reducible exact new_fn w4 w4.heap.size rfl _) zX 0 zH zM 0 0 0 (by rfl) ?_; intro w5 hb5 hN5; have hS45 := hN5.2 w4 ((Since.refl w4).alloc _) (Nat.le_refl _); have hS5w := hS4w.trans hS45; have hR5 := ((hR2.on hS3).on hS4).on hS45) | (go_at_call 55; (with_reducible refine (HF.out _ _ _ (HTS.out _ hS5w) hR5).mono ?_); rintro e w6 ⟨rfl, hS6⟩; have hb6 := hb5.since hS6) | (refine wp_fn_hd rfl _ _ rfl (by rfl) (by with_reducible exact hb6) H (by rfl) ?_; intro w7 hb7 hN7) | (refine wp_fn_mx rfl _ _ rfl (by rfl) (by with_reducible exact hb7) M (by rfl) ?_; intro w8 hb8 hN8; have hfz8 := hb8.frz; have hc8 := hb8.cell 15 (v := .int .i64 0) rfl; have hl8 := hb8.lt))
  refine wp_named fun wA hwA => ?_
  have hS46 := hS45.trans hS6
  have hS47 := hN7.2 w4 hS46 (Nat.le_refl _)
  have hS48 := hN8.2 w4 hS47 (Nat.le_refl _)
  have hSA : Since w4 wA := by subst hwA; exact hS48.setCell (p := ⟨w4.heap.size, 15, none⟩) (Nat.le_refl _) _
  have hbA : BoxL wA w4.heap.size (fnC zX 0 H M 0 K 0) := by subst hwA; exact fn_put15 hb8 K
  clear hwA hb5 hb6 hb7 hb8 hN5 hN7 hN8 hfz8 hc8 hl8 hS45 hS46 hS47 hS48 hS5w hR5 hS6
  obtain ⟨q4, c4', e4⟩ := hO2.some HTN.out
  injection e4 with e4 _ e5
  subst e4 e5
  have hSAw := hS4w.trans hSA
  have hbr := hb4.since hSA
  have hRD := (RdBL.ofOwn hO4).keep (fun b o hb => hSA.1 b o hb)
  have hS2A := (hS3.trans hS4).trans hSA
  have HO2 := Lib.hid hO2
  have hq0 : w.heap.size < w4.heap.size := hb4.lt
  have hq2 : w2.heap.size ≤ w4.heap.size := (hS3.trans hS4).below.size
  have hq3 : w.heap.size < w1.heap.size := hb1.lt
  have hq4 : q4 < w2.heap.size := (hO2.lt).2
  have hq5 : w1.heap.size ≤ q4 := (hO2.lt).1
  obtain ⟨q, hq⟩ : ∃ q, q = w4.heap.size := ⟨_, rfl⟩
  rw [← hq] at hbA hRD hq0 hq2 ⊢
  have hqA : q < wA.heap.size := hbA.lt
  have HTA := Lib.hid (show Tabs wA from HTS.out _ hSAw)
  clear hO4 hb4 hS4w hSA hR2 hS2w hb2 hS3 hS3w hb3 hS4 hb1 hO2 HF HRD HV HK hq HTS
  have HQ := Lib.hid (show w.heap.size < q ∧ w2.heap.size ≤ q ∧ w.heap.size < w1.heap.size ∧ q4 < w2.heap.size ∧ q < wA.heap.size ∧ w1.heap.size ≤ q4 from ⟨hq0, hq2, hq3, hq4, hqA, hq5⟩)
  clear hq2 hq3 hq4 hq5
  by_cases hE : E = 0
  rotate_left
  · have dE : (E == 0) = false := by simpa using hE
    have HX := Lib.hid (show R9 = (E, none9) by rw [HR9.out, HE.out]; exact rdT_fld HGV.out HHV.out (by rw [← HE.out]; exact hE))
    clear hE
    go_wp2_with (refine wp_fn_store rfl _ _ rfl (by rfl) (by with_reducible exact hbr) zX 0 zH zM 0 0 0 (by rfl) ?_; intro wz hz hNz; have hSz := hNz.2 w hSAw (Nat.le_refl _))
    refine ret_agg_tmp (P := Tryz.prog) Tryz.results20 (by rfl) hz.1 Tryz.underlying30 rfl infoFn (by rfl) rfl (rd9_no HX.out hSz)
  subst hE
  have c7 := hbA.cell 7 (v := .int .i64 M.g) rfl
  by_cases hrg : M.g < 1 ∨ 1024 < M.g
  · have HX := Lib.hid (show R9 = (6, none9) by rw [HR9.out]; exact rdT_rng HGV.out HHV.out HE.out.symm (by rw [← HM.out]; exact hrg))
    rcases hrg with hr1 | hr1
    · have d1 : decide (M.g < 1) = true := by simpa using hr1
      go_wp2_with (refine wp_fn_store rfl _ _ rfl (by rfl) (by with_reducible exact hbr) zX 0 zH zM 0 0 0 (by rfl) ?_; intro wz hz hNz; have hSz := hNz.2 w hSAw (Nat.le_refl _))
      refine ret_agg_tmp (P := Tryz.prog) Tryz.results20 (by rfl) hz.1 Tryz.underlying30 rfl infoFn (by rfl) rfl (rd9_no HX.out hSz)
    · have d1 : decide (M.g < 1) = false := by simp; omega
      have d2 : decide (1024 < M.g) = true := by simpa using hr1
      go_wp2_with (refine wp_fn_store rfl _ _ rfl (by rfl) (by with_reducible exact hbr) zX 0 zH zM 0 0 0 (by rfl) ?_; intro wz hz hNz; have hSz := hNz.2 w hSAw (Nat.le_refl _))
      refine ret_agg_tmp (P := Tryz.prog) Tryz.results20 (by rfl) hz.1 Tryz.underlying30 rfl infoFn (by rfl) rfl (rd9_no HX.out hSz)
  have HRG := Lib.hid hrg
  have d1 : decide (M.g < 1) = false := by simp; omega
  have d2 : decide (1024 < M.g) = false := by simp; omega
  have hg12 : 1 ≤ M.g ∧ M.g ≤ 1024 := by omega
  have HG12 := Lib.hid hg12
  clear hrg
  go_upto_region 15 with fail
  clear d1 d2 c7
  obtain ⟨GE, hGE⟩ : ∃ E, E = glyE D0 D1 H.l M.g := ⟨_, rfl⟩
  obtain ⟨GL, hGL⟩ : ∃ G, G = if GE = 0 then glyG D0 D1 H.l M.g.toNat else [] := ⟨_, rfl⟩
  have y0 : Bytes D0 := by rw [HD0.out]; exact HDB.out _
  have n0 : D0.length ≤ 140737488355328 := by rw [HD0.out]; exact HDL.out _
  have n1 : D1.length ≤ 140737488355328 := by rw [HD1.out]; exact HDL.out _
  have n2 : D2.length ≤ 140737488355328 := by rw [HD2.out]; exact HDL.out _
  have y2 : Bytes D2 := by rw [HD2.out]; exact HDB.out _
  obtain ⟨bd, od, B0, k0, B1, k1, B2, k2, e4, hbd, d0, d1, d2, r0, r1, r2⟩ := rows3 hRD
  subst e4
  have hk1 : D1.length ≤ k1 := by
    obtain ⟨_, _, A', c', e, _, h0, hc, _⟩ := hRD.row (j := 1) (L := D1) rfl
    injection e with e
    injection e with e1 e2
    subst e1 e2
    have := h0.symm.trans d1
    injection this with this
    injection this with _ _ this
    omega
  have HGC : Hid (∀ w5, Since wA w5 → Calls Tryz.prog 56 #[.slice B0 D0.length k0, .slice B1 D1.length k1, .agg #[.slice none 0 0, .int .i64 H.em, .int .i64 H.a, .int .i64 H.b, .int .i64 H.c, .int .i64 H.d, .bool H.l, .int .i64 M.g, .int .i64 M.p, .int .i64 M.c, .int .i64 M.q, .int .i64 M.r, .int .i64 M.e, .int .i64 M.d, .slice none 0 0, .int .i64 K, .slice none 0 0]] w5 fun e w' => ∃ A5 c5, e = .returned (.tuple #[.slice A5 GL.length c5, .int .i64 GE]) ∧ OwnBL w' wA.heap.size (.slice A5 GL.length c5) GL ∧ GL.length ≤ c5 ∧ Since w5 w') := Lib.hid (fun w5 h5 => by
    have hqw : q ≤ wA.heap.size := Nat.le_of_lt HQ.out.2.2.2.2.1
    have := fn_glyphs zX 0 0 0 H M K B0 B1 k0 k1 D0 D1 w5 ((r0.more hqw).on h5) ((r1.more hqw).on h5) y0 n0 n1 hk1 HG12.out
    refine this.mono ?_
    rintro e w' ⟨v, rfl, hO, hS⟩
    rw [← hGE, ← hGL] at hO
    obtain ⟨A5, c5, rfl, hc, _⟩ := hO.rd
    exact ⟨A5, c5, by rw [← hGE], OwnBL.low hO h5.below.size, hc, hS⟩)
  have HGE := Lib.hid hGE
  have HGL := Lib.hid hGL
  have HY2 := Lib.hid (show Bytes D2 ∧ D2.length ≤ 140737488355328 from ⟨y2, n2⟩)
  clear hGE hGL y0 n0 n1 n2 y2 r0 r1 r2 hk1 hg12
  have f0 := hbA.cell 0 (v := .slice none 0 0) rfl
  have f1 := hbA.cell 1 (v := .int .i64 H.em) rfl
  have f2 := hbA.cell 2 (v := .int .i64 H.a) rfl
  have f3 := hbA.cell 3 (v := .int .i64 H.b) rfl
  have f4 := hbA.cell 4 (v := .int .i64 H.c) rfl
  have f5 := hbA.cell 5 (v := .int .i64 H.d) rfl
  have f6 := hbA.cell 6 (v := .bool H.l) rfl
  have f7 := hbA.cell 7 (v := .int .i64 M.g) rfl
  have f8 := hbA.cell 8 (v := .int .i64 M.p) rfl
  have f9 := hbA.cell 9 (v := .int .i64 M.c) rfl
  have f10 := hbA.cell 10 (v := .int .i64 M.q) rfl
  have f11 := hbA.cell 11 (v := .int .i64 M.r) rfl
  have f12 := hbA.cell 12 (v := .int .i64 M.e) rfl
  have f13 := hbA.cell 13 (v := .int .i64 M.d) rfl
  have f14 := hbA.cell 14 (v := .slice none 0 0) rfl
  have f15 := hbA.cell 15 (v := .int .i64 K) rfl
  have f16 := hbA.cell 16 (v := .slice none 0 0) rfl
  have hfq := hbA.frz
  have HBA := Lib.hid hbA
  have HBR := Lib.hid hbr
  have HRD := Lib.hid hRD
  have hne1 : ¬ bd = q := by omega
  have HSAW := Lib.hid hSAw
  have HS2A := Lib.hid hS2A
  clear hbA hbr hRD hSAw hS2A hq0
  go_cut [5] (fun y w6 => ∃ A5 c5, y = .int .i64 GE ∧ OwnBL w6 wA.heap.size (.slice A5 GL.length c5) GL ∧ GL.length ≤ c5 ∧ BoxL w6 q (fnC ⟨none, 0, none, 0, A5, c5⟩ 0 H M 0 K GL.length) ∧ Nigh q wA w6)
  case first =>
    go_region_with (go_at_call 56; (with_reducible refine (HGC.out _ (by (repeat (first | with_reducible (exact Since.refl _) | with_reducible assumption | with_reducible (refine Since.drew ?_) | with_reducible (refine Since.drewN ?_ _) | with_reducible (refine Since.alloc ?_ _) | (with_reducible (refine Since.setCell ?_ ?_ _); rotate_left; focus (first | (simp; done) | (simp; omega) | omega)) | (with_reducible (refine Since.trans ?_ (by with_reducible assumption))))))).mono ?_); rintro e w6 ⟨A5, c5, rfl, hO5, hc5, hS5⟩; have hSA6 : Since wA w6 := (by first | exact hS5 | exact (((Since.refl wA).drew).trans hS5) | exact (((Since.refl wA).drewN _).trans hS5)); have hbx6 := HBA.out.since hSA6; have g16 := hbx6.cell 16 (v := .slice none 0 0) rfl; have gz := hbx6.frz 16)
    all_goals have hbq := fn_put16 hbx6 A5 GL.length c5
    all_goals have hNq := ((Nigh.refl q wA).since hSA6).set 16 (.slice A5 GL.length c5)
    all_goals have hOq := hO5.nigh ((Nigh.refl q w6).set 16 (.slice A5 GL.length c5)) HQ.out.2.2.2.2.1
    all_goals go_wp2_with fail
    all_goals go_meet
    all_goals exact ⟨A5, c5, rfl, hOq, hc5, hbq, hNq⟩
  case rest =>
    obtain ⟨A5, c5, rfl, hO5, hc5, hb5, hN5⟩ := hcut
    clear f0 f1 f2 f3 f4 f5 f6 f7 f8 f9 f10 f11 f12 f13 f14 f15 f16 hfq d0 d1 d2 HGC
    have hSw5 := hN5.2 w HSAW.out (Nat.le_of_lt HQ.out.1)
    have hS25 := hN5.2 w2 HS2A.out HQ.out.2.1
    have hbr5 := HBR.out.nigh hN5 (Nat.ne_of_lt HQ.out.1)
    by_cases hE2 : GE = 0
    rotate_left
    · have dE : (GE == 0) = false := by simpa using hE2
      have hge := HGE.out
      have HX := Lib.hid (show R9 = (GE, none9) by
        rw [HR9.out, hge, HD0.out, HD1.out, HH.out, HM.out]
        refine rdT_gly HGV.out HHV.out HE.out.symm (by rw [← HM.out]; exact HRG.out) ?_
        rw [← HD0.out, ← HD1.out, ← HH.out, ← HM.out, ← hge]; exact hE2)
      clear hE2 hge
      go_wp2_with (refine wp_fn_store rfl _ _ rfl (by rfl) (by with_reducible exact hbr5) zX 0 zH zM 0 0 0 (by rfl) ?_; intro wz hz hNz; have hSz := hNz.2 w hSw5 (Nat.le_refl _))
      refine ret_agg_tmp (P := Tryz.prog) Tryz.results20 (by rfl) hz.1 Tryz.underlying30 rfl infoFn (by rfl) rfl (rd9_no HX.out hSz)
    subst hE2
    have hRD5 := HRD.out.nigh hN5 (Nat.le_refl q) HQ.out.2.2.2.2.1
    obtain ⟨bd', od', P0, i0, P1, i1, P2, i2, e4, hbd', d0, d1, d2, r0, r1, r2⟩ := rows3 hRD5
    injection e4 with e4
    injection e4 with e4 e5
    subst e4 e5
    have hq5 := hb5.lt
    have hKin : In64 K := by rw [HKK.out]; exact HFF.out HE.out.symm
    have HMC := Lib.hid (fun (w6 : World) (h6 : Since wc w6) => lo_metricsB P2 D2.length i2 (fnL D2) K M.g w6 (rdb_rd ((r2.more (Nat.le_of_lt hq5)).on h6)) (bytes_fn HY2.out.1) hKin (by have := HG12.out; unfold In64; omega) HY2.out.2)
    unfold MtPostB at HMC
    obtain ⟨ME, hME⟩ : ∃ E, E = mtE D2.length K M.g := ⟨_, rfl⟩
    obtain ⟨NM, hNM⟩ : ∃ E, E = mtN D2.length K M.g := ⟨_, rfl⟩
    rw [← hME, ← hNM] at HMC
    have HME := Lib.hid hME
    have HNM := Lib.hid hNM
    have c7 := hb5.cell 7 (v := .int .i64 M.g) rfl
    have c15 := hb5.cell 15 (v := .int .i64 K) rfl
    have HB5 := Lib.hid hb5
    have HO5 := Lib.hid hO5
    have HN5 := Lib.hid hN5
    have hne5 : ¬ bd = q := by omega
    clear hKin hME hNM hRD5 r0 r1 r2 d0 d1 hb5 hO5 hN5
    go_upto_region 18 with fail
    go_cut [5] (fun y w6 => ∃ A6 c6, y = .int .i64 ME ∧ Rd w6 w6.heap.size A6 (NM * 2) (MtV (mtA (fnL D2) K.toNat) (mtB (fnL D2) K.toNat)) ∧ (∀ b o, A6 = some ⟨b, o, none⟩ → wc.heap.size ≤ b) ∧ BoxL w6 q (fnC ⟨none, 0, A6, c6, A5, c5⟩ 0 H M NM K GL.length) ∧ Nigh q wc w6)
    case first =>
      go_region_with (go_at_call 57; (with_reducible refine (HMC.out _ (by (repeat (first | with_reducible (exact Since.refl _) | with_reducible assumption | with_reducible (refine Since.drew ?_) | with_reducible (refine Since.drewN ?_ _) | with_reducible (refine Since.alloc ?_ _) | (with_reducible (refine Since.setCell ?_ ?_ _); rotate_left; focus (first | (simp; done) | (simp; omega) | omega)) | (with_reducible (refine Since.trans ?_ (by with_reducible assumption))))))).mono ?_); rintro e w6 ⟨A6, c6, rfl, _, hR6, hS6, hA6⟩; have hSA6 : Since wc w6 := (by first | exact hS6 | exact (((Since.refl wc).drew).trans hS6) | exact (((Since.refl wc).drewN _).trans hS6)); have hbx6 := HB5.out.since hSA6; have g14 := hbx6.cell 14 (v := .slice none 0 0) rfl; have gz := hbx6.frz 14)
      all_goals have hA7 : ∀ b o, A6 = some ⟨b, o, none⟩ → wc.heap.size ≤ b := (fun b o e => hA6 b o e)
      all_goals have hbq := fn_put14 hbx6 A6 NM c6
      all_goals have hNq := ((Nigh.refl q wc).since hSA6).set 14 (.slice A6 NM c6)
      all_goals have hRq := Rd.nigh_hi hR6 (Nat.le_refl _) ((Nigh.refl q w6).set 14 (.slice A6 NM c6)) (fun b o e => by have := hA7 b o e; omega)
      all_goals have hRq2 := hRq.more (Nigh.set (Nigh.refl q w6) 14 (.slice A6 NM c6)).1.1
      all_goals go_wp2_with fail
      all_goals go_meet
      all_goals exact ⟨A6, c6, rfl, hRq2, hA7, hbq, hNq⟩
    case rest =>
      obtain ⟨A6, c6, rfl, hR6, hA6, hb6, hN6⟩ := hcut
      clear d2 c7 c15 HMC
      have hgly : glyE (dat9 T tgLoca) (dat9 T tgGlyf) (fldH T).l (fldM T).g = 0 := by rw [← HD0.out, ← HD1.out, ← HH.out, ← HM.out]; exact HGE.out.symm
      have hrg9 : ¬ ((fldM T).g < 1 ∨ 1024 < (fldM T).g) := by rw [← HM.out]; exact HRG.out
      have HGY := Lib.hid hgly
      have HR8 := Lib.hid hrg9
      clear hgly hrg9
      have hSw6 := hN6.2 w hSw5 (Nat.le_of_lt HQ.out.1)
      have hS26 := hN6.2 w2 hS25 HQ.out.2.1
      have hbr6 := hbr5.nigh hN6 (Nat.ne_of_lt HQ.out.1)
      by_cases hE3 : ME = 0
      rotate_left
      · have dE : (ME == 0) = false := by simpa using hE3
        have hme := HME.out
        have HX := Lib.hid (show R9 = (ME, none9) by
          rw [HR9.out, hme, HD2.out, HKK.out, HM.out]
          refine rdT_met HGV.out HHV.out HE.out.symm HR8.out HGY.out ?_
          rw [← HD2.out, ← HKK.out, ← HM.out, ← hme]; exact hE3)
        clear hE3 hme
        go_wp2_with (refine wp_fn_store rfl _ _ rfl (by rfl) (by with_reducible exact hbr6) zX 0 zH zM 0 0 0 (by rfl) ?_; intro wz hz hNz; have hSz := hNz.2 w hSw6 (Nat.le_refl _))
        refine ret_agg_tmp (P := Tryz.prog) Tryz.results20 (by rfl) hz.1 Tryz.underlying30 rfl infoFn (by rfl) rfl (rd9_no HX.out hSz)
      subst hE3
      have HDC := Lib.hid (fun (w7 : World) (h7 : Since w2 w7) => fn_delete q4 T.length c2 T w1.heap.size w2 w7 HO2.out h7 (by have := H64.out; omega))
      have HB6 := Lib.hid hb6
      have HR6 := Lib.hid hR6
      have HBR6 := Lib.hid hbr6
      have HN6 := Lib.hid hN6
      have HA6 := Lib.hid hA6
      unfold DelP at HDC
      clear hb6 hR6 hbr6 hN6 hA6 hbr5
      go_upto_region 22 with (go_at_call 58; (with_reducible refine (HDC.out _ hS26).mono ?_); rintro e w7 ⟨A7, c7, rfl, hTS7, hN7⟩; have hb7 := HB6.out.nigh hN7 (Nat.ne_of_gt (Nat.lt_of_lt_of_le HQ.out.2.2.2.1 HQ.out.2.1)); have g0 := hb7.cell 0 (v := .slice none 0 0) rfl; have gz := hb7.frz 0)
      refine wp_named fun wD hwD => ?_
      have hq4q : q4 < q := Nat.lt_of_lt_of_le HQ.out.2.2.2.1 HQ.out.2.1
      have hw4 : w.heap.size < q4 := Nat.lt_of_lt_of_le HQ.out.2.2.1 HQ.out.2.2.2.2.2
      have hN78 : Nigh q w7 wD := by subst hwD; exact (Nigh.refl q w7).set 0 _
      have hb8 : BoxL wD q (fnC ⟨A7, c7, A6, c6, A5, c5⟩ (T.filter (fun T => !isGen T)).length H M NM K GL.length) := by subst hwD; exact fn_put0 hb7 A7 _ c7
      have hbr7 := HBR6.out.nigh hN7 (by omega)
      have hbr8 : BoxL wD w.heap.size (fnC zX 0 zH zM 0 0 0) := hbr7.nigh hN78 (Nat.ne_of_lt HQ.out.1)
      clear hwD hb7 g0 gz hbr7
      have hS8 : Since w wD := hN78.2 w (hN7.2 w hSw6 (Nat.le_of_lt hw4)) (Nat.le_of_lt HQ.out.1)
      have hq5l : w2.heap.size ≤ w7.heap.size := by have := hTS7; have := hb8.lt; have := hN7.1.1; have := HN6.out.1.1; have := hq5; have := HQ.out.2.1; omega
      have hTS8 := hTS7.nigh hN78 (.inr HQ.out.2.1) hq5l
      have hR7 := Rd.nigh_hi HR6.out (Nat.le_refl _) hN7 (fun b o e => by have := HA6.out b o e; omega)
      have hR8 := Rd.nigh_hi hR7 hN7.1.1 hN78 (fun b o e => by have := HA6.out b o e; omega)
      have hO6 := HO5.out.nigh HN6.out HQ.out.2.2.2.2.1
      have hO7 := hO6.nigh hN7 (Nat.lt_trans hq4q HQ.out.2.2.2.2.1)
      have hO8 := hO7.nigh hN78 HQ.out.2.2.2.2.1
      have hmN : NM = M.g.toNat := by
        have h1 := HNM.out
        have h2 := HME.out
        unfold mtN at h1
        rw [← h2, if_pos rfl] at h1
        exact h1
      subst hmN
      have HX : Hid (R9 = (0, (⟨T.filter (fun T => !isGen T), H, M, met9 D2 K.toNat M.g.toNat, K, GL⟩ : Fn9))) := Lib.hid (by
        rw [HR9.out, rdT_ok HGV.out HHV.out HE.out.symm HR8.out HGY.out (by rw [← HD2.out, ← HKK.out, ← HM.out]; exact HME.out.symm), HGL.out, if_pos trivial, ← HD0.out, ← HD1.out, ← HD2.out, ← HH.out, ← HM.out, ← HKK.out])
      have hwcD : wc.heap.size ≤ wD.heap.size := Nat.le_trans hN7.1.1 hN78.1.1
      have HTS8 := Lib.hid hTS8
      have HR80 := Lib.hid hR8
      have HO8 := Lib.hid hO8
      have HN78 := Lib.hid hN78
      have hwn : w.heap.size < w1.heap.size := HQ.out.2.2.1
      clear hTS7 hN7 hTS8 hR7 hR8 hO6 hO7 hO8 hN78
      go_wp2_with (first | (refine wp_fn_load rfl _ rfl (by rfl) (by with_reducible exact hb8) ?_) | (refine wp_fn_store rfl _ _ rfl (by rfl) (by with_reducible exact hbr8) ⟨A7, c7, A6, c6, A5, c5⟩ (T.filter (fun T => !isGen T)).length H M M.g.toNat K GL.length (by rfl) ?_; intro wz hz hNz; have hSz := hNz.2 w hS8 (Nat.le_refl _)))
      have hT9 := (HTS8.out.nigh hNz (.inl hwn) (Nat.le_trans hq5l HN78.out.1.1)).rd
      have hR9' := Rd.nigh_hi HR80.out hwcD hNz (fun b o e => by have := HA6.out b o e; omega)
      have hO9 := HO8.out.nigh hNz (by have := HQ.out; omega)
      refine ret_agg_tmp (P := Tryz.prog) Tryz.results20 (by rfl) hz.1 Tryz.underlying30 rfl infoFn (by rfl) rfl (rd9_ok HX.out rfl (met9_len _ _ _).symm rfl ⟨?_, ?_, ?_⟩ ?_ hSz)
      · exact hT9.more (by have := hNz.1.1; have := HN78.out.1.1; omega)
      · exact met9_rd (hR9'.more (Nat.le_trans hwcD hNz.1.1))
      · exact RdBL.ofOwn hO9
      · exact hc5
end Go.Proofs.YteckkcpnfeoehaaGreatDoor
