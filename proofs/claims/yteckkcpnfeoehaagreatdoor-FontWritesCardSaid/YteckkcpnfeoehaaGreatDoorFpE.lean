/-
  Layer 9: the document's Right, walked.
-/
import Derived.Test.YteckkcpnfeoehaaGreatDoorMpZ
import Derived.Test.YteckkcpnfeoehaaGreatDoorFpD
namespace Go.Proofs.YteckkcpnfeoehaaGreatDoor
set_option maxRecDepth 100000
open Go.RowKit Go.ChangeShapes Go.WideShapes Go.Deep
set_option linter.unusedVariables false
set_option linter.unusedSimpArgs false

@[go_sem] theorem iy0s (a b c d : Value) (w : World) : (Instr.index 59 (.agg #[a, b, c, d]) (.int .i64 0)).run Tryz.prog w = .ok a w := by rfl
@[go_sem] theorem iy1s (a b c d : Value) (w : World) : (Instr.index 59 (.agg #[a, b, c, d]) (.int .i64 1)).run Tryz.prog w = .ok b w := by rfl
@[go_sem] theorem iy2s (a b c d : Value) (w : World) : (Instr.index 59 (.agg #[a, b, c, d]) (.int .i64 2)).run Tryz.prog w = .ok c w := by rfl
@[go_sem] theorem iy3s (a b c d : Value) (w : World) : (Instr.index 59 (.agg #[a, b, c, d]) (.int .i64 3)).run Tryz.prog w = .ok d w := by rfl
def tg4 : Nat → ByteArray
  | 0 => tgLoca
  | 1 => tgGlyf
  | 2 => tgHmtx
  | _ => tgGvar
theorem made_iff (TT : List Tb) : made9 TT = (has9 TT tgLoca || has9 TT tgGlyf || has9 TT tgHmtx) := by
  unfold made9 has9
  induction TT with
  | nil => rfl
  | cons T r ih =>
    simp only [List.any_cons, ih]
    cases eqT tgLoca T <;> cases eqT tgGlyf T <;> cases eqT tgHmtx T <;> simp
theorem tags_no {F : Fn9} {j : Nat} (hj : j < 4) (h : has9 F.TT (tg4 j) = true) : ¬ pre9 F := fun e => by
  have h1 := e.2.1
  have h2 := e.2.2.1
  rw [made_iff] at h1
  rcases (show j = 0 ∨ j = 1 ∨ j = 2 ∨ j = 3 by omega) with rfl | rfl | rfl | rfl
  · rw [show has9 F.TT tgLoca = true from h] at h1; simp at h1
  · rw [show has9 F.TT tgGlyf = true from h] at h1; simp at h1
  · rw [show has9 F.TT tgHmtx = true from h] at h1; simp at h1
  · rw [show has9 F.TT tgGvar = true from h] at h2; cases h2
theorem tags_ok {F : Fn9} (h : ∀ j, j < 4 → has9 F.TT (tg4 j) = false) : made9 F.TT = false ∧ has9 F.TT tgGvar = false := by
  have h0 := h 0 (by omega)
  have h1 := h 1 (by omega)
  have h2 := h 2 (by omega)
  have h3 := h 3 (by omega)
  refine ⟨?_, h3⟩
  rw [made_iff]
  rw [show has9 F.TT tgLoca = false from h0, show has9 F.TT tgGlyf = false from h1, show has9 F.TT tgHmtx = false from h2]; rfl
theorem tags_next {TT : List Tb} {j : Nat} (h : ∀ i, i < j → has9 TT (tg4 i) = false) (hh : has9 TT (tg4 j) = false) : ∀ i, i < j + 1 → has9 TT (tg4 i) = false := fun i hi => by
  rcases (show i < j ∨ i = j by omega) with h2 | rfl
  · exact h i h2
  · exact hh
theorem has_ixn (TT : List Tb) (s : ByteArray) : (has9 TT s = false ∧ ixF (eqT s) 0 TT = -1) ∨ (has9 TT s = true ∧ ∃ k : Nat, ixF (eqT s) 0 TT = (k : Int)) := by
  rcases has_ix TT s with ⟨h, hno, _⟩ | ⟨h, j, T, _, _, _, _, hi⟩
  · exact .inl ⟨h, ixF_none TT 0 hno⟩
  · exact .inr ⟨h, j, hi⟩
theorem agr_three {F : Fn9} (h3 : three9 F.TT = true) : agr9 F ↔ (ofL hdE (dat9 F.TT tgHead) = 0 ∧ ofL mxE (dat9 F.TT tgMaxp) = 0 ∧ ofL ctE (dat9 F.TT tgHhea) = 0 ∧ ofL hd9 (dat9 F.TT tgHead) = F.h ∧ ofL mx9 (dat9 F.TT tgMaxp) = F.m ∧ ofL ctN (dat9 F.TT tgHhea) = F.ct) := by
  have hE : fldE F.TT = if ofL hdE (dat9 F.TT tgHead) ≠ 0 then ofL hdE (dat9 F.TT tgHead) else if ofL mxE (dat9 F.TT tgMaxp) ≠ 0 then ofL mxE (dat9 F.TT tgMaxp) else ofL ctE (dat9 F.TT tgHhea) := by
    unfold fldE; rw [h3, if_neg (by simp)]
  unfold agr9 fldH fldM fldC
  rw [hE]
  generalize ofL hdE (dat9 F.TT tgHead) = a
  generalize ofL mxE (dat9 F.TT tgMaxp) = b
  generalize ofL ctE (dat9 F.TT tgHhea) = c
  by_cases ha : a = 0
  · by_cases hb : b = 0
    · by_cases hc : c = 0
      · subst ha hb hc; simp
      · subst ha hb; simp [hc]
    · subst ha; simp [hb]
  · simp [ha]
theorem agr_no3 {F : Fn9} (h3 : three9 F.TT = false) : ¬ agr9 F := fun e => by
  have h := e.1
  unfold fldE at h
  rw [if_pos h3] at h
  cases h
set_option maxRecDepth 1000000 in
set_option maxHeartbeats 64000000 in
theorem rf_right9 (x : Fh) (F : Fn9) (C : Array Value) (hC : CV x F C) (w : World) (hR : FnR w w.heap.size x F) (hG : NoGr F) (hW : FnW F) :
    Calls Tryz.prog 9 #[.agg C] w fun e w' => e = .returned (.bool (Right9 F)) ∧ Since w w' := by
  have HBX := Lib.hid (fun (t : TypeId) => (fn_box (x := x) (nt := F.TT.length) (h := F.h) (m := F.m) (nm := F.MM.length) (ct := F.ct) (ng := F.GG.length) w w.heap.size rfl t))
  have HC := Lib.hid (show C = (fnC x F.TT.length F.h F.m F.MM.length F.ct F.GG.length).toArray from hC)
  have htl : F.TT.length ≤ maxLen := by have := hG.tabs; simp only [maxLen]; omega
  have HFI := Lib.hid (fun (s : ByteArray) (w2 : World) (h2 : Since w w2) => rf_find s x.At F.TT.length x.ct F.TT w2 (hR.on h2).tabs rfl htl)
  have HTB := Lib.hid (fun (s : ByteArray) (hs : s.size ≤ 100) (w2 : World) (h2 : Since w w2) => rf_table9 s x.At F.TT.length x.ct F.TT w2 (hR.on h2).tabs rfl htl hs)
  have HAL : Hid (∀ w2 : World, Since w w2 → Calls Tryz.prog 32 #[.agg C] w2 (TabP F w2)) := Lib.hid (fun (w2 : World) (h2 : Since w w2) => rf_all9 x F C hC w2 (hR.on h2) hG hW)
  have HRT := Lib.hid (fun (A : Option Addr) (N c : Nat) (w2 : World) (h : RdTL w2 w2.heap.size A (all9 F)) (hN : N = (all9 F).length) => rf_right4 A N c (all9 F) w2 h hN (all9_few hG))
  unfold TabP at HAL
  obtain ⟨RR, hRR⟩ : ∃ R, R = Right9 F := ⟨_, rfl⟩
  rw [← hRR]
  have NO := Lib.hid (fun (h : ¬ pre9 F) => hRR.trans (right_no h))
  have YE := Lib.hid (fun (h : pre9 F) (h2 : allE F = 0) => (hRR.trans (by
    rw [Bool.eq_iff_iff, right9_iff, rightG_iff]
    exact ⟨fun e => e.2.2, fun e => ⟨h, h2, e⟩⟩) : RR = RightG (all9 F)))
  have NE := Lib.hid (fun (h2 : ¬ allE F = 0) => hRR.trans (right9_no fun e => h2 e.2.1))
  obtain ⟨ng, hng⟩ : ∃ n, n = F.GG.length := ⟨_, rfl⟩
  obtain ⟨nm, hnm⟩ : ∃ n, n = F.MM.length := ⟨_, rfl⟩
  have hngI : (ng : Int) ≤ 1100 := by have := hG.glys; omega
  have hnmI : (nm : Int) ≤ 1100 := by have := hG.mets; omega
  have HNG := Lib.hid hng
  have HNM := Lib.hid hnm
  have HBY := Lib.hid hW.tabs
  have HDL := Lib.hid (fun s => dat_len (s := s) (fun T hT => (hG.dats T hT).1))
  clear hRR hR hG hW hng hnm htl
  go_enter Tryz.func9, Tryz.ntmps9
  go_upto_region 1 with fail
  refine wp_named fun w1 hw1 => ?_
  have hS1 : Since w w1 := by subst hw1; (repeat (first | with_reducible (exact Since.refl _) | with_reducible assumption | with_reducible (refine Since.drew ?_) | with_reducible (refine Since.drewN ?_ _) | with_reducible (refine Since.alloc ?_ _) | (with_reducible (refine Since.setCell ?_ ?_ _); rotate_left; focus (first | (simp; done) | (simp; omega) | omega)) | (with_reducible (refine Since.trans ?_ (by with_reducible assumption)))))
  have hB1 : FB w1 w.heap.size x F := by subst hw1; rw [HC.out]; exact HBX.out _
  clear hw1 HBX HC
  have HB1 := Lib.hid hB1
  clear hB1
  go_wp2_with fail
  go_loopw [20] (fun v wr => ∃ j : Nat, j ≤ 4 ∧ v = .int .i64 (j : Int) ∧ Hid (∀ i, i < j → has9 F.TT (tg4 i) = false) ∧ Since w1 wr) (fun v _ => 4 - (intOf v).toNat)
  case atStart => exact ⟨0, by omega, rfl, Lib.hid (fun i h => by omega), Since.refl _⟩
  case round =>
    obtain ⟨j, hj, rfl, HTG, hS⟩ := hrel
    have hSw := hS1.trans hS
    have k0 := BoxL.cell (HB1.out.since hS) 0 (v := .slice x.At F.TT.length x.ct) rfl
    have hlb := (HB1.out.since hS).lt
    rcases (show j = 0 ∨ j = 1 ∨ j = 2 ∨ j = 3 ∨ j = 4 by omega) with rfl | rfl | rfl | rfl | rfl

    · have m1 : (((0 : Nat) : Int)) = 0 := rfl
      rw [m1]
      clear m1
      rcases has_ixn F.TT tgLoca with ⟨hh, hi⟩ | ⟨hh, k, hi⟩
      · have HF := Lib.hid (fun (w2 : World) (h2 : Since w w2) => HFI.out tgLoca w2 h2)
        rw [hi] at HF
        have HH := Lib.hid hh
        clear hi hh
        go_wp2_with (go_at_call 27; (with_reducible refine (HF.out _ hSw).mono ?_); rintro e w2 ⟨rfl, hS2⟩)
        go_roundw
        case measure => simp [intOf]
        case rel => first | exact ⟨1, by omega, by first | rfl | go_num | simp, Lib.hid (tags_next (j := 0) HTG.out HH.out), hS.trans hS2⟩ | ((repeat apply Exists.intro); refine ⟨?_, rfl⟩; exact ⟨1, by omega, by first | rfl | go_num | simp, Lib.hid (tags_next (j := 0) HTG.out HH.out), hS.trans hS2⟩)
      · have HF := Lib.hid (fun (w2 : World) (h2 : Since w w2) => HFI.out tgLoca w2 h2)
        rw [hi] at HF
        have HX := Lib.hid (NO.out (tags_no (j := 0) (by omega) hh))
        have hk0 : (0 : Int) ≤ (k : Int) := by omega
        clear hi hh NO YE NE
        go_wp2_with (go_at_call 27; (with_reducible refine (HF.out _ hSw).mono ?_); rintro e w2 ⟨rfl, hS2⟩)
        go_ret
        exact ⟨by rw [HX.out]; first | rfl | simp, hSw.trans hS2⟩

    · have m1 : (((1 : Nat) : Int)) = 1 := rfl
      rw [m1]
      clear m1
      rcases has_ixn F.TT tgGlyf with ⟨hh, hi⟩ | ⟨hh, k, hi⟩
      · have HF := Lib.hid (fun (w2 : World) (h2 : Since w w2) => HFI.out tgGlyf w2 h2)
        rw [hi] at HF
        have HH := Lib.hid hh
        clear hi hh
        go_wp2_with (go_at_call 27; (with_reducible refine (HF.out _ hSw).mono ?_); rintro e w2 ⟨rfl, hS2⟩)
        go_roundw
        case measure => simp [intOf]
        case rel => first | exact ⟨2, by omega, by first | rfl | go_num | simp, Lib.hid (tags_next (j := 1) HTG.out HH.out), hS.trans hS2⟩ | ((repeat apply Exists.intro); refine ⟨?_, rfl⟩; exact ⟨2, by omega, by first | rfl | go_num | simp, Lib.hid (tags_next (j := 1) HTG.out HH.out), hS.trans hS2⟩)
      · have HF := Lib.hid (fun (w2 : World) (h2 : Since w w2) => HFI.out tgGlyf w2 h2)
        rw [hi] at HF
        have HX := Lib.hid (NO.out (tags_no (j := 1) (by omega) hh))
        have hk0 : (0 : Int) ≤ (k : Int) := by omega
        clear hi hh NO YE NE
        go_wp2_with (go_at_call 27; (with_reducible refine (HF.out _ hSw).mono ?_); rintro e w2 ⟨rfl, hS2⟩)
        go_ret
        exact ⟨by rw [HX.out]; first | rfl | simp, hSw.trans hS2⟩

    · have m1 : (((2 : Nat) : Int)) = 2 := rfl
      rw [m1]
      clear m1
      rcases has_ixn F.TT tgHmtx with ⟨hh, hi⟩ | ⟨hh, k, hi⟩
      · have HF := Lib.hid (fun (w2 : World) (h2 : Since w w2) => HFI.out tgHmtx w2 h2)
        rw [hi] at HF
        have HH := Lib.hid hh
        clear hi hh
        go_wp2_with (go_at_call 27; (with_reducible refine (HF.out _ hSw).mono ?_); rintro e w2 ⟨rfl, hS2⟩)
        go_roundw
        case measure => simp [intOf]
        case rel => first | exact ⟨3, by omega, by first | rfl | go_num | simp, Lib.hid (tags_next (j := 2) HTG.out HH.out), hS.trans hS2⟩ | ((repeat apply Exists.intro); refine ⟨?_, rfl⟩; exact ⟨3, by omega, by first | rfl | go_num | simp, Lib.hid (tags_next (j := 2) HTG.out HH.out), hS.trans hS2⟩)
      · have HF := Lib.hid (fun (w2 : World) (h2 : Since w w2) => HFI.out tgHmtx w2 h2)
        rw [hi] at HF
        have HX := Lib.hid (NO.out (tags_no (j := 2) (by omega) hh))
        have hk0 : (0 : Int) ≤ (k : Int) := by omega
        clear hi hh NO YE NE
        go_wp2_with (go_at_call 27; (with_reducible refine (HF.out _ hSw).mono ?_); rintro e w2 ⟨rfl, hS2⟩)
        go_ret
        exact ⟨by rw [HX.out]; first | rfl | simp, hSw.trans hS2⟩

    · have m1 : (((3 : Nat) : Int)) = 3 := rfl
      rw [m1]
      clear m1
      rcases has_ixn F.TT tgGvar with ⟨hh, hi⟩ | ⟨hh, k, hi⟩
      · have HF := Lib.hid (fun (w2 : World) (h2 : Since w w2) => HFI.out tgGvar w2 h2)
        rw [hi] at HF
        have HH := Lib.hid hh
        clear hi hh
        go_wp2_with (go_at_call 27; (with_reducible refine (HF.out _ hSw).mono ?_); rintro e w2 ⟨rfl, hS2⟩)
        go_roundw
        case measure => simp [intOf]
        case rel => first | exact ⟨4, by omega, by first | rfl | go_num | simp, Lib.hid (tags_next (j := 3) HTG.out HH.out), hS.trans hS2⟩ | ((repeat apply Exists.intro); refine ⟨?_, rfl⟩; exact ⟨4, by omega, by first | rfl | go_num | simp, Lib.hid (tags_next (j := 3) HTG.out HH.out), hS.trans hS2⟩)
      · have HF := Lib.hid (fun (w2 : World) (h2 : Since w w2) => HFI.out tgGvar w2 h2)
        rw [hi] at HF
        have HX := Lib.hid (NO.out (tags_no (j := 3) (by omega) hh))
        have hk0 : (0 : Int) ≤ (k : Int) := by omega
        clear hi hh NO YE NE
        go_wp2_with (go_at_call 27; (with_reducible refine (HF.out _ hSw).mono ?_); rintro e w2 ⟨rfl, hS2⟩)
        go_ret
        exact ⟨by rw [HX.out]; first | rfl | simp, hSw.trans hS2⟩

    · have m1 : (((4 : Nat) : Int)) = 4 := rfl
      rw [m1]
      clear m1
      have HTO := Lib.hid (tags_ok HTG.out)
      obtain ⟨L0, hL0⟩ : ∃ L, L = dat9 F.TT tgHead := ⟨_, rfl⟩
      obtain ⟨L1, hL1⟩ : ∃ L, L = dat9 F.TT tgMaxp := ⟨_, rfl⟩
      obtain ⟨L2, hL2⟩ : ∃ L, L = dat9 F.TT tgHhea := ⟨_, rfl⟩
      have HX0 := Lib.hid (show L0.length ≤ 40000 ∧ Bytes L0 by rw [hL0]; exact ⟨HDL.out _, dat9_cases (P := Bytes) (fun v hv => by cases hv) HBY.out _⟩)
      have HX1 := Lib.hid (show L1.length ≤ 40000 ∧ Bytes L1 by rw [hL1]; exact ⟨HDL.out _, dat9_cases (P := Bytes) (fun v hv => by cases hv) HBY.out _⟩)
      have HX2 := Lib.hid (show L2.length ≤ 40000 ∧ Bytes L2 by rw [hL2]; exact ⟨HDL.out _, dat9_cases (P := Bytes) (fun v hv => by cases hv) HBY.out _⟩)
      obtain ⟨b0, hb0⟩ : ∃ b, has9 F.TT tgHead = b := ⟨_, rfl⟩
      obtain ⟨b1, hb1⟩ : ∃ b, has9 F.TT tgMaxp = b := ⟨_, rfl⟩
      obtain ⟨b2, hb2⟩ : ∃ b, has9 F.TT tgHhea = b := ⟨_, rfl⟩
      have H3 := Lib.hid (three_no hb0 hb1 hb2)
      have HT0 := Lib.hid (fun (w2 : World) (h2 : Since w w2) => HTB.out tgHead (by decide) w2 h2)
      have HT1 := Lib.hid (fun (w2 : World) (h2 : Since w w2) => HTB.out tgMaxp (by decide) w2 h2)
      have HT2 := Lib.hid (fun (w2 : World) (h2 : Since w w2) => HTB.out tgHhea (by decide) w2 h2)
      unfold TabP9 at HT0 HT1 HT2
      rw [← hL0, hb0] at HT0
      rw [← hL1, hb1] at HT1
      rw [← hL2, hb2] at HT2
      have HAG := Lib.hid (fun (h : three9 F.TT = true) => agr_three h)
      rw [← hL0, ← hL1, ← hL2] at HAG
      have HBw := Lib.hid (HB1.out.since hS)
      have hsq := hSw
      clear hL0 hL1 hL2 hb0 hb1 hb2 HTB HTG HFI HDL HBY HB1 hS hSw hS1 hj
      have hla := hlb
      clear hlb
      go_upto_region 10 with (first | (go_at_call 28; first | ((with_reducible refine (HT0.out _ hsq).mono ?_); rintro e w5 ⟨A0, n0, c0, rfl, hn0, hr0, hS5⟩; subst hn0; have hs5 := hsq.trans hS5; have k0 := (hS5.1 _ 0 hla).trans k0; have hla := hS5.2.2.1 _ hla; clear hsq) | ((with_reducible refine (HT1.out _ hs5).mono ?_); rintro e w6 ⟨A1, n1, c1, rfl, hn1, hr1, hS6⟩; subst hn1; have hs6 := hs5.trans hS6; have k0 := (hS6.1 _ 0 hla).trans k0; have hla := hS6.2.2.1 _ hla; clear hs5) | ((with_reducible refine (HT2.out _ hs6).mono ?_); rintro e w7 ⟨A2, n2, c2, rfl, hn2, hr2, hS7⟩; subst hn2; have hs7 := hs6.trans hS7; clear hs6)))
      have HR0 := Lib.hid ((RdG.on hr0 hS6).on hS7)
      have HR1 := Lib.hid (RdG.on hr1 hS7)
      have HR2 := Lib.hid hr2
      have HB7 := Lib.hid (((HBw.out.since hS5).since hS6).since hS7)
      clear hr0 hr1 hr2 hS5 hS6 hS7 HBw k0 hla HT0 HT1 HT2
      cases b0
      · have HX := Lib.hid (NO.out (fun e => agr_no3 (by rw [H3.out]; simp) e.2.2.2.1))
        clear NO YE NE
        go_wp2_with fail
        go_ret
        exact ⟨by rw [HX.out]; first | rfl | simp, hs7⟩
      cases b1
      · have HX := Lib.hid (NO.out (fun e => agr_no3 (by rw [H3.out]; simp) e.2.2.2.1))
        clear NO YE NE
        go_wp2_with fail
        go_ret
        exact ⟨by rw [HX.out]; first | rfl | simp, hs7⟩
      cases b2
      · have HX := Lib.hid (NO.out (fun e => agr_no3 (by rw [H3.out]; simp) e.2.2.2.1))
        clear NO YE NE
        go_wp2_with fail
        go_ret
        exact ⟨by rw [HX.out]; first | rfl | simp, hs7⟩
      have HAG := Lib.hid (HAG.out (by rw [H3.out]; rfl))
      have HH0 := Lib.hid (fun (w2 : World) (h2 : Since w7 w2) => rf_head9 A0 c0 L0 w2 (RdG.on HR0.out h2) HX0.out.2 (by have := HX0.out.1; omega))
      have HH1 := Lib.hid (fun (w2 : World) (h2 : Since w7 w2) => rf_maxp9 A1 c1 L1 w2 (RdG.on HR1.out h2) HX1.out.2 (by have := HX1.out.1; omega))
      have HH2 := Lib.hid (fun (w2 : World) (h2 : Since w7 w2) => rf_count9 A2 c2 L2 w2 (RdG.on HR2.out h2) HX2.out.2 (by have := HX2.out.1; omega))
      obtain ⟨E0, hE0⟩ : ∃ E, E = ofL hdE L0 := ⟨_, rfl⟩
      obtain ⟨E1, hE1⟩ : ∃ E, E = ofL mxE L1 := ⟨_, rfl⟩
      obtain ⟨E2, hE2⟩ : ∃ E, E = ofL ctE L2 := ⟨_, rfl⟩
      obtain ⟨H, hH⟩ : ∃ H, H = ofL hd9 L0 := ⟨_, rfl⟩
      obtain ⟨M, hM⟩ : ∃ M, M = ofL mx9 L1 := ⟨_, rfl⟩
      obtain ⟨K, hK⟩ : ∃ K, K = ofL ctN L2 := ⟨_, rfl⟩
      rw [← hE0, ← hE1, ← hE2, ← hH, ← hM, ← hK] at HAG
      rw [← hE0, ← hH] at HH0
      rw [← hE1, ← hM] at HH1
      rw [← hE2, ← hK] at HH2
      have NP := Lib.hid (fun (h : ¬ agr9 F) => NO.out (fun e => h e.2.2.2.1))
      rw [HAG.out] at NP
      have hB7 := HB7.out
      clear hE0 hE1 hE2 hH hM hK HX0 HX1 HX2 HR0 HR1 HR2 H3 HB7
      go_upto_region 15 with (first | (go_at_call 29; (with_reducible refine (HH0.out _ (Since.refl _)).mono ?_); rintro e w8 ⟨rfl, hS8⟩) | (refine wp_hd_store rfl _ _ rfl (by rfl) (by with_reducible exact new_hd w8 w8.heap.size rfl _) H (by rfl) ?_; intro w9 hh9 hN9; have hS89 := hN9.2 w8 ((Since.refl w8).alloc _) (Nat.le_refl _); have hS79 := hS8.trans hS89) | (go_at_call 30; (with_reducible refine (HH1.out _ hS79).mono ?_); rintro e wa ⟨rfl, hSa⟩) | (refine wp_mx_store rfl _ _ rfl (by rfl) (by with_reducible exact new_mx wa wa.heap.size rfl _) M (by rfl) ?_; intro wb hhb hNb; have hSab := hNb.2 wa ((Since.refl wa).alloc _) (Nat.le_refl _); have hS9b := hSa.trans hSab; have hS7b := hS79.trans hS9b) | (go_at_call 31; (with_reducible refine (HH2.out _ hS7b).mono ?_); rintro e wc ⟨rfl, hSc⟩))
      have hS9c := hS9b.trans hSc
      have hS7c := hS7b.trans hSc
      have hswc := hs7.trans hS7c
      obtain ⟨i0, i1, i2, i3, i4, i5⟩ := hd_cells (hh9.since hS9c)
      obtain ⟨j0, j1, j2, j3, j4, j5, j6⟩ := mx_cells (hhb.since hSc)
      have li := (hh9.since hS9c).lt
      have lj := (hhb.since hSc).lt
      have hBc : FB wc w.heap.size x F := hB7.since hS7c
      have lb := hBc.lt
      obtain ⟨f0, ⟨f1, f2, f3, f4, f5, f6⟩, ⟨f7, f8, f9, fa, fb, fc, fd⟩, fe, ff, fg⟩ := fn_cells hBc
      rw [← HNM.out] at fe
      rw [← HNG.out] at fg
      have HBC := Lib.hid hBc
      obtain ⟨p8, hp8⟩ : ∃ p, p = w8.heap.size := ⟨_, rfl⟩
      obtain ⟨pa, hpa⟩ : ∃ p, p = wa.heap.size := ⟨_, rfl⟩
      rw [← hp8] at i0 i1 i2 i3 i4 i5 li ⊢
      rw [← hpa] at j0 j1 j2 j3 j4 j5 j6 lj ⊢
      have eH : ∀ w, (Op.equalIn 10000 24 (.agg (hdA H)) (.agg (hdA F.h))).run Tryz.prog w = .ok (decide (H = F.h)) w := fun w => eq_hd9 w H F.h
      have eM : ∀ w, (Op.equalIn 10000 26 (.agg (mxA M)) (.agg (mxA F.m))).run Tryz.prog w = .ok (decide (M = F.m)) w := fun w => eq_mx9 w M F.m
      unfold hdA at eH
      unfold mxA at eM
      clear hh9 hhb hN9 hNb hS89 hS79 hS8 hSa hSab hS9b hS7b hSc hS9c hS7c hs7 hB7 hBc hp8 hpa HH0 HH1 HH2
      by_cases q0 : E0 = 0
      rotate_left
      · have d0 : (E0 != 0) = true := by simpa using q0
        have HX := Lib.hid (NP.out (fun e => q0 e.1))
        clear NO NP YE NE q0 HAG
        go_wp2_with fail
        go_ret
        exact ⟨by rw [HX.out]; first | rfl | simp, hswc⟩
      subst q0
      by_cases q1 : E1 = 0
      rotate_left
      · have d0 : (E1 != 0) = true := by simpa using q1
        have HX := Lib.hid (NP.out (fun e => q1 e.2.1))
        clear NO NP YE NE q1 HAG
        go_wp2_with fail
        go_ret
        exact ⟨by rw [HX.out]; first | rfl | simp, hswc⟩
      subst q1
      by_cases q2 : E2 = 0
      rotate_left
      · have d0 : (E2 != 0) = true := by simpa using q2
        have HX := Lib.hid (NP.out (fun e => q2 e.2.2.1))
        clear NO NP YE NE q2 HAG
        go_wp2_with fail
        go_ret
        exact ⟨by rw [HX.out]; first | rfl | simp, hswc⟩
      subst q2
      by_cases q3 : H = F.h
      rotate_left
      · have d0 : decide (H = F.h) = false := by simpa using q3
        rw [d0] at eH
        have HX := Lib.hid (NP.out (fun e => q3 e.2.2.2.1))
        clear NO NP YE NE q3 HAG d0
        go_wp2_with fail
        go_ret
        exact ⟨by rw [HX.out]; first | rfl | simp, hswc⟩
      have d3 : decide (H = F.h) = true := by simpa using q3
      rw [d3] at eH
      by_cases q4 : M = F.m
      rotate_left
      · have d0 : decide (M = F.m) = false := by simpa using q4
        rw [d0] at eM
        have HX := Lib.hid (NP.out (fun e => q4 e.2.2.2.2.1))
        clear NO NP YE NE q4 HAG d0 q3 d3
        go_wp2_with fail
        go_ret
        exact ⟨by rw [HX.out]; first | rfl | simp, hswc⟩
      have d4 : decide (M = F.m) = true := by simpa using q4
      rw [d4] at eM
      by_cases q5 : K = F.ct
      rotate_left
      · have d0 : (K != F.ct) = true := by simpa using q5
        have HX := Lib.hid (NP.out (fun e => q5 e.2.2.2.2.2))
        clear NO NP YE NE q5 HAG q3 d3 q4 d4
        go_wp2_with fail
        go_ret
        exact ⟨by rw [HX.out]; first | rfl | simp, hswc⟩
      have HA := Lib.hid (HAG.out.2 ⟨rfl, rfl, rfl, q3, q4, q5⟩)
      have HQ5 := Lib.hid q5
      have d5 : (K != F.ct) = false := by simpa using q5
      have HMG := Lib.hid (congrArg Mx9.g q4)
      clear NP HAG q3 q4 q5 d3 d4
      go_upto_region 17 with fail
      clear i0 i1 i2 i3 i4 i5 li eH eM d5 f1 f2 f3 f4 f5 f6 f7 f8 f9 fa fb fc fd ff j1 j2 j3 j4 j5 j6
      by_cases r0 : ng < 1
      · have d0 : (ng : Int) < 1 := by omega
        have HX := Lib.hid (NO.out (fun e => by have := e.1.1; have := HNG.out; omega))
        clear NO YE NE r0
        go_wp2_with fail
        go_ret
        exact ⟨by rw [HX.out]; first | rfl | simp, hswc⟩
      by_cases r1 : 1024 < ng
      · have d0 : (1024 : Int) < (ng : Int) := by omega
        have d1 : ¬ (ng : Int) < 1 := by omega
        have HX := Lib.hid (NO.out (fun e => by have := e.1.2; have := HNG.out; omega))
        clear NO YE NE r0 r1
        go_wp2_with fail
        go_ret
        exact ⟨by rw [HX.out]; first | rfl | simp, hswc⟩
      have d0 : ¬ (ng : Int) < 1 := by omega
      have d1 : ¬ (1024 : Int) < (ng : Int) := by omega
      by_cases r2 : M.g = (ng : Int)
      rotate_left
      · have d2 : (M.g != (ng : Int)) = true := by simpa using r2
        have HX := Lib.hid (NO.out (fun e => r2 (by rw [HMG.out, HNG.out]; exact e.2.2.2.2.1)))
        clear NO YE NE r0 r1 r2
        go_wp2_with fail
        go_ret
        exact ⟨by rw [HX.out]; first | rfl | simp, hswc⟩
      have HR2 := Lib.hid r2
      rw [r2] at j0
      have d2 : ((ng : Int) != (ng : Int)) = false := by simp
      by_cases r3 : nm = ng
      rotate_left
      · have d3 : ((nm : Int) != (ng : Int)) = true := by simp; omega
        have HX := Lib.hid (NO.out (fun e => r3 (by rw [HNM.out, HNG.out]; exact e.2.2.2.2.2)))
        clear NO YE NE r0 r1 r2 r3
        go_wp2_with fail
        go_ret
        exact ⟨by rw [HX.out]; first | rfl | simp, hswc⟩
      have HPRE := Lib.hid (show pre9 F from ⟨⟨by have := HNG.out; omega, by have := HNG.out; omega⟩, HTO.out.1, HTO.out.2, HA.out, by rw [← HMG.out, HR2.out, HNG.out], by rw [← HNM.out, r3, HNG.out]⟩)
      have HYE := Lib.hid (fun h => YE.out HPRE.out h)
      subst r3
      clear NO YE r0 r1 r2
      go_upto_region 19 with fail
      have hBc := HBC.out
      clear j0 lj fe fg f0 d0 d1 d2
      by_cases s0 : allE F = 0
      rotate_left
      · have HX := Lib.hid (NE.out s0)
        have HAL := Lib.hid (fun (w2 : World) (h2 : Since w w2) => HAL.out w2 h2)
        generalize allE F = E at *
        have d0 : (E == 0) = false := by simpa using s0
        clear NE HYE s0
        go_wp2_with (first | (refine fb_load rfl _ rfl (by rfl) (by with_reducible exact hBc) hC ?_) | (go_at_call 32; (with_reducible refine (HAL.out _ hswc).mono ?_); rintro e wd ⟨v, rfl, _, hSd⟩))
        go_ret
        exact ⟨by rw [HX.out]; first | rfl | simp, hswc.trans hSd⟩
      have HX := Lib.hid (HYE.out s0)
      rw [s0] at HAL
      simp only [if_true, reduceIte] at HAL
      clear NE HYE s0
      go_wp2_with (first | (refine fb_load rfl _ rfl (by rfl) (by with_reducible exact hBc) hC ?_) | (go_at_call 32; (with_reducible refine (HAL.out _ hswc).mono ?_); rintro e wd ⟨v, rfl, hOd, hSd⟩; obtain ⟨Ad, cd, rfl, _, hRd⟩ := hOd.rd; have hswd := hswc.trans hSd) | (go_at_call 33; (with_reducible refine (HRT.out Ad _ cd _ hRd rfl).mono ?_); rintro e we ⟨rfl, hSe⟩))
      go_ret
      exact ⟨by rw [HX.out]; first | rfl | simp, hswd.trans hSe⟩
end Go.Proofs.YteckkcpnfeoehaaGreatDoor
