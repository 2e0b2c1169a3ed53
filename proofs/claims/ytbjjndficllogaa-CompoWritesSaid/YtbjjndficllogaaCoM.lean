/-
  Layer 8: Write, walked; 'Same' of parts that read alike.
-/
import Derived.Test.YtbjjndficllogaaCoL
namespace Go.Proofs.Ytbjjndficllogaa
open Go.RowKit Go.ChangeShapes Go.WideShapes Go.Deep
set_option linter.unusedVariables false
set_option linter.unusedSimpArgs false

/-- In Write's loop over the parts. -/
def WrL8 (w : World) (X0 : List Int) (hc : Bool) (L : List Pt8) (v y : Value) (wx : World) : Prop :=
  ∃ (j : Nat) (X : List Int), j ≤ L.length ∧ y = .int .i64 (j : Int) ∧ OwnB wx w.heap.size v X ∧ Since w wx ∧ Hid (X ++ parts8 hc (L.drop j) = X0 ++ parts8 hc L) ∧ X.length ≤ 10 + 16 * j
theorem tail_more {L : List Pt8} {j : Nat} {hc : Bool} (h : j + 1 < L.length) : tail8 (L.drop (j + 1)) hc = 32 := by
  unfold tail8; rw [if_neg]
  intro e
  have := congrArg List.length e
  rw [List.length_drop] at this
  simp at this; omega
theorem tail_last {L : List Pt8} {j : Nat} {hc : Bool} (h : ¬ j + 1 < L.length) : tail8 (L.drop (j + 1)) hc = if hc then 256 else 0 := by
  have : L.drop (j + 1) = [] := by rw [List.drop_eq_nil_iff]; omega
  rw [this]; unfold tail8; rw [if_pos rfl]
set_option maxRecDepth 100000 in
set_option maxHeartbeats 8000000 in
theorem co_write8 (A : Option Addr) (n c : Nat) (L : List Pt8) (B : Option Addr) (m d : Nat) (C : List Int) (lx ly mx my : Int) (w : World) (h : RdP8 w w.heap.size A L) (hn : n = L.length) (hC : RdB w w.heap.size B C) (hm : m = C.length) (hnn : L.length ≤ maxLen) (hmm : C.length ≤ 70368744177664) :
    Calls Try.prog 30 #[.slice A n c, .slice B m d, .agg #[.int .i64 lx, .int .i64 ly], .agg #[.int .i64 mx, .int .i64 my]] w (WrPost8 L C [lx, ly, mx, my] w) := by
  have hni : (n : Int) ≤ 9223372036854775807 := by subst hn; simp only [maxLen] at hnn; omega
  by_cases h0 : L = []
  · subst h0
    simp only [List.length_nil] at hn
    subst hn
    clear h hC
    go_enter Try.func30, Try.ntmps30
    go_wp2_with fail
    go_ret2
    exact wrpost8 (wrE_four _ _) (wr_no (by rw [wrE_four]; omega)) (OwnG.nil _ _ _ _ _) (by (repeat (first | with_reducible (exact Since.refl _) | with_reducible assumption | with_reducible (refine Since.drew ?_) | with_reducible (refine Since.drewN ?_ _) | with_reducible (refine Since.alloc ?_ _) | (with_reducible (refine Since.setCell ?_ ?_ _); rotate_left; focus (first | (simp; done) | (simp; omega) | omega)) | (with_reducible (refine Since.trans ?_ (by with_reducible assumption))))))
  have hn0 : 0 < n := by have := List.length_pos_iff.2 h0; omega
  have hn1 : ¬ (n : Int) = 0 := by omega
  have hn2 : ((n : Int) == 0) = false := by simpa using hn1
  by_cases h7 : 64 < L.length ∨ 65535 < C.length
  · have E7 := wrE_seven (box := [lx, ly, mx, my]) h0 h7
    have HE := Lib.hid E7
    rw [← hn, ← hm] at h7
    clear h hC E7 hn hm
    by_cases h8 : 64 < n
    · have d1 : decide ((64 : Int) < n) = true := by simp; omega
      clear h7
      go_enter Try.func30, Try.ntmps30
      go_wp2_with fail
      go_ret2
      exact wrpost8 HE.out (wr_no (by rw [HE.out]; omega)) (OwnG.nil _ _ _ _ _) (by (repeat (first | with_reducible (exact Since.refl _) | with_reducible assumption | with_reducible (refine Since.drew ?_) | with_reducible (refine Since.drewN ?_ _) | with_reducible (refine Since.alloc ?_ _) | (with_reducible (refine Since.setCell ?_ ?_ _); rotate_left; focus (first | (simp; done) | (simp; omega) | omega)) | (with_reducible (refine Since.trans ?_ (by with_reducible assumption))))))
    · have d1 : decide ((64 : Int) < n) = false := by simp; omega
      have d2 : decide ((65535 : Int) < m) = true := by simp; omega
      clear h7
      go_enter Try.func30, Try.ntmps30
      go_wp2_with fail
      go_ret2
      exact wrpost8 HE.out (wr_no (by rw [HE.out]; omega)) (OwnG.nil _ _ _ _ _) (by (repeat (first | with_reducible (exact Since.refl _) | with_reducible assumption | with_reducible (refine Since.drew ?_) | with_reducible (refine Since.drewN ?_ _) | with_reducible (refine Since.alloc ?_ _) | (with_reducible (refine Since.setCell ?_ ?_ _); rotate_left; focus (first | (simp; done) | (simp; omega) | omega)) | (with_reducible (refine Since.trans ?_ (by with_reducible assumption))))))
  have hn64 : n ≤ 64 := by omega
  have hm64 : m ≤ 65535 := by omega
  have d1 : decide ((64 : Int) < n) = false := by simp; omega
  have d2 : decide ((65535 : Int) < m) = false := by simp; omega
  have HL := Lib.hid h
  have HC := Lib.hid hC
  have HN := Lib.hid hn
  have HMM := Lib.hid hm
  have H0 := Lib.hid h0
  have H7 := Lib.hid h7
  have HCP := Lib.hid fun (r : Bool) (hr : decide (∀ x ∈ L, P8Ok x) = !r) (w2 : World) (hS : Since w w2) => co_containsP A n c L r w2 (h.on hS) hn (by simp only [maxLen]; omega) hr
  have HCI := Lib.hid fun (r : Bool) (hr : decide (∀ x ∈ [lx, ly, mx, my], Sh x) = !r) (A2 : Option Addr) (c2 : Nat) (w2 : World) (h2 : RdI w2 w2.heap.size A2 [lx, ly, mx, my]) => co_containsI A2 4 c2 [lx, ly, mx, my] r w2 h2 rfl (by simp [maxLen]) hr
  have hrb : ∀ w2, Since w w2 → RdI (w2.alloc (.cells #[.int .i64 lx, .int .i64 ly, .int .i64 mx, .int .i64 my] 3)) (w2.alloc (.cells #[.int .i64 lx, .int .i64 ly, .int .i64 mx, .int .i64 my] 3)).heap.size (some ⟨w2.heap.size, 0, none⟩) [lx, ly, mx, my] := fun w2 _ => rdi_new w2 _ rfl _ _ _ rfl
  have HRB := Lib.hid hrb
  clear h hC hn hm h0 h7 hrb hnn hmm
  by_cases hP : ∀ x ∈ L, P8Ok x
  · by_cases hB : ∀ x ∈ [lx, ly, mx, my], Sh x
    · have E0 := wrE_ok (box := [lx, ly, mx, my]) H0.out H7.out ⟨hB, hP⟩
      have HE := Lib.hid E0
      have HA := Lib.hid (wr_yes E0)
      have HCP2 := Lib.hid (HCP.out false (decide_eq_true hP))
      have HCI2 := Lib.hid (HCI.out false (decide_eq_true hB))
      have HP := Lib.hid hP
      have HIB := Lib.hid (show ∀ x ∈ [lx, ly, mx, my], In64 x from fun x hx => sh_in (hB x hx))
      have hIN := sh_in (show Sh (-1) by unfold Sh; omega)
      clear HCP HCI E0 hP hB
      go_enter Try.func30, Try.ntmps30
      go_wp2_with (first | (go_at_call 55; (with_reducible refine (HCP2.out _ (by (repeat (first | with_reducible (exact Since.refl _) | with_reducible assumption | with_reducible (refine Since.drew ?_) | with_reducible (refine Since.drewN ?_ _) | with_reducible (refine Since.alloc ?_ _) | (with_reducible (refine Since.setCell ?_ ?_ _); rotate_left; focus (first | (simp; done) | (simp; omega) | omega)) | (with_reducible (refine Since.trans ?_ (by with_reducible assumption))))))).mono ?_); rintro e w1 ⟨rfl, hSa⟩; have hS1 : Since w w1 := (by (repeat (first | with_reducible (exact Since.refl _) | with_reducible assumption | with_reducible (refine Since.drew ?_) | with_reducible (refine Since.drewN ?_ _) | with_reducible (refine Since.alloc ?_ _) | (with_reducible (refine Since.setCell ?_ ?_ _); rotate_left; focus (first | (simp; done) | (simp; omega) | omega)) | (with_reducible (refine Since.trans ?_ (by with_reducible assumption)))))); have hRb := RdG.on (rdi_new ((w.alloc _).alloc _) (w.heap.size + 1 + 1) (by simp) _ _ [lx, ly, mx, my] rfl) hSa; clear hSa) | (go_at_call 57; (with_reducible refine (HCI2.out _ _ _ hRb).mono ?_); rintro e w2 ⟨rfl, hSb⟩; have hS2 := hS1.trans hSb; have hRb2 := hRb.on hSb; clear hRb hSb hS1) | (go_at_call 44; (with_reducible refine (put_o 2 _ _ _ hIN (by omega) (by omega)).mono ?_); rintro e w3 ⟨gp, rfl, _, hO3, hSc⟩; have hS3 := hS2.trans hSc; have hRb3 := hRb2.on hSc; have hO3 := hO3.low (base' := w.heap.size) hS2.below.size; clear hRb2 hSc hS2) | (go_at_call 59; (with_reducible refine (co_numbers _ 4 _ [lx, ly, mx, my] _ hRb3 (by simp) (by omega) HIB.out).mono ?_); rintro e w4 ⟨v4, rfl, hO4, hSd⟩; have hS4 := hS3.trans hSd; have hO3' := hO3.since hSd; obtain ⟨A4, c4, rfl, hc4, hR4⟩ := hO4.rd (by omega) byL_len; clear hO3 hO4 hRb3 hS3 hSd) | (at_builtin; refine wpList_append_b2 rfl _ _ rfl hS4 _ (putL (-1) 2) rfl hO3' _ A4 _ c4 (nums8 [lx, ly, mx, my]) rfl rfl hR4 (by simp only [putL_len, nums8_len, List.length_cons, List.length_nil]; omega) ?_; intro v5 w5 hO5 hS5 hgr5; clear hO3' hS4 hgr5 hR4))
      obtain ⟨hc, hhc⟩ : ∃ hc, hc = !C.isEmpty := ⟨_, rfl⟩
      have HHC := Lib.hid hhc
      obtain ⟨X0, hX⟩ : ∃ X0, X0 = putL (-1) 2 ++ nums8 [lx, ly, mx, my] := ⟨_, rfl⟩
      have hXl : X0.length = 10 := by rw [hX]; simp [putL_len, nums8_len]
      rw [← hX] at hO5
      have HX := Lib.hid hX
      have HXL := Lib.hid hXl
      clear hX hhc hXl
      go_loopw [11, 47] (fun v y wx => WrL8 w X0 hc L v y wx) (fun _ y _ => n - (intOf y).toNat)
      case atStart => exact ⟨0, X0, by omega, rfl, hO5, hS5, Lib.hid rfl, by rw [HXL.out]; omega⟩
      case round =>
        obtain ⟨j, X, hj, rfl, hO0, hS0, HG, hXl⟩ := hrel
        rw [← HN.out] at hj
        clear hO5 hS5
        by_cases hjn : j < n
        · have hjn' : (j : Int) < n := by omega
          have hjL : j < L.length := by rw [← HN.out]; exact hjn
          have hP : L[j]? = some L[j] := List.getElem?_eq_getElem hjL
          have hdr : L.drop j = L[j] :: L.drop (j + 1) := List.drop_eq_getElem_cons hjL
          have hmem : L[j] ∈ L := List.getElem_mem hjL
          obtain ⟨bL, oL, rfl, hbL, hcL⟩ := (HL.out.keep (fun b o hb => hS0.1 b o hb)) (by omega)
          have hcj := hcL j _ hP
          have hbw := hS0.2.2.1 _ hbL
          obtain ⟨P, hPP⟩ : ∃ P, P = L[j] := ⟨_, rfl⟩
          rw [← hPP] at hcj hdr hmem
          have hok := HP.out _ hmem
          have HDR := Lib.hid hdr
          clear hdr hP hcL hPP hmem
          obtain ⟨g, x, y, a0, a1, a2, a3⟩ := P
          have q0 : wr.cell? ⟨bL, oL + j * 7, none⟩ = some (.int .i64 g) := hcj 0 (by omega)
          have q1 : wr.cell? ⟨bL, oL + j * 7 + 1, none⟩ = some (.int .i64 x) := hcj 1 (by omega)
          have q2 : wr.cell? ⟨bL, oL + j * 7 + 2, none⟩ = some (.int .i64 y) := hcj 2 (by omega)
          have q3 : wr.cell? ⟨bL, oL + j * 7 + 3, none⟩ = some (.int .i64 a0) := hcj 3 (by omega)
          have q4 : wr.cell? ⟨bL, oL + j * 7 + 4, none⟩ = some (.int .i64 a1) := hcj 4 (by omega)
          have q5 : wr.cell? ⟨bL, oL + j * 7 + 5, none⟩ = some (.int .i64 a2) := hcj 5 (by omega)
          have q6 : wr.cell? ⟨bL, oL + j * 7 + 6, none⟩ = some (.int .i64 a3) := hcj 6 (by omega)
          clear hcj
          have HWP := Lib.hid fun (t : Int) (ht : t = 0 ∨ t = 32 ∨ t = 256) (w2 : World) => co_wpart ⟨g, x, y, a0, a1, a2, a3⟩ t w2 hok ht
          have hll : ∀ t, (part8 ⟨g, x, y, a0, a1, a2, a3⟩ t).length ≤ 16 := fun t => part8_le _ t
          have HLL := Lib.hid hll
          clear hok hll
          have HEND := Lib.hid (show ∀ t, tail8 (L.drop (j + 1)) hc = t → (X ++ part8 ⟨g, x, y, a0, a1, a2, a3⟩ t) ++ parts8 hc (L.drop (j + 1)) = X0 ++ parts8 hc L from fun t ht => by rw [← HG.out, HDR.out, parts8_cons, ht, List.append_assoc])
          by_cases hl : j + 1 < n
          · have e1 : (j : Int) < (n : Int) - 1 := by omega
            have HT := Lib.hid (tail_more (hc := hc) (show j + 1 < L.length by rw [← HN.out]; exact hl))
            clear hjL
            go_wp2_with (first | (go_at_call 60; (with_reducible refine (HWP.out 32 (by omega) _).mono ?_); rintro e w8 ⟨v8, rfl, hO8, hS8⟩; have hS8' : Since w w8 := (by (repeat (first | with_reducible (exact Since.refl _) | with_reducible assumption | with_reducible (refine Since.drew ?_) | with_reducible (refine Since.drewN ?_ _) | with_reducible (refine Since.alloc ?_ _) | (with_reducible (refine Since.setCell ?_ ?_ _); rotate_left; focus (first | (simp; done) | (simp; omega) | omega)) | (with_reducible (refine Since.trans ?_ (by with_reducible assumption)))))); have hO0' := (hO0.alloc _).since hS8; obtain ⟨A8, c8, rfl, hc8, hR8⟩ := hO8.rd (by omega) byL_len; clear hO8) | (at_builtin; refine wpList_append_b2 rfl _ _ rfl hS8' _ X rfl hO0' _ A8 _ c8 (part8 ⟨g, x, y, a0, a1, a2, a3⟩ 32) rfl rfl hR8 (by have := HLL.out 32; omega) ?_; intro v9 w9 hO9 hS9 hgr9))
            go_roundw
            case rel => exact ⟨j + 1, _, by rw [← HN.out]; omega, by go_num, hO9, hS9, Lib.hid (HEND.out 32 HT.out), by rw [List.length_append]; have := HLL.out 32; omega⟩
            case measure => simp [intOf]; omega
          · have e1 : ¬ (j : Int) < (n : Int) - 1 := by omega
            by_cases hm0 : 0 < m
            · have e2 : (0 : Int) < (m : Int) := by omega
              have HT := Lib.hid (show tail8 (L.drop (j + 1)) hc = 256 by
                rw [tail_last (by rw [← HN.out]; exact hl), HHC.out, emp_yes (by rw [← HMM.out]; exact hm0)]; rfl)
              clear hjL
              go_wp2_with (first | (go_at_call 60; (with_reducible refine (HWP.out 256 (by omega) _).mono ?_); rintro e w8 ⟨v8, rfl, hO8, hS8⟩; have hS8' : Since w w8 := (by (repeat (first | with_reducible (exact Since.refl _) | with_reducible assumption | with_reducible (refine Since.drew ?_) | with_reducible (refine Since.drewN ?_ _) | with_reducible (refine Since.alloc ?_ _) | (with_reducible (refine Since.setCell ?_ ?_ _); rotate_left; focus (first | (simp; done) | (simp; omega) | omega)) | (with_reducible (refine Since.trans ?_ (by with_reducible assumption)))))); have hO0' := (hO0.alloc _).since hS8; obtain ⟨A8, c8, rfl, hc8, hR8⟩ := hO8.rd (by omega) byL_len; clear hO8) | (at_builtin; refine wpList_append_b2 rfl _ _ rfl hS8' _ X rfl hO0' _ A8 _ c8 (part8 ⟨g, x, y, a0, a1, a2, a3⟩ 256) rfl rfl hR8 (by have := HLL.out 256; omega) ?_; intro v9 w9 hO9 hS9 hgr9))
              go_roundw
              case rel => exact ⟨j + 1, _, by rw [← HN.out]; omega, by go_num, hO9, hS9, Lib.hid (HEND.out 256 HT.out), by rw [List.length_append]; have := HLL.out 256; omega⟩
              case measure => simp [intOf]; omega
            · have e2 : ¬ (0 : Int) < (m : Int) := by omega
              have HT := Lib.hid (show tail8 (L.drop (j + 1)) hc = 0 by
                rw [tail_last (by rw [← HN.out]; exact hl), HHC.out, emp_no (by rw [← HMM.out]; omega)]; rfl)
              clear hjL
              go_wp2_with (first | (go_at_call 60; (with_reducible refine (HWP.out 0 (by omega) _).mono ?_); rintro e w8 ⟨v8, rfl, hO8, hS8⟩; have hS8' : Since w w8 := (by (repeat (first | with_reducible (exact Since.refl _) | with_reducible assumption | with_reducible (refine Since.drew ?_) | with_reducible (refine Since.drewN ?_ _) | with_reducible (refine Since.alloc ?_ _) | (with_reducible (refine Since.setCell ?_ ?_ _); rotate_left; focus (first | (simp; done) | (simp; omega) | omega)) | (with_reducible (refine Since.trans ?_ (by with_reducible assumption)))))); have hO0' := (hO0.alloc _).since hS8; obtain ⟨A8, c8, rfl, hc8, hR8⟩ := hO8.rd (by omega) byL_len; clear hO8) | (at_builtin; refine wpList_append_b2 rfl _ _ rfl hS8' _ X rfl hO0' _ A8 _ c8 (part8 ⟨g, x, y, a0, a1, a2, a3⟩ 0) rfl rfl hR8 (by have := HLL.out 0; omega) ?_; intro v9 w9 hO9 hS9 hgr9))
              go_roundw
              case rel => exact ⟨j + 1, _, by rw [← HN.out]; omega, by go_num, hO9, hS9, Lib.hid (HEND.out 0 HT.out), by rw [List.length_append]; have := HLL.out 0; omega⟩
              case measure => simp [intOf]; omega
        · obtain rfl : j = n := by omega
          have hdn : L.drop j = [] := by rw [List.drop_eq_nil_iff, ← HN.out]; omega
          have hXe : X = X0 ++ parts8 hc L := by have := HG.out; rw [hdn] at this; simpa [parts8] using this
          have hBB : wrB8 L C [lx, ly, mx, my] = X ++ code8 C := by
            unfold wrB8; rw [hXe, HX.out, HHC.out]; simp only [List.append_assoc]
          have HA2 := Lib.hid (HA.out.trans hBB)
          clear hdn hXe hBB
          by_cases hm0 : 0 < m
          · have e2 : (0 : Int) < (m : Int) := by omega
            have hIm : In64 (m : Int) := by unfold In64; omega
            have hCl : C.length ≤ 65535 := by rw [← HMM.out]; exact hm64
            have HCC := Lib.hid (show code8 C = putL (m : Int) 2 ++ C by unfold code8; rw [if_neg (by intro e; rw [HMM.out, e] at hm0; simp at hm0), HMM.out])
            have tk1 := True.intro
            go_wp2_with (first | (go_at_call 44; have _t := tk1; (with_reducible refine (put_l 2 _ _ _ hIm (by omega) (by omega)).mono ?_); rintro e wp1 ⟨gp1, rfl, hg1, hr1, hp1⟩; have hSp1 := hS0.trans hp1; have hOp1 := hO0.since hp1; clear tk1 hp1 hg1; have ta1 := True.intro) | (at_builtin; have _t := ta1; refine wpList_append_b2 rfl _ _ rfl hSp1 _ (X) rfl hOp1 _ (some ⟨gp1, 0, none⟩) 2 2 (putL _ 2) (putL_len _ _).symm rfl hr1 (by simp only [List.length_append, putL_len]; omega) ?_; intro v1 w1 hO1 hS1 hgr1; clear ta1 hr1 hSp1 hOp1 hgr1; have tk2 := True.intro) | (at_builtin; have _t := tk2; refine wpList_append_b2 rfl _ _ rfl hS1 _ (X ++ putL (m : Int) 2) rfl hO1 _ B m d C HMM.out rfl (HC.out.on hS1) (by simp only [List.length_append, putL_len]; omega) ?_; intro v9 w9 hO9 hS9 hgr9; clear tk2))
            go_ret2
            exact wrpost8 HE.out (HA2.out.trans (by rw [HCC.out])) (own_app hO9 (by rw [List.append_assoc])) hS9
          · have e2 : ¬ (0 : Int) < (m : Int) := by omega
            have HCC := Lib.hid (show code8 C = [] by unfold code8; rw [if_pos]; exact List.length_eq_zero_iff.1 (by rw [← HMM.out]; omega))
            go_wp2_with fail
            go_ret2
            exact wrpost8 HE.out (HA2.out.trans (by rw [HCC.out, List.append_nil])) hO0 hS0
    · have HE := Lib.hid (wrE_six (box := [lx, ly, mx, my]) H0.out H7.out (fun e => hB e.1))
      have HCP2 := Lib.hid (HCP.out false (decide_eq_true hP))
      have HCI2 := Lib.hid (HCI.out true (by rw [decide_eq_false hB]; rfl))
      clear HCP HCI hP hB
      go_enter Try.func30, Try.ntmps30
      go_wp2_with (first | (go_at_call 55; (with_reducible refine (HCP2.out _ (by (repeat (first | with_reducible (exact Since.refl _) | with_reducible assumption | with_reducible (refine Since.drew ?_) | with_reducible (refine Since.drewN ?_ _) | with_reducible (refine Since.alloc ?_ _) | (with_reducible (refine Since.setCell ?_ ?_ _); rotate_left; focus (first | (simp; done) | (simp; omega) | omega)) | (with_reducible (refine Since.trans ?_ (by with_reducible assumption))))))).mono ?_); rintro e w1 ⟨rfl, hSa⟩; have hS1 : Since w w1 := (by (repeat (first | with_reducible (exact Since.refl _) | with_reducible assumption | with_reducible (refine Since.drew ?_) | with_reducible (refine Since.drewN ?_ _) | with_reducible (refine Since.alloc ?_ _) | (with_reducible (refine Since.setCell ?_ ?_ _); rotate_left; focus (first | (simp; done) | (simp; omega) | omega)) | (with_reducible (refine Since.trans ?_ (by with_reducible assumption)))))); have hRb := RdG.on (rdi_new ((w.alloc _).alloc _) (w.heap.size + 1 + 1) (by simp) _ _ [lx, ly, mx, my] rfl) hSa; clear hSa) | (go_at_call 57; (with_reducible refine (HCI2.out _ _ _ hRb).mono ?_); rintro e w2 ⟨rfl, hSb⟩; have hS2 := hS1.trans hSb))
      go_ret2
      exact wrpost8 HE.out (wr_no (by rw [HE.out]; omega)) (OwnG.nil _ _ _ _ _) hS2
  · have HE := Lib.hid (wrE_six (box := [lx, ly, mx, my]) H0.out H7.out (fun e => hP e.2))
    have HCP2 := Lib.hid (HCP.out true (by rw [decide_eq_false hP]; rfl))
    clear HCP HCI hP
    go_enter Try.func30, Try.ntmps30
    go_wp2_with (first | (go_at_call 55; (with_reducible refine (HCP2.out _ (by (repeat (first | with_reducible (exact Since.refl _) | with_reducible assumption | with_reducible (refine Since.drew ?_) | with_reducible (refine Since.drewN ?_ _) | with_reducible (refine Since.alloc ?_ _) | (with_reducible (refine Since.setCell ?_ ?_ _); rotate_left; focus (first | (simp; done) | (simp; omega) | omega)) | (with_reducible (refine Since.trans ?_ (by with_reducible assumption))))))).mono ?_); rintro e w1 ⟨rfl, hSa⟩; have hS1 : Since w w1 := (by (repeat (first | with_reducible (exact Since.refl _) | with_reducible assumption | with_reducible (refine Since.drew ?_) | with_reducible (refine Since.drewN ?_ _) | with_reducible (refine Since.alloc ?_ _) | (with_reducible (refine Since.setCell ?_ ?_ _); rotate_left; focus (first | (simp; done) | (simp; omega) | omega)) | (with_reducible (refine Since.trans ?_ (by with_reducible assumption))))))))
    go_ret2
    exact wrpost8 HE.out (wr_no (by rw [HE.out]; omega)) (OwnG.nil _ _ _ _ _) hS1
end Go.Proofs.Ytbjjndficllogaa
