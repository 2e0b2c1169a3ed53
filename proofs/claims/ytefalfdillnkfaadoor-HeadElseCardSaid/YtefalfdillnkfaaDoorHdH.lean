/-
  Layer 5: the reference's 'PutMaxp', walked.
-/
import Derived.Test.YtefalfdillnkfaaDoorHdG
namespace Go.Proofs.YtefalfdillnkfaaDoor
open Go.RowKit
set_option linter.unusedVariables false

set_option maxRecDepth 100000 in
set_option maxHeartbeats 8000000 in
theorem rf_putmaxp (A : Option Addr) (n q : Nat) (f : Nat → Int) (a b c d e g i : Int) (w : World) (h : Rd w w.heap.size A n (U8 f)) (ha : In64 a) (hb : In64 b) (hc : In64 c) (hd : In64 d) (he : In64 e) (hg : In64 g) (hi : In64 i) (hn : n ≤ 140737488355328) :
    Calls Tryd.prog 20 #[.slice A n q, .agg #[.int .i64 a, .int .i64 b, .int .i64 c, .int .i64 d, .int .i64 e, .int .i64 g, .int .i64 i]] w (MpPost f n (seven a b c d e g i) w) := by
  have hn' : (n : Int) ≤ 140737488355328 := by omega
  by_cases h1 : n < 32
  · have E := Lib.hid (show mpE n (seven a b c d e g i) = 3 by unfold mpE; rw [if_pos h1])
    have h1' : (n : Int) < 32 := by omega
    clear h
    go_enter Tryd.func20, Tryd.ntmps20
    go_wp2
    go_ret2
    exact mp_bad E.out (by decide) (by (repeat (first | with_reducible (exact Since.refl _) | with_reducible assumption | with_reducible (refine Since.drew ?_) | with_reducible (refine Since.drewN ?_ _) | with_reducible (refine Since.alloc ?_ _) | (with_reducible (refine Since.setCell ?_ ?_ _); rotate_left; focus (first | (simp; done) | (simp; omega) | omega)) | (with_reducible (refine Since.trans ?_ (by with_reducible assumption))))))
  have h1' : (32 : Int) ≤ n := by omega
  have hE : mpE n (seven a b c d e g i) = if allW (seven a b c d e g i) 7 then 0 else 6 := by unfold mpE; rw [if_neg h1]
  have m0 := mx0; have m1 := mx1; have m2 := mx2; have m3 := mx3; have m4 := mx4; have m5 := mx5; have m6 := mx6
  have HE := Lib.hid hE; have HH := Lib.hid h
  clear hE h
  go_enter Tryd.func20, Tryd.ntmps20
  go_wp2_with (go_at_call 9; refine (ref_copy A n q f _ (HH.out.on (by (repeat (first | with_reducible (exact Since.refl _) | with_reducible assumption | with_reducible (refine Since.drew ?_) | with_reducible (refine Since.drewN ?_ _) | with_reducible (refine Since.alloc ?_ _) | (with_reducible (refine Since.setCell ?_ ?_ _); rotate_left; focus (first | (simp; done) | (simp; omega) | omega)) | (with_reducible (refine Since.trans ?_ (by with_reducible assumption))))))) (by omega)).mono ?_; rintro e wc ⟨gc, cc, rfl, hown, hSc⟩; have hTc : Since w wc := (by (repeat (first | with_reducible (exact Since.refl _) | with_reducible assumption | with_reducible (refine Since.drew ?_) | with_reducible (refine Since.drewN ?_ _) | with_reducible (refine Since.alloc ?_ _) | (with_reducible (refine Since.setCell ?_ ?_ _); rotate_left; focus (first | (simp; done) | (simp; omega) | omega)) | (with_reducible (refine Since.trans ?_ (by with_reducible assumption)))))); have s1 := hSc.2.2.1 (w.heap.size + 1) (by simp); have r0 := (hSc.1 (w.heap.size + 1) 0 (by simp)).trans (sbox_at _ _ (by simp) _ _ _ _ _ _ _ _ 0 _ rfl); have r1 := (hSc.1 (w.heap.size + 1) 1 (by simp)).trans (sbox_at _ _ (by simp) _ _ _ _ _ _ _ _ 1 _ rfl); have r2 := (hSc.1 (w.heap.size + 1) 2 (by simp)).trans (sbox_at _ _ (by simp) _ _ _ _ _ _ _ _ 2 _ rfl); have r3 := (hSc.1 (w.heap.size + 1) 3 (by simp)).trans (sbox_at _ _ (by simp) _ _ _ _ _ _ _ _ 3 _ rfl); have r4 := (hSc.1 (w.heap.size + 1) 4 (by simp)).trans (sbox_at _ _ (by simp) _ _ _ _ _ _ _ _ 4 _ rfl); have r5 := (hSc.1 (w.heap.size + 1) 5 (by simp)).trans (sbox_at _ _ (by simp) _ _ _ _ _ _ _ _ 5 _ rfl); have r6 := (hSc.1 (w.heap.size + 1) 6 (by simp)).trans (sbox_at _ _ (by simp) _ _ _ _ _ _ _ _ 6 _ rfl); have HO := Lib.hid hown; clear hown)
  refine wp_named fun W1 hW1 => ?_
  have hS1 : Since w W1 := by subst hW1; (repeat (first | with_reducible (exact Since.refl _) | with_reducible assumption | with_reducible (refine Since.drew ?_) | with_reducible (refine Since.drewN ?_ _) | with_reducible (refine Since.alloc ?_ _) | (with_reducible (refine Since.setCell ?_ ?_ _); rotate_left; focus (first | (simp; done) | (simp; omega) | omega)) | (with_reducible (refine Since.trans ?_ (by with_reducible assumption)))))
  have hlt : w.heap.size + 1 < W1.heap.size := by subst hW1; exact s1
  have a0 : W1.cell? ⟨w.heap.size + 1, 0, none⟩ = some (.int .i64 a) := by subst hW1; exact r0
  have a1 : W1.cell? ⟨w.heap.size + 1, 1, none⟩ = some (.int .i64 b) := by subst hW1; exact r1
  have a2 : W1.cell? ⟨w.heap.size + 1, 2, none⟩ = some (.int .i64 c) := by subst hW1; exact r2
  have a3 : W1.cell? ⟨w.heap.size + 1, 3, none⟩ = some (.int .i64 d) := by subst hW1; exact r3
  have a4 : W1.cell? ⟨w.heap.size + 1, 4, none⟩ = some (.int .i64 e) := by subst hW1; exact r4
  have a5 : W1.cell? ⟨w.heap.size + 1, 5, none⟩ = some (.int .i64 g) := by subst hW1; exact r5
  have a6 : W1.cell? ⟨w.heap.size + 1, 6, none⟩ = some (.int .i64 i) := by subst hW1; exact r6
  have HO1 := Lib.hid (show Own W1 _ gc cc n f by subst hW1; exact HO.out)
  have hgc : w.heap.size ≤ gc := by have := HO.out.base; simp at this; omega
  clear hW1 s1 r0 r1 r2 r3 r4 r5 r6 HO hTc
  go_loopw [7, 31] (fun v y wr => ∃ (k : Nat) (z : Int) (A' : Option Addr) (c' : Nat), k ≤ 7 ∧ z = k ∧ y = .int .i64 z ∧ v = .slice A' n c' ∧ Since W1 wr ∧ Rd wr wr.heap.size A' n (U8 (mpF f (seven a b c d e g i) k)) ∧ (0 ≤ k → n ≤ c' ∧ Nw wr w.heap.size A' n (U8 (mpF f (seven a b c d e g i) k))) ∧ allW (seven a b c d e g i) k = true) (fun _ y _ => (7 - intOf y).toNat)
  case atStart => exact ⟨0, 0, some ⟨gc, 0, none⟩, cc, by omega, rfl, rfl, rfl, Since.refl _, Rd.of_row HO1.out.row, fun _ => ⟨HO1.out.cap, fun _ => ⟨gc, rfl, hgc, HO1.out.row⟩⟩, rfl⟩
  case round =>
    obtain ⟨k, z, A', c', hk, hz, rfl, rfl, hSr, hR, hN, hall⟩ := hrel
    have HR := Lib.hid hR; have HN := Lib.hid hN; have HA := Lib.hid hall
    clear hR hN hall
    have hTr := hS1.trans hSr
    have hcase : k = 0 ∨ k = 1 ∨ k = 2 ∨ k = 3 ∨ k = 4 ∨ k = 5 ∨ k = 6 ∨ k = 7 := by omega
    rcases hcase with rfl | rfl | rfl | rfl | rfl | rfl | rfl | rfl
    · obtain rfl : z = 0 := by omega
      clear hz hk
      have c0 := (hSr.1 _ 0 hlt).trans a0
      by_cases hbd : a < 0 ∨ 65535 < a
      · have E2 := Lib.hid (show mpE n (seven a b c d e g i) = 6 by rw [HE.out, allW_no (j := 0) (word_no hbd) (by omega)]; rfl)
        rcases hbd with hbd | hbd
        · go_wp2
          go_ret2
          exact mp_bad E2.out (by decide) hTr
        · have hb' : 0 ≤ a := by omega
          go_wp2
          go_ret2
          exact mp_bad E2.out (by decide) hTr
      · have hb1 : 0 ≤ a := by omega
        have hb2 : a ≤ 65535 := by omega
        have hP := rf_lay4 A' n c' _ a wr w hTr ha HR.out (by omega) hn
        have HP := Lib.hid hP
        clear hbd hP
        go_wp2_with (go_at_call 29; (with_reducible refine HP.out.mono ?_); rintro e w2 ⟨A2, c2, rfl, hc2, hN2, hT2, hS2⟩)
        exact ⟨⟨1, 1, A2, c2, by omega, by simp, by simp, rfl, hSr.trans hS2, hN2.rd, fun _ => ⟨hc2, hN2⟩, allW_next HA.out ⟨hb1, hb2⟩⟩, by simp [intOf]⟩
    · obtain rfl : z = 1 := by omega
      clear hz hk
      have c0 := (hSr.1 _ 1 hlt).trans a1
      by_cases hbd : b < 0 ∨ 65535 < b
      · have E2 := Lib.hid (show mpE n (seven a b c d e g i) = 6 by rw [HE.out, allW_no (j := 1) (word_no hbd) (by omega)]; rfl)
        rcases hbd with hbd | hbd
        · go_wp2
          go_ret2
          exact mp_bad E2.out (by decide) hTr
        · have hb' : 0 ≤ b := by omega
          go_wp2
          go_ret2
          exact mp_bad E2.out (by decide) hTr
      · have hb1 : 0 ≤ b := by omega
        have hb2 : b ≤ 65535 := by omega
        have hP := rf_lay6 A' n c' _ b wr w hTr hb HR.out (by omega) hn
        have HP := Lib.hid hP
        clear hbd hP
        go_wp2_with (go_at_call 29; (with_reducible refine HP.out.mono ?_); rintro e w2 ⟨A2, c2, rfl, hc2, hN2, hT2, hS2⟩)
        exact ⟨⟨2, 2, A2, c2, by omega, by simp, by simp, rfl, hSr.trans hS2, hN2.rd, fun _ => ⟨hc2, hN2⟩, allW_next HA.out ⟨hb1, hb2⟩⟩, by simp [intOf]⟩
    · obtain rfl : z = 2 := by omega
      clear hz hk
      have c0 := (hSr.1 _ 2 hlt).trans a2
      by_cases hbd : c < 0 ∨ 65535 < c
      · have E2 := Lib.hid (show mpE n (seven a b c d e g i) = 6 by rw [HE.out, allW_no (j := 2) (word_no hbd) (by omega)]; rfl)
        rcases hbd with hbd | hbd
        · go_wp2
          go_ret2
          exact mp_bad E2.out (by decide) hTr
        · have hb' : 0 ≤ c := by omega
          go_wp2
          go_ret2
          exact mp_bad E2.out (by decide) hTr
      · have hb1 : 0 ≤ c := by omega
        have hb2 : c ≤ 65535 := by omega
        have hP := rf_lay8 A' n c' _ c wr w hTr hc HR.out (by omega) hn
        have HP := Lib.hid hP
        clear hbd hP
        go_wp2_with (go_at_call 29; (with_reducible refine HP.out.mono ?_); rintro e w2 ⟨A2, c2, rfl, hc2, hN2, hT2, hS2⟩)
        exact ⟨⟨3, 3, A2, c2, by omega, by simp, by simp, rfl, hSr.trans hS2, hN2.rd, fun _ => ⟨hc2, hN2⟩, allW_next HA.out ⟨hb1, hb2⟩⟩, by simp [intOf]⟩
    · obtain rfl : z = 3 := by omega
      clear hz hk
      have c0 := (hSr.1 _ 3 hlt).trans a3
      by_cases hbd : d < 0 ∨ 65535 < d
      · have E2 := Lib.hid (show mpE n (seven a b c d e g i) = 6 by rw [HE.out, allW_no (j := 3) (word_no hbd) (by omega)]; rfl)
        rcases hbd with hbd | hbd
        · go_wp2
          go_ret2
          exact mp_bad E2.out (by decide) hTr
        · have hb' : 0 ≤ d := by omega
          go_wp2
          go_ret2
          exact mp_bad E2.out (by decide) hTr
      · have hb1 : 0 ≤ d := by omega
        have hb2 : d ≤ 65535 := by omega
        have hP := rf_lay10 A' n c' _ d wr w hTr hd HR.out (by omega) hn
        have HP := Lib.hid hP
        clear hbd hP
        go_wp2_with (go_at_call 29; (with_reducible refine HP.out.mono ?_); rintro e w2 ⟨A2, c2, rfl, hc2, hN2, hT2, hS2⟩)
        exact ⟨⟨4, 4, A2, c2, by omega, by simp, by simp, rfl, hSr.trans hS2, hN2.rd, fun _ => ⟨hc2, hN2⟩, allW_next HA.out ⟨hb1, hb2⟩⟩, by simp [intOf]⟩
    · obtain rfl : z = 4 := by omega
      clear hz hk
      have c0 := (hSr.1 _ 4 hlt).trans a4
      by_cases hbd : e < 0 ∨ 65535 < e
      · have E2 := Lib.hid (show mpE n (seven a b c d e g i) = 6 by rw [HE.out, allW_no (j := 4) (word_no hbd) (by omega)]; rfl)
        rcases hbd with hbd | hbd
        · go_wp2
          go_ret2
          exact mp_bad E2.out (by decide) hTr
        · have hb' : 0 ≤ e := by omega
          go_wp2
          go_ret2
          exact mp_bad E2.out (by decide) hTr
      · have hb1 : 0 ≤ e := by omega
        have hb2 : e ≤ 65535 := by omega
        have hP := rf_lay12 A' n c' _ e wr w hTr he HR.out (by omega) hn
        have HP := Lib.hid hP
        clear hbd hP
        go_wp2_with (go_at_call 29; (with_reducible refine HP.out.mono ?_); rintro e w2 ⟨A2, c2, rfl, hc2, hN2, hT2, hS2⟩)
        exact ⟨⟨5, 5, A2, c2, by omega, by simp, by simp, rfl, hSr.trans hS2, hN2.rd, fun _ => ⟨hc2, hN2⟩, allW_next HA.out ⟨hb1, hb2⟩⟩, by simp [intOf]⟩
    · obtain rfl : z = 5 := by omega
      clear hz hk
      have c0 := (hSr.1 _ 5 hlt).trans a5
      by_cases hbd : g < 0 ∨ 65535 < g
      · have E2 := Lib.hid (show mpE n (seven a b c d e g i) = 6 by rw [HE.out, allW_no (j := 5) (word_no hbd) (by omega)]; rfl)
        rcases hbd with hbd | hbd
        · go_wp2
          go_ret2
          exact mp_bad E2.out (by decide) hTr
        · have hb' : 0 ≤ g := by omega
          go_wp2
          go_ret2
          exact mp_bad E2.out (by decide) hTr
      · have hb1 : 0 ≤ g := by omega
        have hb2 : g ≤ 65535 := by omega
        have hP := rf_lay28 A' n c' _ g wr w hTr hg HR.out (by omega) hn
        have HP := Lib.hid hP
        clear hbd hP
        go_wp2_with (go_at_call 29; (with_reducible refine HP.out.mono ?_); rintro e w2 ⟨A2, c2, rfl, hc2, hN2, hT2, hS2⟩)
        exact ⟨⟨6, 6, A2, c2, by omega, by simp, by simp, rfl, hSr.trans hS2, hN2.rd, fun _ => ⟨hc2, hN2⟩, allW_next HA.out ⟨hb1, hb2⟩⟩, by simp [intOf]⟩
    · obtain rfl : z = 6 := by omega
      clear hz hk
      have c0 := (hSr.1 _ 6 hlt).trans a6
      by_cases hbd : i < 0 ∨ 65535 < i
      · have E2 := Lib.hid (show mpE n (seven a b c d e g i) = 6 by rw [HE.out, allW_no (j := 6) (word_no hbd) (by omega)]; rfl)
        rcases hbd with hbd | hbd
        · go_wp2
          go_ret2
          exact mp_bad E2.out (by decide) hTr
        · have hb' : 0 ≤ i := by omega
          go_wp2
          go_ret2
          exact mp_bad E2.out (by decide) hTr
      · have hb1 : 0 ≤ i := by omega
        have hb2 : i ≤ 65535 := by omega
        have hP := rf_lay30 A' n c' _ i wr w hTr hi HR.out (by omega) hn
        have HP := Lib.hid hP
        clear hbd hP
        go_wp2_with (go_at_call 29; (with_reducible refine HP.out.mono ?_); rintro e w2 ⟨A2, c2, rfl, hc2, hN2, hT2, hS2⟩)
        exact ⟨⟨7, 7, A2, c2, by omega, by simp, by simp, rfl, hSr.trans hS2, hN2.rd, fun _ => ⟨hc2, hN2⟩, allW_next HA.out ⟨hb1, hb2⟩⟩, by simp [intOf]⟩
    · obtain rfl : z = 7 := by omega
      clear hz hk
      have E2 := Lib.hid (show mpE n (seven a b c d e g i) = 0 by rw [HE.out, HA.out]; rfl)
      go_wp2
      go_ret2
      exact mp_good E2.out (HN.out (by decide)).1 (HN.out (by decide)).2 hTr
end Go.Proofs.YtefalfdillnkfaaDoor
