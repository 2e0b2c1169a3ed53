/-
  Layer 9: agrees.
-/
import Derived.Test.YteckkcpnfeoehaaDoorFnE
namespace Go.Proofs.YteckkcpnfeoehaaDoor
set_option maxRecDepth 100000
open Go.RowKit Go.ChangeShapes Go.WideShapes Go.Deep
set_option linter.unusedVariables false
set_option linter.unusedSimpArgs false

abbrev hdA (h : Hd9) : Array Value := #[.int .i64 h.em, .int .i64 h.a, .int .i64 h.b, .int .i64 h.c, .int .i64 h.d, .bool h.l]
abbrev mxA (m : Mx9) : Array Value := #[.int .i64 m.g, .int .i64 m.p, .int .i64 m.c, .int .i64 m.q, .int .i64 m.r, .int .i64 m.e, .int .i64 m.d]
theorem new_hd (w : World) (b : Nat) (hb : b = w.heap.size) (t : TypeId) : BoxL (w.alloc (.cells #[.int .i64 0, .int .i64 0, .int .i64 0, .int .i64 0, .int .i64 0, .bool false] t)) b (hdC zH) := BoxL.new w b hb t _
theorem new_mx (w : World) (b : Nat) (hb : b = w.heap.size) (t : TypeId) : BoxL (w.alloc (.cells #[.int .i64 0, .int .i64 0, .int .i64 0, .int .i64 0, .int .i64 0, .int .i64 0, .int .i64 0] t)) b (mxC zM) := BoxL.new w b hb t _
/-- A font's cells, one by one. -/
theorem fn_cells {w : World} {b nt nm ng : Nat} {x : Fh} {h : Hd9} {m : Mx9} {ct : Int} (hB : BoxL w b (fnC x nt h m nm ct ng)) :
    w.cell? ⟨b, 0, none⟩ = some (.slice x.At nt x.ct) ∧ (w.cell? ⟨b, 1, none⟩ = some (.int .i64 h.em) ∧ w.cell? ⟨b, 2, none⟩ = some (.int .i64 h.a) ∧ w.cell? ⟨b, 3, none⟩ = some (.int .i64 h.b) ∧ w.cell? ⟨b, 4, none⟩ = some (.int .i64 h.c) ∧ w.cell? ⟨b, 5, none⟩ = some (.int .i64 h.d) ∧ w.cell? ⟨b, 6, none⟩ = some (.bool h.l)) ∧
    (w.cell? ⟨b, 7, none⟩ = some (.int .i64 m.g) ∧ w.cell? ⟨b, 8, none⟩ = some (.int .i64 m.p) ∧ w.cell? ⟨b, 9, none⟩ = some (.int .i64 m.c) ∧ w.cell? ⟨b, 10, none⟩ = some (.int .i64 m.q) ∧ w.cell? ⟨b, 11, none⟩ = some (.int .i64 m.r) ∧ w.cell? ⟨b, 12, none⟩ = some (.int .i64 m.e) ∧ w.cell? ⟨b, 13, none⟩ = some (.int .i64 m.d)) ∧
    w.cell? ⟨b, 14, none⟩ = some (.slice x.Am nm x.cm) ∧ w.cell? ⟨b, 15, none⟩ = some (.int .i64 ct) ∧ w.cell? ⟨b, 16, none⟩ = some (.slice x.Ag ng x.cg) :=
  ⟨hB.cell 0 rfl, ⟨hB.cell 1 rfl, hB.cell 2 rfl, hB.cell 3 rfl, hB.cell 4 rfl, hB.cell 5 rfl, hB.cell 6 rfl⟩, ⟨hB.cell 7 rfl, hB.cell 8 rfl, hB.cell 9 rfl, hB.cell 10 rfl, hB.cell 11 rfl, hB.cell 12 rfl, hB.cell 13 rfl⟩, hB.cell 14 rfl, hB.cell 15 rfl, hB.cell 16 rfl⟩
theorem hd_cells {w : World} {b : Nat} {h : Hd9} (hB : BoxL w b (hdC h)) : w.cell? ⟨b, 0, none⟩ = some (.int .i64 h.em) ∧ w.cell? ⟨b, 1, none⟩ = some (.int .i64 h.a) ∧ w.cell? ⟨b, 2, none⟩ = some (.int .i64 h.b) ∧ w.cell? ⟨b, 3, none⟩ = some (.int .i64 h.c) ∧ w.cell? ⟨b, 4, none⟩ = some (.int .i64 h.d) ∧ w.cell? ⟨b, 5, none⟩ = some (.bool h.l) :=
  ⟨hB.cell 0 rfl, hB.cell 1 rfl, hB.cell 2 rfl, hB.cell 3 rfl, hB.cell 4 rfl, hB.cell 5 rfl⟩
theorem mx_cells {w : World} {b : Nat} {m : Mx9} (hB : BoxL w b (mxC m)) : w.cell? ⟨b, 0, none⟩ = some (.int .i64 m.g) ∧ w.cell? ⟨b, 1, none⟩ = some (.int .i64 m.p) ∧ w.cell? ⟨b, 2, none⟩ = some (.int .i64 m.c) ∧ w.cell? ⟨b, 3, none⟩ = some (.int .i64 m.q) ∧ w.cell? ⟨b, 4, none⟩ = some (.int .i64 m.r) ∧ w.cell? ⟨b, 5, none⟩ = some (.int .i64 m.e) ∧ w.cell? ⟨b, 6, none⟩ = some (.int .i64 m.d) :=
  ⟨hB.cell 0 rfl, hB.cell 1 rfl, hB.cell 2 rfl, hB.cell 3 rfl, hB.cell 4 rfl, hB.cell 5 rfl, hB.cell 6 rfl⟩
theorem agr_b (F : Fn9) : decide (agr9 F) = (decide (fldE F.TT = 0) && (decide (fldH F.TT = F.h) && (decide (fldM F.TT = F.m) && (fldC F.TT == F.ct)))) := by
  rw [Bool.eq_iff_iff, decide_eq_true_iff]
  simp [agr9]
set_option maxRecDepth 1000000 in
set_option maxHeartbeats 16000000 in
theorem fn_agrees (x : Fh) (F : Fn9) (C : Array Value) (hC : C = fnV x F) (w : World) (hT : Tabs w) (hR : RdTL w w.heap.size x.At F.TT) (hn : F.TT.length ≤ maxLen) (hm : ∀ T, T ∈ F.TT → T.data.length ≤ 140737488355328) (hby : ∀ T, T ∈ F.TT → Bytes T.data) :
    Calls Tryd.prog 28 #[.agg C] w fun e w' => e = .returned (.bool (decide (agr9 F))) ∧ Since w w' := by
  obtain ⟨xAt, xct, xAm, xcm, xAg, xcg⟩ := x
  have hR : RdTL w w.heap.size xAt F.TT := hR
  have HBX := Lib.hid (fun (t : TypeId) => (fn_box (x := ⟨xAt, xct, xAm, xcm, xAg, xcg⟩) (nt := F.TT.length) (h := F.h) (m := F.m) (nm := F.MM.length) (ct := F.ct) (ng := F.GG.length) w w.heap.size rfl t))
  have HC := Lib.hid (show C = (fnC ⟨xAt, xct, xAm, xcm, xAg, xcg⟩ F.TT.length F.h F.m F.MM.length F.ct F.GG.length).toArray from hC)
  have HFD := Lib.hid (fun (w2 : World) (h2 : Since w w2) => fn_fields F.TT xAt F.TT.length xct w2 (hT.since h2) (hR.on h2) rfl hn hm hby)
  unfold FldP at HFD
  obtain ⟨D, hD⟩ : ∃ D, D = decide (agr9 F) := ⟨_, rfl⟩
  rw [← hD]
  rw [agr_b] at hD
  generalize fldH F.TT = H at *
  generalize fldM F.TT = M at *
  generalize fldC F.TT = K at *
  generalize fldE F.TT = E at *
  generalize F.TT.length = nt at *
  generalize F.MM.length = nm at *
  generalize F.GG.length = ng at *
  generalize F.h = h' at *
  generalize F.m = m' at *
  generalize F.ct = k' at *
  have HD := Lib.hid hD
  clear hC hR hT hD hm hby
  by_cases hE : E = 0
  · subst hE
    have eH : ∀ w, (Op.equalIn 10000 24 (.agg (hdA H)) (.agg (hdA h'))).run Tryd.prog w = .ok (decide (H = h')) w := fun w => eq_hd9 w H h'
    have eM : ∀ w, (Op.equalIn 10000 26 (.agg (mxA M)) (.agg (mxA m'))).run Tryd.prog w = .ok (decide (M = m')) w := fun w => eq_mx9 w M m'
    unfold hdA at eH
    unfold mxA at eM
    have fin : ∀ (a b c : Bool), decide (H = h') = a → decide (M = m') = b → (K == k') = c → D = (a && b && c) := fun a b c h1 h2 h3 => by
      rw [HD.out, h1, h2, h3]; simp [Bool.and_assoc]
    have FIN := Lib.hid fin
    clear fin
    by_cases q1 : H = h'
    · have d1 : decide (H = h') = true := by simpa using q1
      by_cases q2 : M = m'
      · have d2 : decide (M = m') = true := by simpa using q2
        cases q3 : K == k'
        · have e3 := FIN.out _ _ _ d1 d2 q3
          rw [d1] at eH
          rw [d2] at eM
          have E3 := Lib.hid e3
          clear e3 HD
          (try clear q1)
          (try clear q2)
          (try clear d1)
          (try clear d2)
          go_enter Tryd.func28, Tryd.ntmps28
          go_upto_region 1 with fail
          refine wp_named fun w1 hw1 => ?_
          have hS1 : Since w w1 := by subst hw1; (repeat (first | with_reducible (exact Since.refl _) | with_reducible assumption | with_reducible (refine Since.drew ?_) | with_reducible (refine Since.drewN ?_ _) | with_reducible (refine Since.alloc ?_ _) | (with_reducible (refine Since.setCell ?_ ?_ _); rotate_left; focus (first | (simp; done) | (simp; omega) | omega)) | (with_reducible (refine Since.trans ?_ (by with_reducible assumption)))))
          have hB1 : BoxL w1 w.heap.size (fnC ⟨xAt, xct, xAm, xcm, xAg, xcg⟩ nt h' m' nm k' ng) := by subst hw1; rw [HC.out]; exact HBX.out _
          clear hw1 HBX
          obtain ⟨c0, _⟩ := fn_cells hB1
          go_wp2_with (first | (go_at_call 32; (with_reducible refine (HFD.out _ hS1).mono ?_); rintro e w2 ⟨rfl, hS2⟩; have hS12 := hS1.trans hS2; have hB2 := hB1.since hS2; have hX := ((Since.refl w2).alloc (.cells #[.int .i64 0, .int .i64 0, .int .i64 0, .int .i64 0, .int .i64 0, .bool false] 24)).alloc (.cells #[.int .i64 0, .int .i64 0, .int .i64 0, .int .i64 0, .int .i64 0, .int .i64 0, .int .i64 0] 26)) | (refine wp_hd_store rfl _ _ rfl (by rfl) (by with_reducible exact (new_hd w2 w2.heap.size rfl _).alloc _) H (by rfl) ?_; intro w3 hb1 hN3; have hb2 := (new_mx (w2.alloc (.cells #[.int .i64 0, .int .i64 0, .int .i64 0, .int .i64 0, .int .i64 0, .bool false] 24)) (w2.heap.size + 1) (by simp) 26).nigh hN3 (by omega); have hS13 := hN3.2 w2 hX (Nat.le_refl _); have hB3 := hB2.since hS13) | (refine wp_mx_store rfl _ _ rfl (by rfl) (by with_reducible exact hb2) M (by rfl) ?_; intro w4 hb4 hN4; have hb3 := hb1.nigh hN4 (by omega); have hS14 := hN4.2 w2 hS13 (Nat.le_succ _); have hB4 := hB2.since hS14; obtain ⟨i0, i1, i2, i3, i4, i5⟩ := hd_cells hb3; obtain ⟨j0, j1, j2, j3, j4, j5, j6⟩ := mx_cells hb4; obtain ⟨f0, ⟨f1, f2, f3, f4, f5, f6⟩, ⟨f7, f8, f9, fa, fb, fc, fd⟩, fe, ff, fg⟩ := fn_cells hB4; clear f0 fe fg))
          go_ret
          rw [E3.out]
          exact ⟨by first | rfl | simp_all, hS12.trans (by (repeat (first | with_reducible (exact Since.refl _) | with_reducible assumption | with_reducible (refine Since.drew ?_) | with_reducible (refine Since.drewN ?_ _) | with_reducible (refine Since.alloc ?_ _) | (with_reducible (refine Since.setCell ?_ ?_ _); rotate_left; focus (first | (simp; done) | (simp; omega) | omega)) | (with_reducible (refine Since.trans ?_ (by with_reducible assumption))))))⟩
        · have e3 := FIN.out _ _ _ d1 d2 q3
          rw [d1] at eH
          rw [d2] at eM
          have E3 := Lib.hid e3
          clear e3 HD
          (try clear q1)
          (try clear q2)
          (try clear d1)
          (try clear d2)
          go_enter Tryd.func28, Tryd.ntmps28
          go_upto_region 1 with fail
          refine wp_named fun w1 hw1 => ?_
          have hS1 : Since w w1 := by subst hw1; (repeat (first | with_reducible (exact Since.refl _) | with_reducible assumption | with_reducible (refine Since.drew ?_) | with_reducible (refine Since.drewN ?_ _) | with_reducible (refine Since.alloc ?_ _) | (with_reducible (refine Since.setCell ?_ ?_ _); rotate_left; focus (first | (simp; done) | (simp; omega) | omega)) | (with_reducible (refine Since.trans ?_ (by with_reducible assumption)))))
          have hB1 : BoxL w1 w.heap.size (fnC ⟨xAt, xct, xAm, xcm, xAg, xcg⟩ nt h' m' nm k' ng) := by subst hw1; rw [HC.out]; exact HBX.out _
          clear hw1 HBX
          obtain ⟨c0, _⟩ := fn_cells hB1
          go_wp2_with (first | (go_at_call 32; (with_reducible refine (HFD.out _ hS1).mono ?_); rintro e w2 ⟨rfl, hS2⟩; have hS12 := hS1.trans hS2; have hB2 := hB1.since hS2; have hX := ((Since.refl w2).alloc (.cells #[.int .i64 0, .int .i64 0, .int .i64 0, .int .i64 0, .int .i64 0, .bool false] 24)).alloc (.cells #[.int .i64 0, .int .i64 0, .int .i64 0, .int .i64 0, .int .i64 0, .int .i64 0, .int .i64 0] 26)) | (refine wp_hd_store rfl _ _ rfl (by rfl) (by with_reducible exact (new_hd w2 w2.heap.size rfl _).alloc _) H (by rfl) ?_; intro w3 hb1 hN3; have hb2 := (new_mx (w2.alloc (.cells #[.int .i64 0, .int .i64 0, .int .i64 0, .int .i64 0, .int .i64 0, .bool false] 24)) (w2.heap.size + 1) (by simp) 26).nigh hN3 (by omega); have hS13 := hN3.2 w2 hX (Nat.le_refl _); have hB3 := hB2.since hS13) | (refine wp_mx_store rfl _ _ rfl (by rfl) (by with_reducible exact hb2) M (by rfl) ?_; intro w4 hb4 hN4; have hb3 := hb1.nigh hN4 (by omega); have hS14 := hN4.2 w2 hS13 (Nat.le_succ _); have hB4 := hB2.since hS14; obtain ⟨i0, i1, i2, i3, i4, i5⟩ := hd_cells hb3; obtain ⟨j0, j1, j2, j3, j4, j5, j6⟩ := mx_cells hb4; obtain ⟨f0, ⟨f1, f2, f3, f4, f5, f6⟩, ⟨f7, f8, f9, fa, fb, fc, fd⟩, fe, ff, fg⟩ := fn_cells hB4; clear f0 fe fg))
          go_ret
          rw [E3.out]
          exact ⟨by first | rfl | simp_all, hS12.trans (by (repeat (first | with_reducible (exact Since.refl _) | with_reducible assumption | with_reducible (refine Since.drew ?_) | with_reducible (refine Since.drewN ?_ _) | with_reducible (refine Since.alloc ?_ _) | (with_reducible (refine Since.setCell ?_ ?_ _); rotate_left; focus (first | (simp; done) | (simp; omega) | omega)) | (with_reducible (refine Since.trans ?_ (by with_reducible assumption))))))⟩
      · have d2 : decide (M = m') = false := by simpa using q2
        have e3 := FIN.out _ _ _ d1 d2 rfl
        rw [d1] at eH
        rw [d2] at eM
        have E3 := Lib.hid e3
        clear e3 HD
        (try clear q1)
        (try clear q2)
        (try clear d1)
        (try clear d2)
        go_enter Tryd.func28, Tryd.ntmps28
        go_upto_region 1 with fail
        refine wp_named fun w1 hw1 => ?_
        have hS1 : Since w w1 := by subst hw1; (repeat (first | with_reducible (exact Since.refl _) | with_reducible assumption | with_reducible (refine Since.drew ?_) | with_reducible (refine Since.drewN ?_ _) | with_reducible (refine Since.alloc ?_ _) | (with_reducible (refine Since.setCell ?_ ?_ _); rotate_left; focus (first | (simp; done) | (simp; omega) | omega)) | (with_reducible (refine Since.trans ?_ (by with_reducible assumption)))))
        have hB1 : BoxL w1 w.heap.size (fnC ⟨xAt, xct, xAm, xcm, xAg, xcg⟩ nt h' m' nm k' ng) := by subst hw1; rw [HC.out]; exact HBX.out _
        clear hw1 HBX
        obtain ⟨c0, _⟩ := fn_cells hB1
        go_wp2_with (first | (go_at_call 32; (with_reducible refine (HFD.out _ hS1).mono ?_); rintro e w2 ⟨rfl, hS2⟩; have hS12 := hS1.trans hS2; have hB2 := hB1.since hS2; have hX := ((Since.refl w2).alloc (.cells #[.int .i64 0, .int .i64 0, .int .i64 0, .int .i64 0, .int .i64 0, .bool false] 24)).alloc (.cells #[.int .i64 0, .int .i64 0, .int .i64 0, .int .i64 0, .int .i64 0, .int .i64 0, .int .i64 0] 26)) | (refine wp_hd_store rfl _ _ rfl (by rfl) (by with_reducible exact (new_hd w2 w2.heap.size rfl _).alloc _) H (by rfl) ?_; intro w3 hb1 hN3; have hb2 := (new_mx (w2.alloc (.cells #[.int .i64 0, .int .i64 0, .int .i64 0, .int .i64 0, .int .i64 0, .bool false] 24)) (w2.heap.size + 1) (by simp) 26).nigh hN3 (by omega); have hS13 := hN3.2 w2 hX (Nat.le_refl _); have hB3 := hB2.since hS13) | (refine wp_mx_store rfl _ _ rfl (by rfl) (by with_reducible exact hb2) M (by rfl) ?_; intro w4 hb4 hN4; have hb3 := hb1.nigh hN4 (by omega); have hS14 := hN4.2 w2 hS13 (Nat.le_succ _); have hB4 := hB2.since hS14; obtain ⟨i0, i1, i2, i3, i4, i5⟩ := hd_cells hb3; obtain ⟨j0, j1, j2, j3, j4, j5, j6⟩ := mx_cells hb4; obtain ⟨f0, ⟨f1, f2, f3, f4, f5, f6⟩, ⟨f7, f8, f9, fa, fb, fc, fd⟩, fe, ff, fg⟩ := fn_cells hB4; clear f0 fe fg))
        go_ret
        rw [E3.out]
        exact ⟨by first | rfl | simp_all, hS12.trans (by (repeat (first | with_reducible (exact Since.refl _) | with_reducible assumption | with_reducible (refine Since.drew ?_) | with_reducible (refine Since.drewN ?_ _) | with_reducible (refine Since.alloc ?_ _) | (with_reducible (refine Since.setCell ?_ ?_ _); rotate_left; focus (first | (simp; done) | (simp; omega) | omega)) | (with_reducible (refine Since.trans ?_ (by with_reducible assumption))))))⟩
    · have d1 : decide (H = h') = false := by simpa using q1
      have e3 := FIN.out _ _ _ d1 rfl rfl
      rw [d1] at eH
      have E3 := Lib.hid e3
      clear e3 HD
      (try clear q1)
      (try clear q2)
      (try clear d1)
      (try clear d2)
      go_enter Tryd.func28, Tryd.ntmps28
      go_upto_region 1 with fail
      refine wp_named fun w1 hw1 => ?_
      have hS1 : Since w w1 := by subst hw1; (repeat (first | with_reducible (exact Since.refl _) | with_reducible assumption | with_reducible (refine Since.drew ?_) | with_reducible (refine Since.drewN ?_ _) | with_reducible (refine Since.alloc ?_ _) | (with_reducible (refine Since.setCell ?_ ?_ _); rotate_left; focus (first | (simp; done) | (simp; omega) | omega)) | (with_reducible (refine Since.trans ?_ (by with_reducible assumption)))))
      have hB1 : BoxL w1 w.heap.size (fnC ⟨xAt, xct, xAm, xcm, xAg, xcg⟩ nt h' m' nm k' ng) := by subst hw1; rw [HC.out]; exact HBX.out _
      clear hw1 HBX
      obtain ⟨c0, _⟩ := fn_cells hB1
      go_wp2_with (first | (go_at_call 32; (with_reducible refine (HFD.out _ hS1).mono ?_); rintro e w2 ⟨rfl, hS2⟩; have hS12 := hS1.trans hS2; have hB2 := hB1.since hS2; have hX := ((Since.refl w2).alloc (.cells #[.int .i64 0, .int .i64 0, .int .i64 0, .int .i64 0, .int .i64 0, .bool false] 24)).alloc (.cells #[.int .i64 0, .int .i64 0, .int .i64 0, .int .i64 0, .int .i64 0, .int .i64 0, .int .i64 0] 26)) | (refine wp_hd_store rfl _ _ rfl (by rfl) (by with_reducible exact (new_hd w2 w2.heap.size rfl _).alloc _) H (by rfl) ?_; intro w3 hb1 hN3; have hb2 := (new_mx (w2.alloc (.cells #[.int .i64 0, .int .i64 0, .int .i64 0, .int .i64 0, .int .i64 0, .bool false] 24)) (w2.heap.size + 1) (by simp) 26).nigh hN3 (by omega); have hS13 := hN3.2 w2 hX (Nat.le_refl _); have hB3 := hB2.since hS13) | (refine wp_mx_store rfl _ _ rfl (by rfl) (by with_reducible exact hb2) M (by rfl) ?_; intro w4 hb4 hN4; have hb3 := hb1.nigh hN4 (by omega); have hS14 := hN4.2 w2 hS13 (Nat.le_succ _); have hB4 := hB2.since hS14; obtain ⟨i0, i1, i2, i3, i4, i5⟩ := hd_cells hb3; obtain ⟨j0, j1, j2, j3, j4, j5, j6⟩ := mx_cells hb4; obtain ⟨f0, ⟨f1, f2, f3, f4, f5, f6⟩, ⟨f7, f8, f9, fa, fb, fc, fd⟩, fe, ff, fg⟩ := fn_cells hB4; clear f0 fe fg))
      go_ret
      rw [E3.out]
      exact ⟨by first | rfl | simp_all, hS12.trans (by (repeat (first | with_reducible (exact Since.refl _) | with_reducible assumption | with_reducible (refine Since.drew ?_) | with_reducible (refine Since.drewN ?_ _) | with_reducible (refine Since.alloc ?_ _) | (with_reducible (refine Since.setCell ?_ ?_ _); rotate_left; focus (first | (simp; done) | (simp; omega) | omega)) | (with_reducible (refine Since.trans ?_ (by with_reducible assumption))))))⟩
  · have d0 : (E == 0) = false := by simpa using hE
    have e3 : D = false := by rw [HD.out]; simp [hE]
    have E3 := Lib.hid e3
    clear e3 HD
    (try clear q1)
    (try clear q2)
    (try clear d1)
    (try clear d2)
    go_enter Tryd.func28, Tryd.ntmps28
    go_upto_region 1 with fail
    refine wp_named fun w1 hw1 => ?_
    have hS1 : Since w w1 := by subst hw1; (repeat (first | with_reducible (exact Since.refl _) | with_reducible assumption | with_reducible (refine Since.drew ?_) | with_reducible (refine Since.drewN ?_ _) | with_reducible (refine Since.alloc ?_ _) | (with_reducible (refine Since.setCell ?_ ?_ _); rotate_left; focus (first | (simp; done) | (simp; omega) | omega)) | (with_reducible (refine Since.trans ?_ (by with_reducible assumption)))))
    have hB1 : BoxL w1 w.heap.size (fnC ⟨xAt, xct, xAm, xcm, xAg, xcg⟩ nt h' m' nm k' ng) := by subst hw1; rw [HC.out]; exact HBX.out _
    clear hw1 HBX
    obtain ⟨c0, _⟩ := fn_cells hB1
    go_wp2_with (first | (go_at_call 32; (with_reducible refine (HFD.out _ hS1).mono ?_); rintro e w2 ⟨rfl, hS2⟩; have hS12 := hS1.trans hS2; have hB2 := hB1.since hS2; have hX := ((Since.refl w2).alloc (.cells #[.int .i64 0, .int .i64 0, .int .i64 0, .int .i64 0, .int .i64 0, .bool false] 24)).alloc (.cells #[.int .i64 0, .int .i64 0, .int .i64 0, .int .i64 0, .int .i64 0, .int .i64 0, .int .i64 0] 26)) | (refine wp_hd_store rfl _ _ rfl (by rfl) (by with_reducible exact (new_hd w2 w2.heap.size rfl _).alloc _) H (by rfl) ?_; intro w3 hb1 hN3; have hb2 := (new_mx (w2.alloc (.cells #[.int .i64 0, .int .i64 0, .int .i64 0, .int .i64 0, .int .i64 0, .bool false] 24)) (w2.heap.size + 1) (by simp) 26).nigh hN3 (by omega); have hS13 := hN3.2 w2 hX (Nat.le_refl _); have hB3 := hB2.since hS13) | (refine wp_mx_store rfl _ _ rfl (by rfl) (by with_reducible exact hb2) M (by rfl) ?_; intro w4 hb4 hN4; have hb3 := hb1.nigh hN4 (by omega); have hS14 := hN4.2 w2 hS13 (Nat.le_succ _); have hB4 := hB2.since hS14; obtain ⟨i0, i1, i2, i3, i4, i5⟩ := hd_cells hb3; obtain ⟨j0, j1, j2, j3, j4, j5, j6⟩ := mx_cells hb4; obtain ⟨f0, ⟨f1, f2, f3, f4, f5, f6⟩, ⟨f7, f8, f9, fa, fb, fc, fd⟩, fe, ff, fg⟩ := fn_cells hB4; clear f0 fe fg))
    go_ret
    rw [E3.out]
    exact ⟨by first | rfl | simp_all, hS12.trans (by (repeat (first | with_reducible (exact Since.refl _) | with_reducible assumption | with_reducible (refine Since.drew ?_) | with_reducible (refine Since.drewN ?_ _) | with_reducible (refine Since.alloc ?_ _) | (with_reducible (refine Since.setCell ?_ ?_ _); rotate_left; focus (first | (simp; done) | (simp; omega) | omega)) | (with_reducible (refine Since.trans ?_ (by with_reducible assumption))))))⟩
end Go.Proofs.YteckkcpnfeoehaaDoor
