/-
  Layer 9: a glyph's kind; 'Same' of the document's fonts.
-/
import Derived.Test.YteckkcpnfeoehaaDoorFnN
import Derived.Test.YteckkcpnfeoehaaDoorFnF
import Derived.Test.YteckkcpnfeoehaaDoorMpK
import Derived.Test.YteckkcpnfeoehaaDoorMnAg
import Derived.Deep.QuietTactic
import Derived.BigQuiet
namespace Go.Proofs.YteckkcpnfeoehaaDoor
set_option maxRecDepth 100000
open Go.RowKit Go.ChangeShapes Go.WideShapes Go.Deep
set_option linter.unusedVariables false
set_option linter.unusedSimpArgs false

/-- What a glyph's bytes are. -/
def kd12 (L : List Int) : Int := if L.length < 2 then 0 else if 128 ≤ fnL L 0 then 2 else 1
set_option maxHeartbeats 4000000 in

theorem ft_kind (A : Option Addr) (n c : Nat) (L : List Int) (w : World) (h : RdB w w.heap.size A L) (hn : n = L.length) (hx : n ≤ 140737488355328) :
    Calls Tryd.prog 19 #[.slice A n c] w fun e w' => e = .returned (.int .i64 (kd12 L)) ∧ Since w w' := by
  have hnI : (n : Int) ≤ 140737488355328 := by omega
  obtain ⟨R, hR⟩ : ∃ R, R = kd12 L := ⟨_, rfl⟩
  rw [← hR]
  unfold kd12 at hR
  rw [← hn] at hR
  by_cases h2 : n < 2
  · rw [if_pos h2] at hR
    subst hR
    have d2 : (n : Int) < 2 := by omega
    clear h
    go_enter Tryd.func19, Tryd.ntmps19
    go_wp2_with fail
    go_ret
    exact ⟨by first | rfl | simp, by (repeat (first | with_reducible (exact Since.refl _) | with_reducible assumption | with_reducible (refine Since.drew ?_) | with_reducible (refine Since.drewN ?_ _) | with_reducible (refine Since.alloc ?_ _) | (with_reducible (refine Since.setCell ?_ ?_ _); rotate_left; focus (first | (simp; done) | (simp; omega) | omega)) | (with_reducible (refine Since.trans ?_ (by with_reducible assumption)))))⟩
  · rw [if_neg h2] at hR
    have d2 : ¬ (n : Int) < 2 := by omega
    have d3 : (0 : Int) < (n : Int) := by omega
    obtain ⟨b, o, rfl, hb, hc⟩ := rdb_rd h (by omega)
    have c0 := hc 0 (by omega)
    rw [Nat.add_zero] at c0
    have c1 : w.cell? ⟨b, o, none⟩ = some (.int .u8 (fnL L 0)) := c0
    clear h hc c0 hn
    generalize fnL L 0 = x at *
    by_cases hx : 128 ≤ x
    · rw [if_pos hx] at hR
      subst hR
      go_enter Tryd.func19, Tryd.ntmps19
      go_wp2_with fail
      go_ret
      exact ⟨by first | rfl | simp, by (repeat (first | with_reducible (exact Since.refl _) | with_reducible assumption | with_reducible (refine Since.drew ?_) | with_reducible (refine Since.drewN ?_ _) | with_reducible (refine Since.alloc ?_ _) | (with_reducible (refine Since.setCell ?_ ?_ _); rotate_left; focus (first | (simp; done) | (simp; omega) | omega)) | (with_reducible (refine Since.trans ?_ (by with_reducible assumption)))))⟩
    · rw [if_neg hx] at hR
      subst hR
      go_enter Tryd.func19, Tryd.ntmps19
      go_wp2_with fail
      go_ret
      exact ⟨by first | rfl | simp, by (repeat (first | with_reducible (exact Since.refl _) | with_reducible assumption | with_reducible (refine Since.drew ?_) | with_reducible (refine Since.drewN ?_ _) | with_reducible (refine Since.alloc ?_ _) | (with_reducible (refine Since.setCell ?_ ?_ _); rotate_left; focus (first | (simp; done) | (simp; omega) | omega)) | (with_reducible (refine Since.trans ?_ (by with_reducible assumption)))))⟩

theorem rf_kind (A : Option Addr) (n c : Nat) (L : List Int) (w : World) (h : RdB w w.heap.size A L) (hn : n = L.length) (hx : n ≤ 140737488355328) :
    Calls Tryd.prog 20 #[.slice A n c] w fun e w' => e = .returned (.int .i64 (kd12 L)) ∧ Since w w' := by
  have hnI : (n : Int) ≤ 140737488355328 := by omega
  obtain ⟨R, hR⟩ : ∃ R, R = kd12 L := ⟨_, rfl⟩
  rw [← hR]
  unfold kd12 at hR
  rw [← hn] at hR
  by_cases h2 : n < 2
  · rw [if_pos h2] at hR
    subst hR
    have d2 : (n : Int) < 2 := by omega
    clear h
    go_enter Tryd.func20, Tryd.ntmps20
    go_wp2_with fail
    go_ret
    exact ⟨by first | rfl | simp, by (repeat (first | with_reducible (exact Since.refl _) | with_reducible assumption | with_reducible (refine Since.drew ?_) | with_reducible (refine Since.drewN ?_ _) | with_reducible (refine Since.alloc ?_ _) | (with_reducible (refine Since.setCell ?_ ?_ _); rotate_left; focus (first | (simp; done) | (simp; omega) | omega)) | (with_reducible (refine Since.trans ?_ (by with_reducible assumption)))))⟩
  · rw [if_neg h2] at hR
    have d2 : ¬ (n : Int) < 2 := by omega
    have d3 : (0 : Int) < (n : Int) := by omega
    obtain ⟨b, o, rfl, hb, hc⟩ := rdb_rd h (by omega)
    have c0 := hc 0 (by omega)
    rw [Nat.add_zero] at c0
    have c1 : w.cell? ⟨b, o, none⟩ = some (.int .u8 (fnL L 0)) := c0
    clear h hc c0 hn
    generalize fnL L 0 = x at *
    by_cases hx : 128 ≤ x
    · rw [if_pos hx] at hR
      subst hR
      go_enter Tryd.func20, Tryd.ntmps20
      go_wp2_with fail
      go_ret
      exact ⟨by first | rfl | simp, by (repeat (first | with_reducible (exact Since.refl _) | with_reducible assumption | with_reducible (refine Since.drew ?_) | with_reducible (refine Since.drewN ?_ _) | with_reducible (refine Since.alloc ?_ _) | (with_reducible (refine Since.setCell ?_ ?_ _); rotate_left; focus (first | (simp; done) | (simp; omega) | omega)) | (with_reducible (refine Since.trans ?_ (by with_reducible assumption)))))⟩
    · rw [if_neg hx] at hR
      subst hR
      go_enter Tryd.func20, Tryd.ntmps20
      go_wp2_with fail
      go_ret
      exact ⟨by first | rfl | simp, by (repeat (first | with_reducible (exact Since.refl _) | with_reducible assumption | with_reducible (refine Since.drew ?_) | with_reducible (refine Since.drewN ?_ _) | with_reducible (refine Since.alloc ?_ _) | (with_reducible (refine Since.setCell ?_ ?_ _); rotate_left; focus (first | (simp; done) | (simp; omega) | omega)) | (with_reducible (refine Since.trans ?_ (by with_reducible assumption)))))⟩

theorem alloc_size9 (w : World) (o : Obj) : w.heap.size + 1 = (w.alloc o).heap.size := by simp
set_option maxRecDepth 1000000 in
set_option maxHeartbeats 64000000 in
theorem rf_same9 (x y : Fh) (F : Fn9) (C D : Array Value) (hC : C = fnV x F) (hD : D = fnV y F) (w : World) (hR : FnR w w.heap.size x F) (hQ : FnR w w.heap.size y F) (ht : F.TT.length ≤ maxLen) (hm : F.MM.length ≤ maxLen) (hg : F.GG.length ≤ maxLen) :
    Calls Tryd.prog 14 #[.agg C, .agg D] w fun e w' => e = .returned (.bool true) ∧ Since w w' := by
  obtain ⟨xAt, xct, xAm, xcm, xAg, xcg⟩ := x
  obtain ⟨yAt, yct, yAm, ycm, yAg, ycg⟩ := y
  obtain ⟨hT1, hM1, hG1⟩ := hR
  obtain ⟨hT2, hM2, hG2⟩ := hQ
  have hT1 : RdTL w w.heap.size xAt F.TT := hT1
  have hT2 : RdTL w w.heap.size yAt F.TT := hT2
  have hM1 : Rd w w.heap.size xAm (F.MM.length * 2) (MtV (mtX F.MM) (mtY F.MM)) := hM1
  have hM2 : Rd w w.heap.size yAm (F.MM.length * 2) (MtV (mtX F.MM) (mtY F.MM)) := hM2
  have hG1 : RdBL w w.heap.size xAg F.GG := hG1
  have hG2 : RdBL w w.heap.size yAg F.GG := hG2
  have HBX := Lib.hid (fun (w2 : World) (t : TypeId) => (fn_box (x := ⟨xAt, xct, xAm, xcm, xAg, xcg⟩) (nt := F.TT.length) (h := F.h) (m := F.m) (nm := F.MM.length) (ct := F.ct) (ng := F.GG.length) w2 w2.heap.size rfl t))
  have HBY := Lib.hid (fun (w2 : World) (b : Nat) (hb : b = w2.heap.size) (t : TypeId) => (fn_box (x := ⟨yAt, yct, yAm, ycm, yAg, ycg⟩) (nt := F.TT.length) (h := F.h) (m := F.m) (nm := F.MM.length) (ct := F.ct) (ng := F.GG.length) w2 b hb t))
  have HC := Lib.hid (show C = (fnC ⟨xAt, xct, xAm, xcm, xAg, xcg⟩ F.TT.length F.h F.m F.MM.length F.ct F.GG.length).toArray from hC)
  have HD := Lib.hid (show D = (fnC ⟨yAt, yct, yAm, ycm, yAg, ycg⟩ F.TT.length F.h F.m F.MM.length F.ct F.GG.length).toArray from hD)
  have HMS := Lib.hid (fun (w2 : World) (h2 : Since w w2) => ref_msame xAm yAm F.MM.length xcm ycm _ _ w2 (hM1.on h2) (hM2.on h2) hm)
  have HTS := Lib.hid (fun (w2 : World) (h2 : Since w w2) => rf_sameT xAt yAt xct yct F.TT.length F.TT.length F.TT w2 (hT1.on h2) (hT2.on h2) rfl rfl ht)
  have eH : ∀ w, (Op.equalIn 10000 24 (.agg (hdA F.h)) (.agg (hdA F.h))).run Tryd.prog w = .ok true w := fun w => (eq_hd9 w F.h F.h).trans (by simp)
  have eM : ∀ w, (Op.equalIn 10000 26 (.agg (mxA F.m)) (.agg (mxA F.m))).run Tryd.prog w = .ok true w := fun w => (eq_mx9 w F.m F.m).trans (by simp)
  unfold hdA at eH
  unfold mxA at eM
  obtain ⟨GG, hGG⟩ : ∃ GG, GG = F.GG := ⟨_, rfl⟩
  rw [← hGG] at hG1 hG2 hg HBX HBY HC HD
  have hn : (GG.length : Int) ≤ 9223372036854775807 := by simp only [maxLen] at hg; omega
  obtain ⟨ng, hng⟩ : ∃ n, n = GG.length := ⟨_, rfl⟩
  rw [← hng] at HBX HBY HC HD hn
  have HG1 := Lib.hid hG1
  have HG2 := Lib.hid hG2
  have HNG := Lib.hid hng
  generalize F.MM.length = nm at *
  generalize F.TT.length = nt at *
  generalize F.h = H at *
  generalize F.m = M at *
  generalize F.ct = K at *
  clear hC hD hT1 hT2 hM1 hM2 hG1 hG2 ht hm hg hGG hng
  go_enter Tryd.func14, Tryd.ntmps14
  go_upto_region 1 with fail
  refine wp_named fun w1 hw1 => ?_
  have hS1 : Since w w1 := by subst hw1; (repeat (first | with_reducible (exact Since.refl _) | with_reducible assumption | with_reducible (refine Since.drew ?_) | with_reducible (refine Since.drewN ?_ _) | with_reducible (refine Since.alloc ?_ _) | (with_reducible (refine Since.setCell ?_ ?_ _); rotate_left; focus (first | (simp; done) | (simp; omega) | omega)) | (with_reducible (refine Since.trans ?_ (by with_reducible assumption)))))
  have hB1 : BoxL w1 w.heap.size (fnC ⟨xAt, xct, xAm, xcm, xAg, xcg⟩ nt H M nm K ng) := by subst hw1; rw [HC.out]; exact (HBX.out _ _).alloc _
  have hB2 : BoxL w1 (w.heap.size + 1) (fnC ⟨yAt, yct, yAm, ycm, yAg, ycg⟩ nt H M nm K ng) := by subst hw1; rw [HD.out]; exact HBY.out _ _ (alloc_size9 _ _) _
  clear hw1 HBX HBY HC HD
  obtain ⟨f0, ⟨f1, f2, f3, f4, f5, f6⟩, ⟨f7, f8, f9, fa, fb, fc, fd⟩, fe, ff, fg⟩ := fn_cells hB1
  obtain ⟨g0, ⟨g1, g2, g3, g4, g5, g6⟩, ⟨g7, g8, g9, ga, gb, gc, gd⟩, ge, gf, gg⟩ := fn_cells hB2
  go_upto_region 3 with (first | (go_at_call 38; (with_reducible refine (HMS.out _ hS1).mono ?_); rintro e w2 ⟨rfl, hS2⟩; have hS12 := hS1.trans hS2; have hB3 := hB1.since hS2; have hB4 := hB2.since hS2; have k0 := hB3.cell 0 (v := .slice xAt nt xct) rfl; have k1 := hB4.cell 0 (v := .slice yAt nt yct) rfl) | (go_at_call 39; (with_reducible refine (HTS.out _ hS12).mono ?_); rintro e w3 ⟨rfl, hS3⟩; have hS13 := hS12.trans hS3; have hB5 := hB3.since hS3; have hB6 := hB4.since hS3; have k2 := hB5.cell 16 (v := .slice xAg ng xcg) rfl; have k3 := hB6.cell 16 (v := .slice yAg ng ycg) rfl))
  clear f0 f1 f2 f3 f4 f5 f6 f7 f8 f9 fa fb fc fd fe ff fg g0 g1 g2 g3 g4 g5 g6 g7 g8 g9 ga gb gc gd ge gf gg k0 k1 eH eM HMS HTS
  have HB5 := Lib.hid hB5
  have HB6 := Lib.hid hB6
  have HS13 := Lib.hid hS13
  clear hB1 hB2 hB3 hB4 hB5 hB6 hS1 hS12 hS13 hS2 hS3
  go_wp2_with fail
  go_loopw [53] (fun y wr => ∃ j : Nat, j ≤ ng ∧ y = .int .i64 (j : Int) ∧ Since w3 wr) (fun y _ => ng - (intOf y).toNat)
  case atStart => exact ⟨0, by omega, rfl, by (repeat (first | with_reducible (exact Since.refl _) | with_reducible assumption | with_reducible (refine Since.drew ?_) | with_reducible (refine Since.drewN ?_ _) | with_reducible (refine Since.alloc ?_ _) | (with_reducible (refine Since.setCell ?_ ?_ _); rotate_left; focus (first | (simp; done) | (simp; omega) | omega)) | (with_reducible (refine Since.trans ?_ (by with_reducible assumption)))))⟩
  case round =>
    obtain ⟨j, hj, rfl, hS⟩ := hrel
    clear k2 k3
    by_cases hjn : j < ng
    · have hjn' : (j : Int) < ng := by omega
      have hj0 : (0 : Int) ≤ (j : Int) := by omega
      have hL : GG[j]? = some (GG[j]'(by rw [← HNG.out]; exact hjn)) := List.getElem?_eq_getElem _
      have hSw := HS13.out.trans hS
      obtain ⟨b, o, A', c', e1, hb, h0, hc, hr⟩ := (HG1.out.on hSw).row hL
      obtain ⟨b2, o2, A2, c2, e2, hb2, h2, hc2, hr2⟩ := (HG2.out.on hSw).row hL
      subst e1 e2
      generalize GG[j]'(by rw [← HNG.out]; exact hjn) = L at *
      have k2 := (HB5.out.since hS).cell 16 (v := .slice (some ⟨b, o, none⟩) ng xcg) rfl
      have k3 := (HB6.out.since hS).cell 16 (v := .slice (some ⟨b2, o2, none⟩) ng ycg) rfl
      obtain ⟨n, hn0⟩ : ∃ n, n = L.length := ⟨_, rfl⟩
      rw [← hn0] at h0 h2
      have HS := Lib.hid (fun (k : Nat) => same_l A' A2 n n c' c2 L L (wr.drewN k) hn0 hn0 hr hr2 rfl)
      have HSR := Lib.hid hS
      clear hL hn0 hr hr2 hc hc2 hb hb2 hS hSw
      go_wp2_with fail
      go_quiet ((go_at_call 15; exact Calls.quiet_of_same (HS.out _)))
      go_wp2_with fail
      go_roundw
      case rel => first | exact ⟨j + 1, by omega, by first | rfl | go_num | simp, by first | exact HSR.out | exact HSR.out.drewN _⟩ | ((repeat apply Exists.intro); refine ⟨?_, rfl⟩; exact ⟨j + 1, by omega, by first | rfl | go_num | simp, by first | exact HSR.out | exact HSR.out.drewN _⟩)
      case measure => simp [intOf]; omega
    · obtain rfl : ng = j := by omega
      have hjn' : ¬ (ng : Int) < (ng : Int) := by omega
      go_wp2_with fail
      go_ret
      exact ⟨by first | rfl | simp, HS13.out.trans hS⟩
end Go.Proofs.YteckkcpnfeoehaaDoor
