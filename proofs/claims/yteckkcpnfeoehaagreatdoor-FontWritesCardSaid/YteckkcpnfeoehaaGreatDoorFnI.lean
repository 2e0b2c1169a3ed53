/-
  Layer 9: Write of the program.
-/
import Derived.Test.YteckkcpnfeoehaaGreatDoorFnH
namespace Go.Proofs.YteckkcpnfeoehaaGreatDoor
set_option maxRecDepth 100000
open Go.RowKit Go.ChangeShapes Go.WideShapes Go.Deep
set_option linter.unusedVariables false
set_option linter.unusedSimpArgs false

/-- A font's bytes. -/
noncomputable def file9 (F : Fn9) : List Int := if Right9 F = true then file4 (all9 F) else []
def Wr9P (F : Fn9) (w : World) (e : Ending) (w' : World) : Prop := ∃ v, e = .returned (.tuple #[v, .int .i64 (if Right9 F = true then 0 else 4)]) ∧ OwnB w' w.heap.size v (file9 F) ∧ Since w w'
set_option maxRecDepth 1000000 in
set_option maxHeartbeats 64000000 in
theorem fn_write (x : Fh) (F : Fn9) (C : Array Value) (hC : C = fnV x F) (w : World) (hT : Tabs w) (hR : FnR w w.heap.size x F) (hG : NoGr F) (hW : FnW F) (hgc : F.GG.length ≤ x.cg) :
    Calls Tryz.prog 8 #[.agg C] w (Wr9P F w) := by
  subst hC
  obtain ⟨xAt, xct, xAm, xcm, xAg, xcg⟩ := x
  have HBX := Lib.hid (fun (t : TypeId) => (fn_box (x := ⟨xAt, xct, xAm, xcm, xAg, xcg⟩) (nt := F.TT.length) (h := F.h) (m := F.m) (nm := F.MM.length) (ct := F.ct) (ng := F.GG.length) w w.heap.size rfl t))
  have HRT := Lib.hid (fun (w2 : World) (h2 : Since w w2) => fn_right ⟨xAt, xct, xAm, xcm, xAg, xcg⟩ F _ rfl w2 (hT.since h2) (hR.on h2) hG hW hgc)
  have HTB := Lib.hid (fun (w2 : World) (h2 : Since w w2) => fn_tables ⟨xAt, xct, xAm, xcm, xAg, xcg⟩ F _ rfl w2 (hR.on h2) hG hW hgc)
  have HWR := Lib.hid (fun (A : Option Addr) (N c : Nat) (w2 : World) (h : RdTL w2 w2.heap.size A (all9 F)) (hN : N = (all9 F).length) => sf_write A N c (all9 F) w2 h hN (all9_few hG) (all9_bytes hW))
  unfold TabP at HTB
  unfold fnV at HRT HTB ⊢
  unfold Wr9P file9
  cases hr : Right9 F
  · rw [hr] at HRT
    simp only [Bool.false_eq_true, if_false]
    clear hR hT hG hW hr HTB HWR
    go_enter Tryz.func8, Tryz.ntmps8
    go_upto_region 1 with fail
    refine wp_named fun w1 hw1 => ?_
    have hS1 : Since w w1 := by subst hw1; (repeat (first | with_reducible (exact Since.refl _) | with_reducible assumption | with_reducible (refine Since.drew ?_) | with_reducible (refine Since.drewN ?_ _) | with_reducible (refine Since.alloc ?_ _) | (with_reducible (refine Since.setCell ?_ ?_ _); rotate_left; focus (first | (simp; done) | (simp; omega) | omega)) | (with_reducible (refine Since.trans ?_ (by with_reducible assumption)))))
    have hB1 : BoxL w1 w.heap.size (fnC ⟨xAt, xct, xAm, xcm, xAg, xcg⟩ F.TT.length F.h F.m F.MM.length F.ct F.GG.length) := by subst hw1; exact HBX.out _
    clear hw1 HBX
    go_wp2_with (first | (refine wp_fn_load rfl _ rfl (by rfl) (by with_reducible exact hB1) ?_) | (go_at_call 10; (with_reducible refine (HRT.out _ hS1).mono ?_); rintro e w2 ⟨rfl, hS2⟩))
    go_ret2
    exact ⟨_, rfl, OwnG.nil _ _ _ _ _, hS1.trans hS2⟩
  · have h3 := right9_iff.1 hr
    rw [hr] at HRT
    rw [h3.2.1] at HTB
    rw [rightG_iff.2 h3.2.2] at HWR
    simp only [if_true] at HTB HWR ⊢
    generalize all9 F = T9 at *
    clear hR hT hG hW hr h3
    go_enter Tryz.func8, Tryz.ntmps8
    go_upto_region 1 with fail
    refine wp_named fun w1 hw1 => ?_
    have hS1 : Since w w1 := by subst hw1; (repeat (first | with_reducible (exact Since.refl _) | with_reducible assumption | with_reducible (refine Since.drew ?_) | with_reducible (refine Since.drewN ?_ _) | with_reducible (refine Since.alloc ?_ _) | (with_reducible (refine Since.setCell ?_ ?_ _); rotate_left; focus (first | (simp; done) | (simp; omega) | omega)) | (with_reducible (refine Since.trans ?_ (by with_reducible assumption)))))
    have hB1 : BoxL w1 w.heap.size (fnC ⟨xAt, xct, xAm, xcm, xAg, xcg⟩ F.TT.length F.h F.m F.MM.length F.ct F.GG.length) := by subst hw1; exact HBX.out _
    clear hw1 HBX
    go_wp2_with (first | (refine wp_fn_load rfl _ rfl (by rfl) (by first | with_reducible exact hB2 | with_reducible exact hB1) ?_) | (go_at_call 10; (with_reducible refine (HRT.out _ hS1).mono ?_); rintro e w2 ⟨rfl, hS2⟩; have hS2w := hS1.trans hS2; have hB2 := hB1.since hS2) | (go_at_call 25; (with_reducible refine (HTB.out _ hS2w).mono ?_); rintro e w3 ⟨v3, rfl, hO3, hS3⟩; have hS3w := hS2w.trans hS3; obtain ⟨A3, c3, rfl, _, hR3⟩ := hO3.rd) | (go_at_call 26; (with_reducible refine (HWR.out _ _ _ _ hR3 rfl).mono ?_); rintro e w4 ⟨v4, rfl, hO4, hS4⟩))
    go_ret2
    exact ⟨_, rfl, OwnG.low hO4 hS3w.below.size, hS3w.trans hS4⟩
end Go.Proofs.YteckkcpnfeoehaaGreatDoor
