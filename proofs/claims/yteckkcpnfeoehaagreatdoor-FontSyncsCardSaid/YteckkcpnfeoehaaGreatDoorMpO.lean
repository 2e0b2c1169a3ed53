/-
  Texts of this seat, put together: each with its own head.
-/
import Derived.Test.YteckkcpnfeoehaaGreatDoorMpL
import Derived.Test.YteckkcpnfeoehaaGreatDoorMnAd
import Derived.Lib.LazyBuf
import Derived.Laws.StructEq

/-
  Layer 5: 'PutHead' of the program, walked.
-/
namespace Go.Proofs.YteckkcpnfeoehaaGreatDoor
set_option maxRecDepth 100000
open Go.RowKit
set_option linter.unusedVariables false

set_option maxRecDepth 100000 in
set_option maxHeartbeats 8000000 in
theorem hd_puthead (A : Option Addr) (n q : Nat) (f : Nat → Int) (em a b c d : Int) (l : Bool) (w : World) (hT : TabB w) (h : Rd w w.heap.size A n (U8 f)) (hem : In64 em) (ha : In64 a) (hb : In64 b) (hc : In64 c) (hd : In64 d) (hn : n ≤ 140737488355328) :
    Calls Tryz.prog 45 #[.slice A n q, .agg #[.int .i64 em, .int .i64 a, .int .i64 b, .int .i64 c, .int .i64 d, .bool l]] w (PhPost f n em a b c d l w) := by
  have hn' : (n : Int) ≤ 140737488355328 := by omega
  by_cases h1 : n < 54
  · have E := Lib.hid (show phE n em a b c d = 3 by unfold phE; rw [if_pos h1])
    have h1' : (n : Int) < 54 := by omega
    clear h
    go_enter Tryz.func45, Tryz.ntmps45
    go_wp2
    go_ret2
    exact ph_bad E.out (by decide) (by (repeat (first | with_reducible (exact Since.refl _) | with_reducible assumption | with_reducible (refine Since.drew ?_) | with_reducible (refine Since.drewN ?_ _) | with_reducible (refine Since.alloc ?_ _) | (with_reducible (refine Since.setCell ?_ ?_ _); rotate_left; focus (first | (simp; done) | (simp; omega) | omega)) | (with_reducible (refine Since.trans ?_ (by with_reducible assumption))))))
  have h1' : (54 : Int) ≤ n := by omega
  have hE : phE n em a b c d = if phOk em a b c d then 0 else 6 := by unfold phE; rw [if_neg h1]
  by_cases h2 : em < 16 ∨ 16384 < em
  · have E := Lib.hid (show phE n em a b c d = 6 by rw [hE]; unfold phOk; rcases h2 with h2 | h2; · rw [decide_eq_false (show ¬ 16 ≤ em by omega)]; rfl
                                                    · rw [decide_eq_false (show ¬ em ≤ 16384 by omega)]; simp)
    clear h hE
    rcases h2 with h2 | h2
    · go_enter Tryz.func45, Tryz.ntmps45
      go_wp2
      go_ret2
      exact ph_bad E.out (by decide) (by (repeat (first | with_reducible (exact Since.refl _) | with_reducible assumption | with_reducible (refine Since.drew ?_) | with_reducible (refine Since.drewN ?_ _) | with_reducible (refine Since.alloc ?_ _) | (with_reducible (refine Since.setCell ?_ ?_ _); rotate_left; focus (first | (simp; done) | (simp; omega) | omega)) | (with_reducible (refine Since.trans ?_ (by with_reducible assumption))))))
    · have h3 : ¬ em < 16 := by omega
      go_enter Tryz.func45, Tryz.ntmps45
      go_wp2
      go_ret2
      exact ph_bad E.out (by decide) (by (repeat (first | with_reducible (exact Since.refl _) | with_reducible assumption | with_reducible (refine Since.drew ?_) | with_reducible (refine Since.drewN ?_ _) | with_reducible (refine Since.alloc ?_ _) | (with_reducible (refine Since.setCell ?_ ?_ _); rotate_left; focus (first | (simp; done) | (simp; omega) | omega)) | (with_reducible (refine Since.trans ?_ (by with_reducible assumption))))))
  have hem1 : 16 ≤ em := by omega
  have hem2 : em ≤ 16384 := by omega
  have hok : phOk em a b c d = (shortB a && shortB b && shortB c && shortB d) := by unfold phOk; rw [decide_eq_true hem1, decide_eq_true hem2]; rfl
  rw [hok] at hE
  have HR := Lib.hid h
  have HN := True.intro
  have tok1 := True.intro
  have HC := True.intro
  obtain ⟨t0, t1, t2, t3, t4⟩ := hT
  have t5 : 0 < w.heap.size := by omega
  have x0 := bx0; have x1 := bx1; have x2 := bx2; have x3 := bx3
  clear h h2 hok
  by_cases ka : a < -32768 ∨ 32767 < a
  · have E := Lib.hid (show phE n em a b c d = 6 by rw [hE, short_no ka]; rfl)
    clear hE
    rcases ka with k | k
    all_goals
      cases l
      all_goals
        go_enter Tryz.func45, Tryz.ntmps45
        go_wp2_with (first | (go_at_call 90; have _t := tok1; (with_reducible refine Calls.mono (hd_put18 _ n _ _ _ _ w ?_ ?_ (HR.out.on ?_) ?_ hn) ?_); (focus (repeat (first | with_reducible (exact Since.refl _) | with_reducible assumption | with_reducible (refine Since.drew ?_) | with_reducible (refine Since.drewN ?_ _) | with_reducible (refine Since.alloc ?_ _) | (with_reducible (refine Since.setCell ?_ ?_ _); rotate_left; focus (first | (simp; done) | (simp; omega) | omega)) | (with_reducible (refine Since.trans ?_ (by with_reducible assumption)))))); (focus (first | with_reducible assumption | (unfold In64; omega))); (focus (repeat (first | with_reducible (exact Since.refl _) | with_reducible assumption | with_reducible (refine Since.drew ?_) | with_reducible (refine Since.drewN ?_ _) | with_reducible (refine Since.alloc ?_ _) | (with_reducible (refine Since.setCell ?_ ?_ _); rotate_left; focus (first | (simp; done) | (simp; omega) | omega)) | (with_reducible (refine Since.trans ?_ (by with_reducible assumption)))))); (focus omega); (rintro e wa ⟨Ak, ck, rfl, hck, hNk, hTk, hS1⟩); clear HR HN HC tok1; have HR := Lib.hid hNk.rd; have HN := Lib.hid hNk; have HC := Lib.hid hck; have tok2 := True.intro; clear hNk hck; have hzz := hS1.2.2.1 w.heap.size (by simp); have e1 := (hS1.1 w.heap.size 1 (by simp)).trans (hbox_at w _ _ _ _ _ _ _ 1 _ rfl); have e2 := (hS1.1 w.heap.size 2 (by simp)).trans (hbox_at w _ _ _ _ _ _ _ 2 _ rfl); have e3 := (hS1.1 w.heap.size 3 (by simp)).trans (hbox_at w _ _ _ _ _ _ _ 3 _ rfl); have e4 := (hS1.1 w.heap.size 4 (by simp)).trans (hbox_at w _ _ _ _ _ _ _ 4 _ rfl); have e5 := (hS1.1 w.heap.size 5 (by simp)).trans (hbox_at w _ _ _ _ _ _ _ 5 _ rfl)) | (go_at_call 90; have _t := tok2; (with_reducible refine Calls.mono (hd_put50 _ n _ _ _ _ w ?_ ?_ (HR.out.on ?_) ?_ hn) ?_); (focus (repeat (first | with_reducible (exact Since.refl _) | with_reducible assumption | with_reducible (refine Since.drew ?_) | with_reducible (refine Since.drewN ?_ _) | with_reducible (refine Since.alloc ?_ _) | (with_reducible (refine Since.setCell ?_ ?_ _); rotate_left; focus (first | (simp; done) | (simp; omega) | omega)) | (with_reducible (refine Since.trans ?_ (by with_reducible assumption)))))); (focus (first | with_reducible assumption | (unfold In64; omega))); (focus (repeat (first | with_reducible (exact Since.refl _) | with_reducible assumption | with_reducible (refine Since.drew ?_) | with_reducible (refine Since.drewN ?_ _) | with_reducible (refine Since.alloc ?_ _) | (with_reducible (refine Since.setCell ?_ ?_ _); rotate_left; focus (first | (simp; done) | (simp; omega) | omega)) | (with_reducible (refine Since.trans ?_ (by with_reducible assumption)))))); (focus omega); (rintro e wb ⟨Ak, ck, rfl, hck, hNk, hTk, hS2⟩); clear HR HN HC tok2; have HR := Lib.hid hNk.rd; have HN := Lib.hid hNk; have HC := Lib.hid hck; have tok3 := True.intro; clear hNk hck; have E1 := (hS2.1 w.heap.size 1 hzz).trans e1; have E2 := (hS2.1 w.heap.size 2 hzz).trans e2; have E3 := (hS2.1 w.heap.size 3 hzz).trans e3; have E4 := (hS2.1 w.heap.size 4 hzz).trans e4; have E5 := (hS2.1 w.heap.size 5 hzz).trans e5; have g0 := (hTk.1 0 0 t5).trans t1; have g1 := (hTk.1 0 1 t5).trans t2; have g2 := (hTk.1 0 2 t5).trans t3; have g3 := (hTk.1 0 3 t5).trans t4; have g4 := Nat.lt_of_lt_of_le t5 hTk.below.size; have g5 := Nat.ne_of_lt g4))
        refine wp_loop_rounds 5 ?_
        rw [rounds_succ]
        go_wp2_with (first | (go_at_call 90; have _t := tok3; (with_reducible refine Calls.mono (hd_put36 _ n _ _ _ _ w ?_ ?_ (HR.out.on ?_) ?_ hn) ?_); (focus (repeat (first | with_reducible (exact Since.refl _) | with_reducible assumption | with_reducible (refine Since.drew ?_) | with_reducible (refine Since.drewN ?_ _) | with_reducible (refine Since.alloc ?_ _) | (with_reducible (refine Since.setCell ?_ ?_ _); rotate_left; focus (first | (simp; done) | (simp; omega) | omega)) | (with_reducible (refine Since.trans ?_ (by with_reducible assumption)))))); (focus (first | with_reducible assumption | (unfold In64; omega))); (focus (repeat (first | with_reducible (exact Since.refl _) | with_reducible assumption | with_reducible (refine Since.drew ?_) | with_reducible (refine Since.drewN ?_ _) | with_reducible (refine Since.alloc ?_ _) | (with_reducible (refine Since.setCell ?_ ?_ _); rotate_left; focus (first | (simp; done) | (simp; omega) | omega)) | (with_reducible (refine Since.trans ?_ (by with_reducible assumption)))))); (focus omega); (rintro e wc ⟨Ak, ck, rfl, hck, hNk, hTk, hS3⟩); clear HR HN HC tok3; have HR := Lib.hid hNk.rd; have HN := Lib.hid hNk; have HC := Lib.hid hck; have tok4 := True.intro; clear hNk hck; have hz3 := hS3.2.2.1 wb.heap.size (by simp); have q0 := (hS3.1 wb.heap.size 0 (by simp)).trans (box_at wb _ _ _ _ _ 0 _ rfl); have q1 := (hS3.1 wb.heap.size 1 (by simp)).trans (box_at wb _ _ _ _ _ 1 _ rfl); have q2 := (hS3.1 wb.heap.size 2 (by simp)).trans (box_at wb _ _ _ _ _ 2 _ rfl); have q3 := (hS3.1 wb.heap.size 3 (by simp)).trans (box_at wb _ _ _ _ _ 3 _ rfl)))
        go_ret2
        exact ph_bad E.out (by decide) (by (repeat (first | with_reducible (exact Since.refl _) | with_reducible assumption | with_reducible (refine Since.drew ?_) | with_reducible (refine Since.drewN ?_ _) | with_reducible (refine Since.alloc ?_ _) | (with_reducible (refine Since.setCell ?_ ?_ _); rotate_left; focus (first | (simp; done) | (simp; omega) | omega)) | (with_reducible (refine Since.trans ?_ (by with_reducible assumption))))))
  by_cases kb : b < -32768 ∨ 32767 < b
  · have E := Lib.hid (show phE n em a b c d = 6 by rw [hE, short_no kb]; simp)
    have a1 : -32768 ≤ a := by omega
    have a2 : a ≤ 32767 := by omega
    clear hE ka
    rcases kb with k | k
    all_goals
      cases l
      all_goals
        go_enter Tryz.func45, Tryz.ntmps45
        go_wp2_with (first | (go_at_call 90; have _t := tok1; (with_reducible refine Calls.mono (hd_put18 _ n _ _ _ _ w ?_ ?_ (HR.out.on ?_) ?_ hn) ?_); (focus (repeat (first | with_reducible (exact Since.refl _) | with_reducible assumption | with_reducible (refine Since.drew ?_) | with_reducible (refine Since.drewN ?_ _) | with_reducible (refine Since.alloc ?_ _) | (with_reducible (refine Since.setCell ?_ ?_ _); rotate_left; focus (first | (simp; done) | (simp; omega) | omega)) | (with_reducible (refine Since.trans ?_ (by with_reducible assumption)))))); (focus (first | with_reducible assumption | (unfold In64; omega))); (focus (repeat (first | with_reducible (exact Since.refl _) | with_reducible assumption | with_reducible (refine Since.drew ?_) | with_reducible (refine Since.drewN ?_ _) | with_reducible (refine Since.alloc ?_ _) | (with_reducible (refine Since.setCell ?_ ?_ _); rotate_left; focus (first | (simp; done) | (simp; omega) | omega)) | (with_reducible (refine Since.trans ?_ (by with_reducible assumption)))))); (focus omega); (rintro e wa ⟨Ak, ck, rfl, hck, hNk, hTk, hS1⟩); clear HR HN HC tok1; have HR := Lib.hid hNk.rd; have HN := Lib.hid hNk; have HC := Lib.hid hck; have tok2 := True.intro; clear hNk hck; have hzz := hS1.2.2.1 w.heap.size (by simp); have e1 := (hS1.1 w.heap.size 1 (by simp)).trans (hbox_at w _ _ _ _ _ _ _ 1 _ rfl); have e2 := (hS1.1 w.heap.size 2 (by simp)).trans (hbox_at w _ _ _ _ _ _ _ 2 _ rfl); have e3 := (hS1.1 w.heap.size 3 (by simp)).trans (hbox_at w _ _ _ _ _ _ _ 3 _ rfl); have e4 := (hS1.1 w.heap.size 4 (by simp)).trans (hbox_at w _ _ _ _ _ _ _ 4 _ rfl); have e5 := (hS1.1 w.heap.size 5 (by simp)).trans (hbox_at w _ _ _ _ _ _ _ 5 _ rfl)) | (go_at_call 90; have _t := tok2; (with_reducible refine Calls.mono (hd_put50 _ n _ _ _ _ w ?_ ?_ (HR.out.on ?_) ?_ hn) ?_); (focus (repeat (first | with_reducible (exact Since.refl _) | with_reducible assumption | with_reducible (refine Since.drew ?_) | with_reducible (refine Since.drewN ?_ _) | with_reducible (refine Since.alloc ?_ _) | (with_reducible (refine Since.setCell ?_ ?_ _); rotate_left; focus (first | (simp; done) | (simp; omega) | omega)) | (with_reducible (refine Since.trans ?_ (by with_reducible assumption)))))); (focus (first | with_reducible assumption | (unfold In64; omega))); (focus (repeat (first | with_reducible (exact Since.refl _) | with_reducible assumption | with_reducible (refine Since.drew ?_) | with_reducible (refine Since.drewN ?_ _) | with_reducible (refine Since.alloc ?_ _) | (with_reducible (refine Since.setCell ?_ ?_ _); rotate_left; focus (first | (simp; done) | (simp; omega) | omega)) | (with_reducible (refine Since.trans ?_ (by with_reducible assumption)))))); (focus omega); (rintro e wb ⟨Ak, ck, rfl, hck, hNk, hTk, hS2⟩); clear HR HN HC tok2; have HR := Lib.hid hNk.rd; have HN := Lib.hid hNk; have HC := Lib.hid hck; have tok3 := True.intro; clear hNk hck; have E1 := (hS2.1 w.heap.size 1 hzz).trans e1; have E2 := (hS2.1 w.heap.size 2 hzz).trans e2; have E3 := (hS2.1 w.heap.size 3 hzz).trans e3; have E4 := (hS2.1 w.heap.size 4 hzz).trans e4; have E5 := (hS2.1 w.heap.size 5 hzz).trans e5; have g0 := (hTk.1 0 0 t5).trans t1; have g1 := (hTk.1 0 1 t5).trans t2; have g2 := (hTk.1 0 2 t5).trans t3; have g3 := (hTk.1 0 3 t5).trans t4; have g4 := Nat.lt_of_lt_of_le t5 hTk.below.size; have g5 := Nat.ne_of_lt g4))
        refine wp_loop_rounds 5 ?_
        rw [rounds_succ]
        go_wp2_with (first | (go_at_call 90; have _t := tok3; (with_reducible refine Calls.mono (hd_put36 _ n _ _ _ _ w ?_ ?_ (HR.out.on ?_) ?_ hn) ?_); (focus (repeat (first | with_reducible (exact Since.refl _) | with_reducible assumption | with_reducible (refine Since.drew ?_) | with_reducible (refine Since.drewN ?_ _) | with_reducible (refine Since.alloc ?_ _) | (with_reducible (refine Since.setCell ?_ ?_ _); rotate_left; focus (first | (simp; done) | (simp; omega) | omega)) | (with_reducible (refine Since.trans ?_ (by with_reducible assumption)))))); (focus (first | with_reducible assumption | (unfold In64; omega))); (focus (repeat (first | with_reducible (exact Since.refl _) | with_reducible assumption | with_reducible (refine Since.drew ?_) | with_reducible (refine Since.drewN ?_ _) | with_reducible (refine Since.alloc ?_ _) | (with_reducible (refine Since.setCell ?_ ?_ _); rotate_left; focus (first | (simp; done) | (simp; omega) | omega)) | (with_reducible (refine Since.trans ?_ (by with_reducible assumption)))))); (focus omega); (rintro e wc ⟨Ak, ck, rfl, hck, hNk, hTk, hS3⟩); clear HR HN HC tok3; have HR := Lib.hid hNk.rd; have HN := Lib.hid hNk; have HC := Lib.hid hck; have tok4 := True.intro; clear hNk hck; have hz3 := hS3.2.2.1 wb.heap.size (by simp); have q0 := (hS3.1 wb.heap.size 0 (by simp)).trans (box_at wb _ _ _ _ _ 0 _ rfl); have q1 := (hS3.1 wb.heap.size 1 (by simp)).trans (box_at wb _ _ _ _ _ 1 _ rfl); have q2 := (hS3.1 wb.heap.size 2 (by simp)).trans (box_at wb _ _ _ _ _ 2 _ rfl); have q3 := (hS3.1 wb.heap.size 3 (by simp)).trans (box_at wb _ _ _ _ _ 3 _ rfl)))
        rw [rounds_succ]
        go_wp2_with (first | (go_at_call 90; have _t := tok4; (with_reducible refine Calls.mono (hd_put38 _ n _ _ _ _ w ?_ ?_ (HR.out.on ?_) ?_ hn) ?_); (focus (repeat (first | with_reducible (exact Since.refl _) | with_reducible assumption | with_reducible (refine Since.drew ?_) | with_reducible (refine Since.drewN ?_ _) | with_reducible (refine Since.alloc ?_ _) | (with_reducible (refine Since.setCell ?_ ?_ _); rotate_left; focus (first | (simp; done) | (simp; omega) | omega)) | (with_reducible (refine Since.trans ?_ (by with_reducible assumption)))))); (focus (first | with_reducible assumption | (unfold In64; omega))); (focus (repeat (first | with_reducible (exact Since.refl _) | with_reducible assumption | with_reducible (refine Since.drew ?_) | with_reducible (refine Since.drewN ?_ _) | with_reducible (refine Since.alloc ?_ _) | (with_reducible (refine Since.setCell ?_ ?_ _); rotate_left; focus (first | (simp; done) | (simp; omega) | omega)) | (with_reducible (refine Since.trans ?_ (by with_reducible assumption)))))); (focus omega); (rintro e wd ⟨Ak, ck, rfl, hck, hNk, hTk, hS4⟩); clear HR HN HC tok4; have HR := Lib.hid hNk.rd; have HN := Lib.hid hNk; have HC := Lib.hid hck; have tok5 := True.intro; clear hNk hck; have hz4 := hS4.2.2.1 wb.heap.size hz3; have Q4_0 := (hS4.1 wb.heap.size 0 hz3).trans q0; have Q4_1 := (hS4.1 wb.heap.size 1 hz3).trans q1; have Q4_2 := (hS4.1 wb.heap.size 2 hz3).trans q2; have Q4_3 := (hS4.1 wb.heap.size 3 hz3).trans q3))
        go_ret2
        exact ph_bad E.out (by decide) (by (repeat (first | with_reducible (exact Since.refl _) | with_reducible assumption | with_reducible (refine Since.drew ?_) | with_reducible (refine Since.drewN ?_ _) | with_reducible (refine Since.alloc ?_ _) | (with_reducible (refine Since.setCell ?_ ?_ _); rotate_left; focus (first | (simp; done) | (simp; omega) | omega)) | (with_reducible (refine Since.trans ?_ (by with_reducible assumption))))))
  by_cases kc : c < -32768 ∨ 32767 < c
  · have E := Lib.hid (show phE n em a b c d = 6 by rw [hE, short_no kc]; simp)
    have a1 : -32768 ≤ a := by omega
    have a2 : a ≤ 32767 := by omega
    have b1 : -32768 ≤ b := by omega
    have b2 : b ≤ 32767 := by omega
    clear hE ka kb
    rcases kc with k | k
    all_goals
      cases l
      all_goals
        go_enter Tryz.func45, Tryz.ntmps45
        go_wp2_with (first | (go_at_call 90; have _t := tok1; (with_reducible refine Calls.mono (hd_put18 _ n _ _ _ _ w ?_ ?_ (HR.out.on ?_) ?_ hn) ?_); (focus (repeat (first | with_reducible (exact Since.refl _) | with_reducible assumption | with_reducible (refine Since.drew ?_) | with_reducible (refine Since.drewN ?_ _) | with_reducible (refine Since.alloc ?_ _) | (with_reducible (refine Since.setCell ?_ ?_ _); rotate_left; focus (first | (simp; done) | (simp; omega) | omega)) | (with_reducible (refine Since.trans ?_ (by with_reducible assumption)))))); (focus (first | with_reducible assumption | (unfold In64; omega))); (focus (repeat (first | with_reducible (exact Since.refl _) | with_reducible assumption | with_reducible (refine Since.drew ?_) | with_reducible (refine Since.drewN ?_ _) | with_reducible (refine Since.alloc ?_ _) | (with_reducible (refine Since.setCell ?_ ?_ _); rotate_left; focus (first | (simp; done) | (simp; omega) | omega)) | (with_reducible (refine Since.trans ?_ (by with_reducible assumption)))))); (focus omega); (rintro e wa ⟨Ak, ck, rfl, hck, hNk, hTk, hS1⟩); clear HR HN HC tok1; have HR := Lib.hid hNk.rd; have HN := Lib.hid hNk; have HC := Lib.hid hck; have tok2 := True.intro; clear hNk hck; have hzz := hS1.2.2.1 w.heap.size (by simp); have e1 := (hS1.1 w.heap.size 1 (by simp)).trans (hbox_at w _ _ _ _ _ _ _ 1 _ rfl); have e2 := (hS1.1 w.heap.size 2 (by simp)).trans (hbox_at w _ _ _ _ _ _ _ 2 _ rfl); have e3 := (hS1.1 w.heap.size 3 (by simp)).trans (hbox_at w _ _ _ _ _ _ _ 3 _ rfl); have e4 := (hS1.1 w.heap.size 4 (by simp)).trans (hbox_at w _ _ _ _ _ _ _ 4 _ rfl); have e5 := (hS1.1 w.heap.size 5 (by simp)).trans (hbox_at w _ _ _ _ _ _ _ 5 _ rfl)) | (go_at_call 90; have _t := tok2; (with_reducible refine Calls.mono (hd_put50 _ n _ _ _ _ w ?_ ?_ (HR.out.on ?_) ?_ hn) ?_); (focus (repeat (first | with_reducible (exact Since.refl _) | with_reducible assumption | with_reducible (refine Since.drew ?_) | with_reducible (refine Since.drewN ?_ _) | with_reducible (refine Since.alloc ?_ _) | (with_reducible (refine Since.setCell ?_ ?_ _); rotate_left; focus (first | (simp; done) | (simp; omega) | omega)) | (with_reducible (refine Since.trans ?_ (by with_reducible assumption)))))); (focus (first | with_reducible assumption | (unfold In64; omega))); (focus (repeat (first | with_reducible (exact Since.refl _) | with_reducible assumption | with_reducible (refine Since.drew ?_) | with_reducible (refine Since.drewN ?_ _) | with_reducible (refine Since.alloc ?_ _) | (with_reducible (refine Since.setCell ?_ ?_ _); rotate_left; focus (first | (simp; done) | (simp; omega) | omega)) | (with_reducible (refine Since.trans ?_ (by with_reducible assumption)))))); (focus omega); (rintro e wb ⟨Ak, ck, rfl, hck, hNk, hTk, hS2⟩); clear HR HN HC tok2; have HR := Lib.hid hNk.rd; have HN := Lib.hid hNk; have HC := Lib.hid hck; have tok3 := True.intro; clear hNk hck; have E1 := (hS2.1 w.heap.size 1 hzz).trans e1; have E2 := (hS2.1 w.heap.size 2 hzz).trans e2; have E3 := (hS2.1 w.heap.size 3 hzz).trans e3; have E4 := (hS2.1 w.heap.size 4 hzz).trans e4; have E5 := (hS2.1 w.heap.size 5 hzz).trans e5; have g0 := (hTk.1 0 0 t5).trans t1; have g1 := (hTk.1 0 1 t5).trans t2; have g2 := (hTk.1 0 2 t5).trans t3; have g3 := (hTk.1 0 3 t5).trans t4; have g4 := Nat.lt_of_lt_of_le t5 hTk.below.size; have g5 := Nat.ne_of_lt g4))
        refine wp_loop_rounds 5 ?_
        rw [rounds_succ]
        go_wp2_with (first | (go_at_call 90; have _t := tok3; (with_reducible refine Calls.mono (hd_put36 _ n _ _ _ _ w ?_ ?_ (HR.out.on ?_) ?_ hn) ?_); (focus (repeat (first | with_reducible (exact Since.refl _) | with_reducible assumption | with_reducible (refine Since.drew ?_) | with_reducible (refine Since.drewN ?_ _) | with_reducible (refine Since.alloc ?_ _) | (with_reducible (refine Since.setCell ?_ ?_ _); rotate_left; focus (first | (simp; done) | (simp; omega) | omega)) | (with_reducible (refine Since.trans ?_ (by with_reducible assumption)))))); (focus (first | with_reducible assumption | (unfold In64; omega))); (focus (repeat (first | with_reducible (exact Since.refl _) | with_reducible assumption | with_reducible (refine Since.drew ?_) | with_reducible (refine Since.drewN ?_ _) | with_reducible (refine Since.alloc ?_ _) | (with_reducible (refine Since.setCell ?_ ?_ _); rotate_left; focus (first | (simp; done) | (simp; omega) | omega)) | (with_reducible (refine Since.trans ?_ (by with_reducible assumption)))))); (focus omega); (rintro e wc ⟨Ak, ck, rfl, hck, hNk, hTk, hS3⟩); clear HR HN HC tok3; have HR := Lib.hid hNk.rd; have HN := Lib.hid hNk; have HC := Lib.hid hck; have tok4 := True.intro; clear hNk hck; have hz3 := hS3.2.2.1 wb.heap.size (by simp); have q0 := (hS3.1 wb.heap.size 0 (by simp)).trans (box_at wb _ _ _ _ _ 0 _ rfl); have q1 := (hS3.1 wb.heap.size 1 (by simp)).trans (box_at wb _ _ _ _ _ 1 _ rfl); have q2 := (hS3.1 wb.heap.size 2 (by simp)).trans (box_at wb _ _ _ _ _ 2 _ rfl); have q3 := (hS3.1 wb.heap.size 3 (by simp)).trans (box_at wb _ _ _ _ _ 3 _ rfl)))
        rw [rounds_succ]
        go_wp2_with (first | (go_at_call 90; have _t := tok4; (with_reducible refine Calls.mono (hd_put38 _ n _ _ _ _ w ?_ ?_ (HR.out.on ?_) ?_ hn) ?_); (focus (repeat (first | with_reducible (exact Since.refl _) | with_reducible assumption | with_reducible (refine Since.drew ?_) | with_reducible (refine Since.drewN ?_ _) | with_reducible (refine Since.alloc ?_ _) | (with_reducible (refine Since.setCell ?_ ?_ _); rotate_left; focus (first | (simp; done) | (simp; omega) | omega)) | (with_reducible (refine Since.trans ?_ (by with_reducible assumption)))))); (focus (first | with_reducible assumption | (unfold In64; omega))); (focus (repeat (first | with_reducible (exact Since.refl _) | with_reducible assumption | with_reducible (refine Since.drew ?_) | with_reducible (refine Since.drewN ?_ _) | with_reducible (refine Since.alloc ?_ _) | (with_reducible (refine Since.setCell ?_ ?_ _); rotate_left; focus (first | (simp; done) | (simp; omega) | omega)) | (with_reducible (refine Since.trans ?_ (by with_reducible assumption)))))); (focus omega); (rintro e wd ⟨Ak, ck, rfl, hck, hNk, hTk, hS4⟩); clear HR HN HC tok4; have HR := Lib.hid hNk.rd; have HN := Lib.hid hNk; have HC := Lib.hid hck; have tok5 := True.intro; clear hNk hck; have hz4 := hS4.2.2.1 wb.heap.size hz3; have Q4_0 := (hS4.1 wb.heap.size 0 hz3).trans q0; have Q4_1 := (hS4.1 wb.heap.size 1 hz3).trans q1; have Q4_2 := (hS4.1 wb.heap.size 2 hz3).trans q2; have Q4_3 := (hS4.1 wb.heap.size 3 hz3).trans q3))
        rw [rounds_succ]
        go_wp2_with (first | (go_at_call 90; have _t := tok5; (with_reducible refine Calls.mono (hd_put40 _ n _ _ _ _ w ?_ ?_ (HR.out.on ?_) ?_ hn) ?_); (focus (repeat (first | with_reducible (exact Since.refl _) | with_reducible assumption | with_reducible (refine Since.drew ?_) | with_reducible (refine Since.drewN ?_ _) | with_reducible (refine Since.alloc ?_ _) | (with_reducible (refine Since.setCell ?_ ?_ _); rotate_left; focus (first | (simp; done) | (simp; omega) | omega)) | (with_reducible (refine Since.trans ?_ (by with_reducible assumption)))))); (focus (first | with_reducible assumption | (unfold In64; omega))); (focus (repeat (first | with_reducible (exact Since.refl _) | with_reducible assumption | with_reducible (refine Since.drew ?_) | with_reducible (refine Since.drewN ?_ _) | with_reducible (refine Since.alloc ?_ _) | (with_reducible (refine Since.setCell ?_ ?_ _); rotate_left; focus (first | (simp; done) | (simp; omega) | omega)) | (with_reducible (refine Since.trans ?_ (by with_reducible assumption)))))); (focus omega); (rintro e we ⟨Ak, ck, rfl, hck, hNk, hTk, hS5⟩); clear HR HN HC tok5; have HR := Lib.hid hNk.rd; have HN := Lib.hid hNk; have HC := Lib.hid hck; have tok6 := True.intro; clear hNk hck; have hz5 := hS5.2.2.1 wb.heap.size hz4; have Q5_0 := (hS5.1 wb.heap.size 0 hz4).trans Q4_0; have Q5_1 := (hS5.1 wb.heap.size 1 hz4).trans Q4_1; have Q5_2 := (hS5.1 wb.heap.size 2 hz4).trans Q4_2; have Q5_3 := (hS5.1 wb.heap.size 3 hz4).trans Q4_3))
        go_ret2
        exact ph_bad E.out (by decide) (by (repeat (first | with_reducible (exact Since.refl _) | with_reducible assumption | with_reducible (refine Since.drew ?_) | with_reducible (refine Since.drewN ?_ _) | with_reducible (refine Since.alloc ?_ _) | (with_reducible (refine Since.setCell ?_ ?_ _); rotate_left; focus (first | (simp; done) | (simp; omega) | omega)) | (with_reducible (refine Since.trans ?_ (by with_reducible assumption))))))
  by_cases kd : d < -32768 ∨ 32767 < d
  · have E := Lib.hid (show phE n em a b c d = 6 by rw [hE, short_no kd]; simp)
    have a1 : -32768 ≤ a := by omega
    have a2 : a ≤ 32767 := by omega
    have b1 : -32768 ≤ b := by omega
    have b2 : b ≤ 32767 := by omega
    have c1 : -32768 ≤ c := by omega
    have c2 : c ≤ 32767 := by omega
    clear hE ka kb kc
    rcases kd with k | k
    all_goals
      cases l
      all_goals
        go_enter Tryz.func45, Tryz.ntmps45
        go_wp2_with (first | (go_at_call 90; have _t := tok1; (with_reducible refine Calls.mono (hd_put18 _ n _ _ _ _ w ?_ ?_ (HR.out.on ?_) ?_ hn) ?_); (focus (repeat (first | with_reducible (exact Since.refl _) | with_reducible assumption | with_reducible (refine Since.drew ?_) | with_reducible (refine Since.drewN ?_ _) | with_reducible (refine Since.alloc ?_ _) | (with_reducible (refine Since.setCell ?_ ?_ _); rotate_left; focus (first | (simp; done) | (simp; omega) | omega)) | (with_reducible (refine Since.trans ?_ (by with_reducible assumption)))))); (focus (first | with_reducible assumption | (unfold In64; omega))); (focus (repeat (first | with_reducible (exact Since.refl _) | with_reducible assumption | with_reducible (refine Since.drew ?_) | with_reducible (refine Since.drewN ?_ _) | with_reducible (refine Since.alloc ?_ _) | (with_reducible (refine Since.setCell ?_ ?_ _); rotate_left; focus (first | (simp; done) | (simp; omega) | omega)) | (with_reducible (refine Since.trans ?_ (by with_reducible assumption)))))); (focus omega); (rintro e wa ⟨Ak, ck, rfl, hck, hNk, hTk, hS1⟩); clear HR HN HC tok1; have HR := Lib.hid hNk.rd; have HN := Lib.hid hNk; have HC := Lib.hid hck; have tok2 := True.intro; clear hNk hck; have hzz := hS1.2.2.1 w.heap.size (by simp); have e1 := (hS1.1 w.heap.size 1 (by simp)).trans (hbox_at w _ _ _ _ _ _ _ 1 _ rfl); have e2 := (hS1.1 w.heap.size 2 (by simp)).trans (hbox_at w _ _ _ _ _ _ _ 2 _ rfl); have e3 := (hS1.1 w.heap.size 3 (by simp)).trans (hbox_at w _ _ _ _ _ _ _ 3 _ rfl); have e4 := (hS1.1 w.heap.size 4 (by simp)).trans (hbox_at w _ _ _ _ _ _ _ 4 _ rfl); have e5 := (hS1.1 w.heap.size 5 (by simp)).trans (hbox_at w _ _ _ _ _ _ _ 5 _ rfl)) | (go_at_call 90; have _t := tok2; (with_reducible refine Calls.mono (hd_put50 _ n _ _ _ _ w ?_ ?_ (HR.out.on ?_) ?_ hn) ?_); (focus (repeat (first | with_reducible (exact Since.refl _) | with_reducible assumption | with_reducible (refine Since.drew ?_) | with_reducible (refine Since.drewN ?_ _) | with_reducible (refine Since.alloc ?_ _) | (with_reducible (refine Since.setCell ?_ ?_ _); rotate_left; focus (first | (simp; done) | (simp; omega) | omega)) | (with_reducible (refine Since.trans ?_ (by with_reducible assumption)))))); (focus (first | with_reducible assumption | (unfold In64; omega))); (focus (repeat (first | with_reducible (exact Since.refl _) | with_reducible assumption | with_reducible (refine Since.drew ?_) | with_reducible (refine Since.drewN ?_ _) | with_reducible (refine Since.alloc ?_ _) | (with_reducible (refine Since.setCell ?_ ?_ _); rotate_left; focus (first | (simp; done) | (simp; omega) | omega)) | (with_reducible (refine Since.trans ?_ (by with_reducible assumption)))))); (focus omega); (rintro e wb ⟨Ak, ck, rfl, hck, hNk, hTk, hS2⟩); clear HR HN HC tok2; have HR := Lib.hid hNk.rd; have HN := Lib.hid hNk; have HC := Lib.hid hck; have tok3 := True.intro; clear hNk hck; have E1 := (hS2.1 w.heap.size 1 hzz).trans e1; have E2 := (hS2.1 w.heap.size 2 hzz).trans e2; have E3 := (hS2.1 w.heap.size 3 hzz).trans e3; have E4 := (hS2.1 w.heap.size 4 hzz).trans e4; have E5 := (hS2.1 w.heap.size 5 hzz).trans e5; have g0 := (hTk.1 0 0 t5).trans t1; have g1 := (hTk.1 0 1 t5).trans t2; have g2 := (hTk.1 0 2 t5).trans t3; have g3 := (hTk.1 0 3 t5).trans t4; have g4 := Nat.lt_of_lt_of_le t5 hTk.below.size; have g5 := Nat.ne_of_lt g4))
        refine wp_loop_rounds 5 ?_
        rw [rounds_succ]
        go_wp2_with (first | (go_at_call 90; have _t := tok3; (with_reducible refine Calls.mono (hd_put36 _ n _ _ _ _ w ?_ ?_ (HR.out.on ?_) ?_ hn) ?_); (focus (repeat (first | with_reducible (exact Since.refl _) | with_reducible assumption | with_reducible (refine Since.drew ?_) | with_reducible (refine Since.drewN ?_ _) | with_reducible (refine Since.alloc ?_ _) | (with_reducible (refine Since.setCell ?_ ?_ _); rotate_left; focus (first | (simp; done) | (simp; omega) | omega)) | (with_reducible (refine Since.trans ?_ (by with_reducible assumption)))))); (focus (first | with_reducible assumption | (unfold In64; omega))); (focus (repeat (first | with_reducible (exact Since.refl _) | with_reducible assumption | with_reducible (refine Since.drew ?_) | with_reducible (refine Since.drewN ?_ _) | with_reducible (refine Since.alloc ?_ _) | (with_reducible (refine Since.setCell ?_ ?_ _); rotate_left; focus (first | (simp; done) | (simp; omega) | omega)) | (with_reducible (refine Since.trans ?_ (by with_reducible assumption)))))); (focus omega); (rintro e wc ⟨Ak, ck, rfl, hck, hNk, hTk, hS3⟩); clear HR HN HC tok3; have HR := Lib.hid hNk.rd; have HN := Lib.hid hNk; have HC := Lib.hid hck; have tok4 := True.intro; clear hNk hck; have hz3 := hS3.2.2.1 wb.heap.size (by simp); have q0 := (hS3.1 wb.heap.size 0 (by simp)).trans (box_at wb _ _ _ _ _ 0 _ rfl); have q1 := (hS3.1 wb.heap.size 1 (by simp)).trans (box_at wb _ _ _ _ _ 1 _ rfl); have q2 := (hS3.1 wb.heap.size 2 (by simp)).trans (box_at wb _ _ _ _ _ 2 _ rfl); have q3 := (hS3.1 wb.heap.size 3 (by simp)).trans (box_at wb _ _ _ _ _ 3 _ rfl)))
        rw [rounds_succ]
        go_wp2_with (first | (go_at_call 90; have _t := tok4; (with_reducible refine Calls.mono (hd_put38 _ n _ _ _ _ w ?_ ?_ (HR.out.on ?_) ?_ hn) ?_); (focus (repeat (first | with_reducible (exact Since.refl _) | with_reducible assumption | with_reducible (refine Since.drew ?_) | with_reducible (refine Since.drewN ?_ _) | with_reducible (refine Since.alloc ?_ _) | (with_reducible (refine Since.setCell ?_ ?_ _); rotate_left; focus (first | (simp; done) | (simp; omega) | omega)) | (with_reducible (refine Since.trans ?_ (by with_reducible assumption)))))); (focus (first | with_reducible assumption | (unfold In64; omega))); (focus (repeat (first | with_reducible (exact Since.refl _) | with_reducible assumption | with_reducible (refine Since.drew ?_) | with_reducible (refine Since.drewN ?_ _) | with_reducible (refine Since.alloc ?_ _) | (with_reducible (refine Since.setCell ?_ ?_ _); rotate_left; focus (first | (simp; done) | (simp; omega) | omega)) | (with_reducible (refine Since.trans ?_ (by with_reducible assumption)))))); (focus omega); (rintro e wd ⟨Ak, ck, rfl, hck, hNk, hTk, hS4⟩); clear HR HN HC tok4; have HR := Lib.hid hNk.rd; have HN := Lib.hid hNk; have HC := Lib.hid hck; have tok5 := True.intro; clear hNk hck; have hz4 := hS4.2.2.1 wb.heap.size hz3; have Q4_0 := (hS4.1 wb.heap.size 0 hz3).trans q0; have Q4_1 := (hS4.1 wb.heap.size 1 hz3).trans q1; have Q4_2 := (hS4.1 wb.heap.size 2 hz3).trans q2; have Q4_3 := (hS4.1 wb.heap.size 3 hz3).trans q3))
        rw [rounds_succ]
        go_wp2_with (first | (go_at_call 90; have _t := tok5; (with_reducible refine Calls.mono (hd_put40 _ n _ _ _ _ w ?_ ?_ (HR.out.on ?_) ?_ hn) ?_); (focus (repeat (first | with_reducible (exact Since.refl _) | with_reducible assumption | with_reducible (refine Since.drew ?_) | with_reducible (refine Since.drewN ?_ _) | with_reducible (refine Since.alloc ?_ _) | (with_reducible (refine Since.setCell ?_ ?_ _); rotate_left; focus (first | (simp; done) | (simp; omega) | omega)) | (with_reducible (refine Since.trans ?_ (by with_reducible assumption)))))); (focus (first | with_reducible assumption | (unfold In64; omega))); (focus (repeat (first | with_reducible (exact Since.refl _) | with_reducible assumption | with_reducible (refine Since.drew ?_) | with_reducible (refine Since.drewN ?_ _) | with_reducible (refine Since.alloc ?_ _) | (with_reducible (refine Since.setCell ?_ ?_ _); rotate_left; focus (first | (simp; done) | (simp; omega) | omega)) | (with_reducible (refine Since.trans ?_ (by with_reducible assumption)))))); (focus omega); (rintro e we ⟨Ak, ck, rfl, hck, hNk, hTk, hS5⟩); clear HR HN HC tok5; have HR := Lib.hid hNk.rd; have HN := Lib.hid hNk; have HC := Lib.hid hck; have tok6 := True.intro; clear hNk hck; have hz5 := hS5.2.2.1 wb.heap.size hz4; have Q5_0 := (hS5.1 wb.heap.size 0 hz4).trans Q4_0; have Q5_1 := (hS5.1 wb.heap.size 1 hz4).trans Q4_1; have Q5_2 := (hS5.1 wb.heap.size 2 hz4).trans Q4_2; have Q5_3 := (hS5.1 wb.heap.size 3 hz4).trans Q4_3))
        rw [rounds_succ]
        go_wp2_with (first | (go_at_call 90; have _t := tok6; (with_reducible refine Calls.mono (hd_put42 _ n _ _ _ _ w ?_ ?_ (HR.out.on ?_) ?_ hn) ?_); (focus (repeat (first | with_reducible (exact Since.refl _) | with_reducible assumption | with_reducible (refine Since.drew ?_) | with_reducible (refine Since.drewN ?_ _) | with_reducible (refine Since.alloc ?_ _) | (with_reducible (refine Since.setCell ?_ ?_ _); rotate_left; focus (first | (simp; done) | (simp; omega) | omega)) | (with_reducible (refine Since.trans ?_ (by with_reducible assumption)))))); (focus (first | with_reducible assumption | (unfold In64; omega))); (focus (repeat (first | with_reducible (exact Since.refl _) | with_reducible assumption | with_reducible (refine Since.drew ?_) | with_reducible (refine Since.drewN ?_ _) | with_reducible (refine Since.alloc ?_ _) | (with_reducible (refine Since.setCell ?_ ?_ _); rotate_left; focus (first | (simp; done) | (simp; omega) | omega)) | (with_reducible (refine Since.trans ?_ (by with_reducible assumption)))))); (focus omega); (rintro e wf ⟨Ak, ck, rfl, hck, hNk, hTk, hS6⟩); clear HR HN HC tok6; have HR := Lib.hid hNk.rd; have HN := Lib.hid hNk; have HC := Lib.hid hck; have tok7 := True.intro; clear hNk hck; have hz6 := hS6.2.2.1 wb.heap.size hz5; have Q6_0 := (hS6.1 wb.heap.size 0 hz5).trans Q5_0; have Q6_1 := (hS6.1 wb.heap.size 1 hz5).trans Q5_1; have Q6_2 := (hS6.1 wb.heap.size 2 hz5).trans Q5_2; have Q6_3 := (hS6.1 wb.heap.size 3 hz5).trans Q5_3))
        go_ret2
        exact ph_bad E.out (by decide) (by (repeat (first | with_reducible (exact Since.refl _) | with_reducible assumption | with_reducible (refine Since.drew ?_) | with_reducible (refine Since.drewN ?_ _) | with_reducible (refine Since.alloc ?_ _) | (with_reducible (refine Since.setCell ?_ ?_ _); rotate_left; focus (first | (simp; done) | (simp; omega) | omega)) | (with_reducible (refine Since.trans ?_ (by with_reducible assumption))))))
  have a1 : -32768 ≤ a := by omega
  have a2 : a ≤ 32767 := by omega
  have b1 : -32768 ≤ b := by omega
  have b2 : b ≤ 32767 := by omega
  have c1 : -32768 ≤ c := by omega
  have c2 : c ≤ 32767 := by omega
  have d1 : -32768 ≤ d := by omega
  have d2 : d ≤ 32767 := by omega
  have E := Lib.hid (show phE n em a b c d = 0 by rw [hE, short_yes ⟨a1, a2⟩, short_yes ⟨b1, b2⟩, short_yes ⟨c1, c2⟩, short_yes ⟨d1, d2⟩]; rfl)
  clear hE ka kb kc kd
  have HP := Lib.hid (ph_prog f em a b c d l)
  cases l
  all_goals
    go_enter Tryz.func45, Tryz.ntmps45
    go_wp2_with (first | (go_at_call 90; have _t := tok1; (with_reducible refine Calls.mono (hd_put18 _ n _ _ _ _ w ?_ ?_ (HR.out.on ?_) ?_ hn) ?_); (focus (repeat (first | with_reducible (exact Since.refl _) | with_reducible assumption | with_reducible (refine Since.drew ?_) | with_reducible (refine Since.drewN ?_ _) | with_reducible (refine Since.alloc ?_ _) | (with_reducible (refine Since.setCell ?_ ?_ _); rotate_left; focus (first | (simp; done) | (simp; omega) | omega)) | (with_reducible (refine Since.trans ?_ (by with_reducible assumption)))))); (focus (first | with_reducible assumption | (unfold In64; omega))); (focus (repeat (first | with_reducible (exact Since.refl _) | with_reducible assumption | with_reducible (refine Since.drew ?_) | with_reducible (refine Since.drewN ?_ _) | with_reducible (refine Since.alloc ?_ _) | (with_reducible (refine Since.setCell ?_ ?_ _); rotate_left; focus (first | (simp; done) | (simp; omega) | omega)) | (with_reducible (refine Since.trans ?_ (by with_reducible assumption)))))); (focus omega); (rintro e wa ⟨Ak, ck, rfl, hck, hNk, hTk, hS1⟩); clear HR HN HC tok1; have HR := Lib.hid hNk.rd; have HN := Lib.hid hNk; have HC := Lib.hid hck; have tok2 := True.intro; clear hNk hck; have hzz := hS1.2.2.1 w.heap.size (by simp); have e1 := (hS1.1 w.heap.size 1 (by simp)).trans (hbox_at w _ _ _ _ _ _ _ 1 _ rfl); have e2 := (hS1.1 w.heap.size 2 (by simp)).trans (hbox_at w _ _ _ _ _ _ _ 2 _ rfl); have e3 := (hS1.1 w.heap.size 3 (by simp)).trans (hbox_at w _ _ _ _ _ _ _ 3 _ rfl); have e4 := (hS1.1 w.heap.size 4 (by simp)).trans (hbox_at w _ _ _ _ _ _ _ 4 _ rfl); have e5 := (hS1.1 w.heap.size 5 (by simp)).trans (hbox_at w _ _ _ _ _ _ _ 5 _ rfl)) | (go_at_call 90; have _t := tok2; (with_reducible refine Calls.mono (hd_put50 _ n _ _ _ _ w ?_ ?_ (HR.out.on ?_) ?_ hn) ?_); (focus (repeat (first | with_reducible (exact Since.refl _) | with_reducible assumption | with_reducible (refine Since.drew ?_) | with_reducible (refine Since.drewN ?_ _) | with_reducible (refine Since.alloc ?_ _) | (with_reducible (refine Since.setCell ?_ ?_ _); rotate_left; focus (first | (simp; done) | (simp; omega) | omega)) | (with_reducible (refine Since.trans ?_ (by with_reducible assumption)))))); (focus (first | with_reducible assumption | (unfold In64; omega))); (focus (repeat (first | with_reducible (exact Since.refl _) | with_reducible assumption | with_reducible (refine Since.drew ?_) | with_reducible (refine Since.drewN ?_ _) | with_reducible (refine Since.alloc ?_ _) | (with_reducible (refine Since.setCell ?_ ?_ _); rotate_left; focus (first | (simp; done) | (simp; omega) | omega)) | (with_reducible (refine Since.trans ?_ (by with_reducible assumption)))))); (focus omega); (rintro e wb ⟨Ak, ck, rfl, hck, hNk, hTk, hS2⟩); clear HR HN HC tok2; have HR := Lib.hid hNk.rd; have HN := Lib.hid hNk; have HC := Lib.hid hck; have tok3 := True.intro; clear hNk hck; have E1 := (hS2.1 w.heap.size 1 hzz).trans e1; have E2 := (hS2.1 w.heap.size 2 hzz).trans e2; have E3 := (hS2.1 w.heap.size 3 hzz).trans e3; have E4 := (hS2.1 w.heap.size 4 hzz).trans e4; have E5 := (hS2.1 w.heap.size 5 hzz).trans e5; have g0 := (hTk.1 0 0 t5).trans t1; have g1 := (hTk.1 0 1 t5).trans t2; have g2 := (hTk.1 0 2 t5).trans t3; have g3 := (hTk.1 0 3 t5).trans t4; have g4 := Nat.lt_of_lt_of_le t5 hTk.below.size; have g5 := Nat.ne_of_lt g4))
    refine wp_loop_rounds 5 ?_
    rw [rounds_succ]
    go_wp2_with (first | (go_at_call 90; have _t := tok3; (with_reducible refine Calls.mono (hd_put36 _ n _ _ _ _ w ?_ ?_ (HR.out.on ?_) ?_ hn) ?_); (focus (repeat (first | with_reducible (exact Since.refl _) | with_reducible assumption | with_reducible (refine Since.drew ?_) | with_reducible (refine Since.drewN ?_ _) | with_reducible (refine Since.alloc ?_ _) | (with_reducible (refine Since.setCell ?_ ?_ _); rotate_left; focus (first | (simp; done) | (simp; omega) | omega)) | (with_reducible (refine Since.trans ?_ (by with_reducible assumption)))))); (focus (first | with_reducible assumption | (unfold In64; omega))); (focus (repeat (first | with_reducible (exact Since.refl _) | with_reducible assumption | with_reducible (refine Since.drew ?_) | with_reducible (refine Since.drewN ?_ _) | with_reducible (refine Since.alloc ?_ _) | (with_reducible (refine Since.setCell ?_ ?_ _); rotate_left; focus (first | (simp; done) | (simp; omega) | omega)) | (with_reducible (refine Since.trans ?_ (by with_reducible assumption)))))); (focus omega); (rintro e wc ⟨Ak, ck, rfl, hck, hNk, hTk, hS3⟩); clear HR HN HC tok3; have HR := Lib.hid hNk.rd; have HN := Lib.hid hNk; have HC := Lib.hid hck; have tok4 := True.intro; clear hNk hck; have hz3 := hS3.2.2.1 wb.heap.size (by simp); have q0 := (hS3.1 wb.heap.size 0 (by simp)).trans (box_at wb _ _ _ _ _ 0 _ rfl); have q1 := (hS3.1 wb.heap.size 1 (by simp)).trans (box_at wb _ _ _ _ _ 1 _ rfl); have q2 := (hS3.1 wb.heap.size 2 (by simp)).trans (box_at wb _ _ _ _ _ 2 _ rfl); have q3 := (hS3.1 wb.heap.size 3 (by simp)).trans (box_at wb _ _ _ _ _ 3 _ rfl)))
    rw [rounds_succ]
    go_wp2_with (first | (go_at_call 90; have _t := tok4; (with_reducible refine Calls.mono (hd_put38 _ n _ _ _ _ w ?_ ?_ (HR.out.on ?_) ?_ hn) ?_); (focus (repeat (first | with_reducible (exact Since.refl _) | with_reducible assumption | with_reducible (refine Since.drew ?_) | with_reducible (refine Since.drewN ?_ _) | with_reducible (refine Since.alloc ?_ _) | (with_reducible (refine Since.setCell ?_ ?_ _); rotate_left; focus (first | (simp; done) | (simp; omega) | omega)) | (with_reducible (refine Since.trans ?_ (by with_reducible assumption)))))); (focus (first | with_reducible assumption | (unfold In64; omega))); (focus (repeat (first | with_reducible (exact Since.refl _) | with_reducible assumption | with_reducible (refine Since.drew ?_) | with_reducible (refine Since.drewN ?_ _) | with_reducible (refine Since.alloc ?_ _) | (with_reducible (refine Since.setCell ?_ ?_ _); rotate_left; focus (first | (simp; done) | (simp; omega) | omega)) | (with_reducible (refine Since.trans ?_ (by with_reducible assumption)))))); (focus omega); (rintro e wd ⟨Ak, ck, rfl, hck, hNk, hTk, hS4⟩); clear HR HN HC tok4; have HR := Lib.hid hNk.rd; have HN := Lib.hid hNk; have HC := Lib.hid hck; have tok5 := True.intro; clear hNk hck; have hz4 := hS4.2.2.1 wb.heap.size hz3; have Q4_0 := (hS4.1 wb.heap.size 0 hz3).trans q0; have Q4_1 := (hS4.1 wb.heap.size 1 hz3).trans q1; have Q4_2 := (hS4.1 wb.heap.size 2 hz3).trans q2; have Q4_3 := (hS4.1 wb.heap.size 3 hz3).trans q3))
    rw [rounds_succ]
    go_wp2_with (first | (go_at_call 90; have _t := tok5; (with_reducible refine Calls.mono (hd_put40 _ n _ _ _ _ w ?_ ?_ (HR.out.on ?_) ?_ hn) ?_); (focus (repeat (first | with_reducible (exact Since.refl _) | with_reducible assumption | with_reducible (refine Since.drew ?_) | with_reducible (refine Since.drewN ?_ _) | with_reducible (refine Since.alloc ?_ _) | (with_reducible (refine Since.setCell ?_ ?_ _); rotate_left; focus (first | (simp; done) | (simp; omega) | omega)) | (with_reducible (refine Since.trans ?_ (by with_reducible assumption)))))); (focus (first | with_reducible assumption | (unfold In64; omega))); (focus (repeat (first | with_reducible (exact Since.refl _) | with_reducible assumption | with_reducible (refine Since.drew ?_) | with_reducible (refine Since.drewN ?_ _) | with_reducible (refine Since.alloc ?_ _) | (with_reducible (refine Since.setCell ?_ ?_ _); rotate_left; focus (first | (simp; done) | (simp; omega) | omega)) | (with_reducible (refine Since.trans ?_ (by with_reducible assumption)))))); (focus omega); (rintro e we ⟨Ak, ck, rfl, hck, hNk, hTk, hS5⟩); clear HR HN HC tok5; have HR := Lib.hid hNk.rd; have HN := Lib.hid hNk; have HC := Lib.hid hck; have tok6 := True.intro; clear hNk hck; have hz5 := hS5.2.2.1 wb.heap.size hz4; have Q5_0 := (hS5.1 wb.heap.size 0 hz4).trans Q4_0; have Q5_1 := (hS5.1 wb.heap.size 1 hz4).trans Q4_1; have Q5_2 := (hS5.1 wb.heap.size 2 hz4).trans Q4_2; have Q5_3 := (hS5.1 wb.heap.size 3 hz4).trans Q4_3))
    rw [rounds_succ]
    go_wp2_with (first | (go_at_call 90; have _t := tok6; (with_reducible refine Calls.mono (hd_put42 _ n _ _ _ _ w ?_ ?_ (HR.out.on ?_) ?_ hn) ?_); (focus (repeat (first | with_reducible (exact Since.refl _) | with_reducible assumption | with_reducible (refine Since.drew ?_) | with_reducible (refine Since.drewN ?_ _) | with_reducible (refine Since.alloc ?_ _) | (with_reducible (refine Since.setCell ?_ ?_ _); rotate_left; focus (first | (simp; done) | (simp; omega) | omega)) | (with_reducible (refine Since.trans ?_ (by with_reducible assumption)))))); (focus (first | with_reducible assumption | (unfold In64; omega))); (focus (repeat (first | with_reducible (exact Since.refl _) | with_reducible assumption | with_reducible (refine Since.drew ?_) | with_reducible (refine Since.drewN ?_ _) | with_reducible (refine Since.alloc ?_ _) | (with_reducible (refine Since.setCell ?_ ?_ _); rotate_left; focus (first | (simp; done) | (simp; omega) | omega)) | (with_reducible (refine Since.trans ?_ (by with_reducible assumption)))))); (focus omega); (rintro e wf ⟨Ak, ck, rfl, hck, hNk, hTk, hS6⟩); clear HR HN HC tok6; have HR := Lib.hid hNk.rd; have HN := Lib.hid hNk; have HC := Lib.hid hck; have tok7 := True.intro; clear hNk hck; have hz6 := hS6.2.2.1 wb.heap.size hz5; have Q6_0 := (hS6.1 wb.heap.size 0 hz5).trans Q5_0; have Q6_1 := (hS6.1 wb.heap.size 1 hz5).trans Q5_1; have Q6_2 := (hS6.1 wb.heap.size 2 hz5).trans Q5_2; have Q6_3 := (hS6.1 wb.heap.size 3 hz5).trans Q5_3))
    rw [rounds_succ]
    go_wp2_with fail
    go_ret2
    exact ph_good E.out HC.out HN.out HP.out (Nat.le_refl _) (by (repeat (first | with_reducible (exact Since.refl _) | with_reducible assumption | with_reducible (refine Since.drew ?_) | with_reducible (refine Since.drewN ?_ _) | with_reducible (refine Since.alloc ?_ _) | (with_reducible (refine Since.setCell ?_ ?_ _); rotate_left; focus (first | (simp; done) | (simp; omega) | omega)) | (with_reducible (refine Since.trans ?_ (by with_reducible assumption))))))
end Go.Proofs.YteckkcpnfeoehaaGreatDoor

/-
  copy of a string's bytes into an own row.
-/
namespace Go.Proofs.YteckkcpnfeoehaaGreatDoor
set_option maxRecDepth 100000
open Go.RowKit
set_option linter.unusedVariables false

def overV (off : Nat) (vs : List Value) (V : Nat → Value) (j : Nat) : Value := if off ≤ j ∧ j < off + vs.length then vs.getD (j - off) undef else V j
theorem row_setCells {g n : Nat} : ∀ (vs : List Value) (off : Nat) (w : World) (V : Nat → Value), Row w g n V → Row (w.setCells g off vs) g n (overV off vs V)
  | [], off, w, V, h => h.congr (fun j _ => by unfold overV; rw [if_neg (fun hh => by simp at hh; omega)])
  | v :: r, off, w, V, h => by
    refine (row_setCells r (off + 1) (w.setCell ⟨g, off, none⟩ v) _ (h.set off v)).congr (fun j _ => ?_)
    unfold overV
    show (if _ then _ else (if j = off then v else V j)) = _
    by_cases h1 : j = off
    · subst h1
      rw [if_neg (by omega), if_pos rfl, if_pos (by simp), Nat.sub_self]
      rfl
    · by_cases h2 : off + 1 ≤ j ∧ j < off + 1 + r.length
      · rw [if_pos h2, if_pos (by simp; omega), show j - off = (j - (off + 1)) + 1 by omega]
        simp
      · rw [if_neg h2, if_neg h1, if_neg (by simp; omega)]
theorem since_setCells {w0 : World} {g : Nat} (hg : w0.heap.size ≤ g) : ∀ (vs : List Value) (off : Nat) (w : World), Since w0 w → Since w0 (w.setCells g off vs)
  | [], _, _, h => h
  | v :: r, off, w, h => since_setCells hg r (off + 1) _ (h.setCell (by exact hg) v)
section
variable {P : Program} {w : World}
theorem wpList_copy_str {ops : Array Oper} {rest : List Oper} {o : Oper} {a : Act} {Q : Exit → Act → World → Prop} (hgd : o.guard = none) (d x : Operand) (dT sT : TypeId)
    (ho : o.op = .call { callee := .builtin .copy, args := #[d, x], argTypes := #[dT, sT] }) (elem : TypeId) (hu : P.underlying dT = some (.slice elem)) (hsz : (P.info? elem).map (·.size) = some 1)
    (g off dLen dCap n : Nat) (V : Nat → Value) (t : ByteArray) (hd : a.eval d = .slice (some ⟨g, off, none⟩) dLen dCap) (hx : a.eval x = .string t) (hr : Row w g n V) (hle : t.size ≤ dLen) (hfit : off + t.size ≤ n)
    (w0 : World) (hS : Since w0 w) (hB : w0.heap.size ≤ g)
    (h : ∀ w', Row w' g n (overV off (t.data.toList.map fun x => Value.int .u8 (x.toNat : Int)) V) → Since w0 w' → wpList P ops Q rest (a.put o.dst (goInt t.size)) w') :
    wpList P ops Q (o :: rest) a w := by
  refine wpList_plain hgd fun K hK => ?_
  have hz : ∀ w, (Go.sizeOf elem).run P w = .ok 1 w := by
    intro w
    cases hq : P.info? elem with
    | none => simp [hq] at hsz
    | some i =>
      simp [hq] at hsz
      simp [sizeOf, typeInfo, hq, hsz]
  have hrun := run_copy_string (P := P) w dT sT o.type elem g off dLen dCap t hu hz hle (fun j hj => by rw [hr.1 (off + j) (by omega)]; rfl) (fun j hj => hr.2.1 _)
  unfold Oper.wp execOp
  simp only [ho, resolve, invoke, builtin, Sem.run_bind, Sem.run_pure, Result.andThen_ok, List.map_toArray, List.map_cons, List.map_nil, hd, hx, hrun]
  exact hK _ _ (h _ (row_setCells _ _ _ _ hr) (since_setCells hB _ _ _ hS))
end
end Go.Proofs.YteckkcpnfeoehaaGreatDoor

/-
  Layer 5: the document's examples.
-/
namespace Go.Proofs.YteckkcpnfeoehaaGreatDoor
set_option maxRecDepth 100000
open Go.RowKit
set_option linter.unusedVariables false

end Go.Proofs.YteckkcpnfeoehaaGreatDoor

/-
  Layer 5: the reference's 'PutMaxp', walked.
-/
namespace Go.Proofs.YteckkcpnfeoehaaGreatDoor
set_option maxRecDepth 100000
open Go.RowKit
set_option linter.unusedVariables false

set_option maxRecDepth 100000 in
set_option maxHeartbeats 8000000 in
theorem rf_putmaxp (A : Option Addr) (n q : Nat) (f : Nat → Int) (a b c d e g i : Int) (w : World) (h : Rd w w.heap.size A n (U8 f)) (ha : In64 a) (hb : In64 b) (hc : In64 c) (hd : In64 d) (he : In64 e) (hg : In64 g) (hi : In64 i) (hn : n ≤ 140737488355328) :
    Calls Tryz.prog 51 #[.slice A n q, .agg #[.int .i64 a, .int .i64 b, .int .i64 c, .int .i64 d, .int .i64 e, .int .i64 g, .int .i64 i]] w (MpPost f n (seven a b c d e g i) w) := by
  have hn' : (n : Int) ≤ 140737488355328 := by omega
  by_cases h1 : n < 32
  · have E := Lib.hid (show mpE n (seven a b c d e g i) = 3 by unfold mpE; rw [if_pos h1])
    have h1' : (n : Int) < 32 := by omega
    clear h
    go_enter Tryz.func51, Tryz.ntmps51
    go_wp2
    go_ret2
    exact mp_bad E.out (by decide) (by (repeat (first | with_reducible (exact Since.refl _) | with_reducible assumption | with_reducible (refine Since.drew ?_) | with_reducible (refine Since.drewN ?_ _) | with_reducible (refine Since.alloc ?_ _) | (with_reducible (refine Since.setCell ?_ ?_ _); rotate_left; focus (first | (simp; done) | (simp; omega) | omega)) | (with_reducible (refine Since.trans ?_ (by with_reducible assumption))))))
  have h1' : (32 : Int) ≤ n := by omega
  have hE : mpE n (seven a b c d e g i) = if allW (seven a b c d e g i) 7 then 0 else 6 := by unfold mpE; rw [if_neg h1]
  have m0 := mx0; have m1 := mx1; have m2 := mx2; have m3 := mx3; have m4 := mx4; have m5 := mx5; have m6 := mx6
  have HE := Lib.hid hE; have HH := Lib.hid h
  clear hE h
  go_enter Tryz.func51, Tryz.ntmps51
  go_wp2_with (go_at_call 24; refine (ref_copy A n q f _ (HH.out.on (by (repeat (first | with_reducible (exact Since.refl _) | with_reducible assumption | with_reducible (refine Since.drew ?_) | with_reducible (refine Since.drewN ?_ _) | with_reducible (refine Since.alloc ?_ _) | (with_reducible (refine Since.setCell ?_ ?_ _); rotate_left; focus (first | (simp; done) | (simp; omega) | omega)) | (with_reducible (refine Since.trans ?_ (by with_reducible assumption))))))) (by omega)).mono ?_; rintro e wc ⟨gc, cc, rfl, hown, hSc⟩; have hTc : Since w wc := (by (repeat (first | with_reducible (exact Since.refl _) | with_reducible assumption | with_reducible (refine Since.drew ?_) | with_reducible (refine Since.drewN ?_ _) | with_reducible (refine Since.alloc ?_ _) | (with_reducible (refine Since.setCell ?_ ?_ _); rotate_left; focus (first | (simp; done) | (simp; omega) | omega)) | (with_reducible (refine Since.trans ?_ (by with_reducible assumption)))))); have s1 := hSc.2.2.1 (w.heap.size + 1) (by simp); have r0 := (hSc.1 (w.heap.size + 1) 0 (by simp)).trans (sbox_at _ _ (by simp) _ _ _ _ _ _ _ _ 0 _ rfl); have r1 := (hSc.1 (w.heap.size + 1) 1 (by simp)).trans (sbox_at _ _ (by simp) _ _ _ _ _ _ _ _ 1 _ rfl); have r2 := (hSc.1 (w.heap.size + 1) 2 (by simp)).trans (sbox_at _ _ (by simp) _ _ _ _ _ _ _ _ 2 _ rfl); have r3 := (hSc.1 (w.heap.size + 1) 3 (by simp)).trans (sbox_at _ _ (by simp) _ _ _ _ _ _ _ _ 3 _ rfl); have r4 := (hSc.1 (w.heap.size + 1) 4 (by simp)).trans (sbox_at _ _ (by simp) _ _ _ _ _ _ _ _ 4 _ rfl); have r5 := (hSc.1 (w.heap.size + 1) 5 (by simp)).trans (sbox_at _ _ (by simp) _ _ _ _ _ _ _ _ 5 _ rfl); have r6 := (hSc.1 (w.heap.size + 1) 6 (by simp)).trans (sbox_at _ _ (by simp) _ _ _ _ _ _ _ _ 6 _ rfl); have HO := Lib.hid hown; clear hown)
  refine wp_named fun W1 hW1 => ?_
  have hS1 : Since w W1 := by subst hW1; (repeat (first | with_reducible (exact Since.refl _) | with_reducible assumption | with_reducible (refine Since.drew ?_) | with_reducible (refine Since.drewN ?_ _) | with_reducible (refine Since.alloc ?_ _) | (with_reducible (refine Since.setCell ?_ ?_ _); rotate_left; focus (first | (simp; done) | (simp; omega) | omega)) | (with_reducible (refine Since.trans ?_ (by with_reducible assumption)))))
  have hlt : w.heap.size + 1 < W1.heap.size := by subst hW1; exact s1
  have a0 : W1.cell? ⟨w.heap.size + 1, 0, none⟩ = some (.int .i64 a) := by subst hW1; exact r0
  have a1 : W1.cell? ⟨w.heap.size + 1, 1, none⟩ = some (.int .i64 b) := by subst hW1; exact r1
  have a2 : W1.cell? ⟨w.heap.size + 1, 2, none⟩ = some (.int .i64 c) := by subst hW1; exact r2
  have a3 : W1.cell? ⟨w.heap.size + 1, 3, none⟩ = some (.int .i64 d) := by subst hW1; exact r3
  have a4 : W1.cell? ⟨w.heap.size + 1, 4, none⟩ = some (.int .i64 e) := by subst hW1; exact r4
  have a5 : W1.cell? ⟨w.heap.size + 1, 5, none⟩ = some (.int .i64 g) := by subst hW1; exact r5
  have a6 : W1.cell? ⟨w.heap.size + 1, 6, none⟩ = some (.int .i64 i) := by subst hW1; exact r6
  have HO1 := Lib.hid (show Own W1 _ gc cc n f by subst hW1; exact HO.out)
  have hgc : w.heap.size ≤ gc := by have := HO.out.base; simp at this; omega
  clear hW1 s1 r0 r1 r2 r3 r4 r5 r6 HO hTc
  go_loopw [7, 31] (fun v y wr => ∃ (k : Nat) (z : Int) (A' : Option Addr) (c' : Nat), k ≤ 7 ∧ z = k ∧ y = .int .i64 z ∧ v = .slice A' n c' ∧ Since W1 wr ∧ Rd wr wr.heap.size A' n (U8 (mpF f (seven a b c d e g i) k)) ∧ (0 ≤ k → n ≤ c' ∧ Nw wr w.heap.size A' n (U8 (mpF f (seven a b c d e g i) k))) ∧ allW (seven a b c d e g i) k = true) (fun _ y _ => (7 - intOf y).toNat)
  case atStart => exact ⟨0, 0, some ⟨gc, 0, none⟩, cc, by omega, rfl, rfl, rfl, Since.refl _, Rd.of_row HO1.out.row, fun _ => ⟨HO1.out.cap, fun _ => ⟨gc, rfl, hgc, HO1.out.row⟩⟩, rfl⟩
  case round =>
    obtain ⟨k, z, A', c', hk, hz, rfl, rfl, hSr, hR, hN, hall⟩ := hrel
    have HR := Lib.hid hR; have HN := Lib.hid hN; have HA := Lib.hid hall
    clear hR hN hall
    have hTr := hS1.trans hSr
    have hcase : k = 0 ∨ k = 1 ∨ k = 2 ∨ k = 3 ∨ k = 4 ∨ k = 5 ∨ k = 6 ∨ k = 7 := by omega
    rcases hcase with rfl | rfl | rfl | rfl | rfl | rfl | rfl | rfl
    · obtain rfl : z = 0 := by omega
      clear hz hk
      have c0 := (hSr.1 _ 0 hlt).trans a0
      by_cases hbd : a < 0 ∨ 65535 < a
      · have E2 := Lib.hid (show mpE n (seven a b c d e g i) = 6 by rw [HE.out, allW_no (j := 0) (word_no hbd) (by omega)]; rfl)
        rcases hbd with hbd | hbd
        · go_wp2
          go_ret2
          exact mp_bad E2.out (by decide) hTr
        · have hb' : 0 ≤ a := by omega
          go_wp2
          go_ret2
          exact mp_bad E2.out (by decide) hTr
      · have hb1 : 0 ≤ a := by omega
        have hb2 : a ≤ 65535 := by omega
        have hP := rf_layH4 A' n c' _ a wr w hTr ha HR.out (by omega) hn
        have HP := Lib.hid hP
        clear hbd hP
        go_wp2_with (go_at_call 96; (with_reducible refine HP.out.mono ?_); rintro e w2 ⟨A2, c2, rfl, hc2, hN2, hT2, hS2⟩)
        exact ⟨⟨1, 1, A2, c2, by omega, by simp, by simp, rfl, hSr.trans hS2, hN2.rd, fun _ => ⟨hc2, hN2⟩, allW_next HA.out ⟨hb1, hb2⟩⟩, by simp [intOf]⟩
    · obtain rfl : z = 1 := by omega
      clear hz hk
      have c0 := (hSr.1 _ 1 hlt).trans a1
      by_cases hbd : b < 0 ∨ 65535 < b
      · have E2 := Lib.hid (show mpE n (seven a b c d e g i) = 6 by rw [HE.out, allW_no (j := 1) (word_no hbd) (by omega)]; rfl)
        rcases hbd with hbd | hbd
        · go_wp2
          go_ret2
          exact mp_bad E2.out (by decide) hTr
        · have hb' : 0 ≤ b := by omega
          go_wp2
          go_ret2
          exact mp_bad E2.out (by decide) hTr
      · have hb1 : 0 ≤ b := by omega
        have hb2 : b ≤ 65535 := by omega
        have hP := rf_layH6 A' n c' _ b wr w hTr hb HR.out (by omega) hn
        have HP := Lib.hid hP
        clear hbd hP
        go_wp2_with (go_at_call 96; (with_reducible refine HP.out.mono ?_); rintro e w2 ⟨A2, c2, rfl, hc2, hN2, hT2, hS2⟩)
        exact ⟨⟨2, 2, A2, c2, by omega, by simp, by simp, rfl, hSr.trans hS2, hN2.rd, fun _ => ⟨hc2, hN2⟩, allW_next HA.out ⟨hb1, hb2⟩⟩, by simp [intOf]⟩
    · obtain rfl : z = 2 := by omega
      clear hz hk
      have c0 := (hSr.1 _ 2 hlt).trans a2
      by_cases hbd : c < 0 ∨ 65535 < c
      · have E2 := Lib.hid (show mpE n (seven a b c d e g i) = 6 by rw [HE.out, allW_no (j := 2) (word_no hbd) (by omega)]; rfl)
        rcases hbd with hbd | hbd
        · go_wp2
          go_ret2
          exact mp_bad E2.out (by decide) hTr
        · have hb' : 0 ≤ c := by omega
          go_wp2
          go_ret2
          exact mp_bad E2.out (by decide) hTr
      · have hb1 : 0 ≤ c := by omega
        have hb2 : c ≤ 65535 := by omega
        have hP := rf_layH8 A' n c' _ c wr w hTr hc HR.out (by omega) hn
        have HP := Lib.hid hP
        clear hbd hP
        go_wp2_with (go_at_call 96; (with_reducible refine HP.out.mono ?_); rintro e w2 ⟨A2, c2, rfl, hc2, hN2, hT2, hS2⟩)
        exact ⟨⟨3, 3, A2, c2, by omega, by simp, by simp, rfl, hSr.trans hS2, hN2.rd, fun _ => ⟨hc2, hN2⟩, allW_next HA.out ⟨hb1, hb2⟩⟩, by simp [intOf]⟩
    · obtain rfl : z = 3 := by omega
      clear hz hk
      have c0 := (hSr.1 _ 3 hlt).trans a3
      by_cases hbd : d < 0 ∨ 65535 < d
      · have E2 := Lib.hid (show mpE n (seven a b c d e g i) = 6 by rw [HE.out, allW_no (j := 3) (word_no hbd) (by omega)]; rfl)
        rcases hbd with hbd | hbd
        · go_wp2
          go_ret2
          exact mp_bad E2.out (by decide) hTr
        · have hb' : 0 ≤ d := by omega
          go_wp2
          go_ret2
          exact mp_bad E2.out (by decide) hTr
      · have hb1 : 0 ≤ d := by omega
        have hb2 : d ≤ 65535 := by omega
        have hP := rf_layH10 A' n c' _ d wr w hTr hd HR.out (by omega) hn
        have HP := Lib.hid hP
        clear hbd hP
        go_wp2_with (go_at_call 96; (with_reducible refine HP.out.mono ?_); rintro e w2 ⟨A2, c2, rfl, hc2, hN2, hT2, hS2⟩)
        exact ⟨⟨4, 4, A2, c2, by omega, by simp, by simp, rfl, hSr.trans hS2, hN2.rd, fun _ => ⟨hc2, hN2⟩, allW_next HA.out ⟨hb1, hb2⟩⟩, by simp [intOf]⟩
    · obtain rfl : z = 4 := by omega
      clear hz hk
      have c0 := (hSr.1 _ 4 hlt).trans a4
      by_cases hbd : e < 0 ∨ 65535 < e
      · have E2 := Lib.hid (show mpE n (seven a b c d e g i) = 6 by rw [HE.out, allW_no (j := 4) (word_no hbd) (by omega)]; rfl)
        rcases hbd with hbd | hbd
        · go_wp2
          go_ret2
          exact mp_bad E2.out (by decide) hTr
        · have hb' : 0 ≤ e := by omega
          go_wp2
          go_ret2
          exact mp_bad E2.out (by decide) hTr
      · have hb1 : 0 ≤ e := by omega
        have hb2 : e ≤ 65535 := by omega
        have hP := rf_layH12 A' n c' _ e wr w hTr he HR.out (by omega) hn
        have HP := Lib.hid hP
        clear hbd hP
        go_wp2_with (go_at_call 96; (with_reducible refine HP.out.mono ?_); rintro e w2 ⟨A2, c2, rfl, hc2, hN2, hT2, hS2⟩)
        exact ⟨⟨5, 5, A2, c2, by omega, by simp, by simp, rfl, hSr.trans hS2, hN2.rd, fun _ => ⟨hc2, hN2⟩, allW_next HA.out ⟨hb1, hb2⟩⟩, by simp [intOf]⟩
    · obtain rfl : z = 5 := by omega
      clear hz hk
      have c0 := (hSr.1 _ 5 hlt).trans a5
      by_cases hbd : g < 0 ∨ 65535 < g
      · have E2 := Lib.hid (show mpE n (seven a b c d e g i) = 6 by rw [HE.out, allW_no (j := 5) (word_no hbd) (by omega)]; rfl)
        rcases hbd with hbd | hbd
        · go_wp2
          go_ret2
          exact mp_bad E2.out (by decide) hTr
        · have hb' : 0 ≤ g := by omega
          go_wp2
          go_ret2
          exact mp_bad E2.out (by decide) hTr
      · have hb1 : 0 ≤ g := by omega
        have hb2 : g ≤ 65535 := by omega
        have hP := rf_layH28 A' n c' _ g wr w hTr hg HR.out (by omega) hn
        have HP := Lib.hid hP
        clear hbd hP
        go_wp2_with (go_at_call 96; (with_reducible refine HP.out.mono ?_); rintro e w2 ⟨A2, c2, rfl, hc2, hN2, hT2, hS2⟩)
        exact ⟨⟨6, 6, A2, c2, by omega, by simp, by simp, rfl, hSr.trans hS2, hN2.rd, fun _ => ⟨hc2, hN2⟩, allW_next HA.out ⟨hb1, hb2⟩⟩, by simp [intOf]⟩
    · obtain rfl : z = 6 := by omega
      clear hz hk
      have c0 := (hSr.1 _ 6 hlt).trans a6
      by_cases hbd : i < 0 ∨ 65535 < i
      · have E2 := Lib.hid (show mpE n (seven a b c d e g i) = 6 by rw [HE.out, allW_no (j := 6) (word_no hbd) (by omega)]; rfl)
        rcases hbd with hbd | hbd
        · go_wp2
          go_ret2
          exact mp_bad E2.out (by decide) hTr
        · have hb' : 0 ≤ i := by omega
          go_wp2
          go_ret2
          exact mp_bad E2.out (by decide) hTr
      · have hb1 : 0 ≤ i := by omega
        have hb2 : i ≤ 65535 := by omega
        have hP := rf_layH30 A' n c' _ i wr w hTr hi HR.out (by omega) hn
        have HP := Lib.hid hP
        clear hbd hP
        go_wp2_with (go_at_call 96; (with_reducible refine HP.out.mono ?_); rintro e w2 ⟨A2, c2, rfl, hc2, hN2, hT2, hS2⟩)
        exact ⟨⟨7, 7, A2, c2, by omega, by simp, by simp, rfl, hSr.trans hS2, hN2.rd, fun _ => ⟨hc2, hN2⟩, allW_next HA.out ⟨hb1, hb2⟩⟩, by simp [intOf]⟩
    · obtain rfl : z = 7 := by omega
      clear hz hk
      have E2 := Lib.hid (show mpE n (seven a b c d e g i) = 0 by rw [HE.out, HA.out]; rfl)
      go_wp2
      go_ret2
      exact mp_good E2.out (HN.out (by decide)).1 (HN.out (by decide)).2 hTr
end Go.Proofs.YteckkcpnfeoehaaGreatDoor

/-
  Layer 5: the reference's 'PutHead', walked.
-/
namespace Go.Proofs.YteckkcpnfeoehaaGreatDoor
set_option maxRecDepth 100000
open Go.RowKit
set_option linter.unusedVariables false

theorem short_known (x : Int) (b : Bool) (h : shortB x = b) (w : World) : Calls Tryz.prog 95 #[.int .i64 x] w fun e w' => e = .returned (.bool b) ∧ w' = w := by
  have := rf_short x w
  rw [h] at this
  exact this
set_option maxRecDepth 100000 in
set_option maxHeartbeats 8000000 in
theorem rf_puthead (A : Option Addr) (n q : Nat) (f : Nat → Int) (em a b c d : Int) (l : Bool) (w : World) (h : Rd w w.heap.size A n (U8 f)) (hem : In64 em) (ha : In64 a) (hb : In64 b) (hc : In64 c) (hd : In64 d) (hn : n ≤ 140737488355328) :
    Calls Tryz.prog 50 #[.slice A n q, .agg #[.int .i64 em, .int .i64 a, .int .i64 b, .int .i64 c, .int .i64 d, .bool l]] w (PhPost f n em a b c d l w) := by
  have hn' : (n : Int) ≤ 140737488355328 := by omega
  by_cases h1 : n < 54
  · have E := Lib.hid (show phE n em a b c d = 3 by unfold phE; rw [if_pos h1])
    have h1' : (n : Int) < 54 := by omega
    clear h
    go_enter Tryz.func50, Tryz.ntmps50
    go_wp2
    go_ret2
    exact ph_bad E.out (by decide) (by (repeat (first | with_reducible (exact Since.refl _) | with_reducible assumption | with_reducible (refine Since.drew ?_) | with_reducible (refine Since.drewN ?_ _) | with_reducible (refine Since.alloc ?_ _) | (with_reducible (refine Since.setCell ?_ ?_ _); rotate_left; focus (first | (simp; done) | (simp; omega) | omega)) | (with_reducible (refine Since.trans ?_ (by with_reducible assumption))))))
  have h1' : (54 : Int) ≤ n := by omega
  have hE : phE n em a b c d = if phOk em a b c d then 0 else 6 := by unfold phE; rw [if_neg h1]
  by_cases h2 : em < 16 ∨ 16384 < em
  · have E := Lib.hid (show phE n em a b c d = 6 by rw [hE]; unfold phOk; rcases h2 with h2 | h2; · rw [decide_eq_false (show ¬ 16 ≤ em by omega)]; rfl
                                                    · rw [decide_eq_false (show ¬ em ≤ 16384 by omega)]; simp)
    have h3 : em < 16 ∨ (16 ≤ em ∧ 16384 < em) := by omega
    clear h hE h2
    rcases h3 with h3 | ⟨h3, h4⟩
    all_goals
      go_enter Tryz.func50, Tryz.ntmps50
      go_wp2
      go_ret2
      exact ph_bad E.out (by decide) (by (repeat (first | with_reducible (exact Since.refl _) | with_reducible assumption | with_reducible (refine Since.drew ?_) | with_reducible (refine Since.drewN ?_ _) | with_reducible (refine Since.alloc ?_ _) | (with_reducible (refine Since.setCell ?_ ?_ _); rotate_left; focus (first | (simp; done) | (simp; omega) | omega)) | (with_reducible (refine Since.trans ?_ (by with_reducible assumption))))))
  have hem1 : 16 ≤ em := by omega
  have hem2 : em ≤ 16384 := by omega
  have hok : phOk em a b c d = (shortB a && shortB b && shortB c && shortB d) := by unfold phOk; rw [decide_eq_true hem1, decide_eq_true hem2]; rfl
  rw [hok] at hE
  clear h2 hok
  cases ka : shortB a with
  | false =>
    have E := Lib.hid (show phE n em a b c d = 6 by rw [hE, ka]; simp)
    have Sa := Lib.hid (short_known a false ka)
    clear h hE ka
    go_enter Tryz.func50, Tryz.ntmps50
    go_wp2_with (go_at_call 95; (first | (with_reducible refine Calls.mono (Sa.out _) ?_)); rintro e w1 ⟨rfl, rfl⟩)
    go_ret2
    exact ph_bad E.out (by decide) (by (repeat (first | with_reducible (exact Since.refl _) | with_reducible assumption | with_reducible (refine Since.drew ?_) | with_reducible (refine Since.drewN ?_ _) | with_reducible (refine Since.alloc ?_ _) | (with_reducible (refine Since.setCell ?_ ?_ _); rotate_left; focus (first | (simp; done) | (simp; omega) | omega)) | (with_reducible (refine Since.trans ?_ (by with_reducible assumption))))))
  | true =>
  have Sa := Lib.hid (short_known a true ka)
  cases kb : shortB b with
  | false =>
    have E := Lib.hid (show phE n em a b c d = 6 by rw [hE, ka, kb]; simp)
    have Sb := Lib.hid (short_known b false kb)
    clear h hE ka kb
    go_enter Tryz.func50, Tryz.ntmps50
    go_wp2_with (go_at_call 95; (first | (with_reducible refine Calls.mono (Sa.out _) ?_) | (with_reducible refine Calls.mono (Sb.out _) ?_)); rintro e w1 ⟨rfl, rfl⟩)
    go_ret2
    exact ph_bad E.out (by decide) (by (repeat (first | with_reducible (exact Since.refl _) | with_reducible assumption | with_reducible (refine Since.drew ?_) | with_reducible (refine Since.drewN ?_ _) | with_reducible (refine Since.alloc ?_ _) | (with_reducible (refine Since.setCell ?_ ?_ _); rotate_left; focus (first | (simp; done) | (simp; omega) | omega)) | (with_reducible (refine Since.trans ?_ (by with_reducible assumption))))))
  | true =>
  have Sb := Lib.hid (short_known b true kb)
  cases kc : shortB c with
  | false =>
    have E := Lib.hid (show phE n em a b c d = 6 by rw [hE, ka, kb, kc]; simp)
    have Sc := Lib.hid (short_known c false kc)
    clear h hE ka kb kc
    go_enter Tryz.func50, Tryz.ntmps50
    go_wp2_with (go_at_call 95; (first | (with_reducible refine Calls.mono (Sa.out _) ?_) | (with_reducible refine Calls.mono (Sb.out _) ?_) | (with_reducible refine Calls.mono (Sc.out _) ?_)); rintro e w1 ⟨rfl, rfl⟩)
    go_ret2
    exact ph_bad E.out (by decide) (by (repeat (first | with_reducible (exact Since.refl _) | with_reducible assumption | with_reducible (refine Since.drew ?_) | with_reducible (refine Since.drewN ?_ _) | with_reducible (refine Since.alloc ?_ _) | (with_reducible (refine Since.setCell ?_ ?_ _); rotate_left; focus (first | (simp; done) | (simp; omega) | omega)) | (with_reducible (refine Since.trans ?_ (by with_reducible assumption))))))
  | true =>
  have Sc := Lib.hid (short_known c true kc)
  cases kd : shortB d with
  | false =>
    have E := Lib.hid (show phE n em a b c d = 6 by rw [hE, ka, kb, kc, kd]; simp)
    have Sd := Lib.hid (short_known d false kd)
    clear h hE ka kb kc kd
    go_enter Tryz.func50, Tryz.ntmps50
    go_wp2_with (go_at_call 95; (first | (with_reducible refine Calls.mono (Sa.out _) ?_) | (with_reducible refine Calls.mono (Sb.out _) ?_) | (with_reducible refine Calls.mono (Sc.out _) ?_) | (with_reducible refine Calls.mono (Sd.out _) ?_)); rintro e w1 ⟨rfl, rfl⟩)
    go_ret2
    exact ph_bad E.out (by decide) (by (repeat (first | with_reducible (exact Since.refl _) | with_reducible assumption | with_reducible (refine Since.drew ?_) | with_reducible (refine Since.drewN ?_ _) | with_reducible (refine Since.alloc ?_ _) | (with_reducible (refine Since.setCell ?_ ?_ _); rotate_left; focus (first | (simp; done) | (simp; omega) | omega)) | (with_reducible (refine Since.trans ?_ (by with_reducible assumption))))))
  | true =>
  have Sd := Lib.hid (short_known d true kd)
  have E := Lib.hid (show phE n em a b c d = 0 by rw [hE, ka, kb, kc, kd]; rfl)
  have HH := Lib.hid h
  clear h hE ka kb kc kd
  cases l
  · go_enter Tryz.func50, Tryz.ntmps50
    go_wp2_with (go_at_call 95; (first | (with_reducible refine Calls.mono (Sa.out _) ?_) | (with_reducible refine Calls.mono (Sb.out _) ?_) | (with_reducible refine Calls.mono (Sc.out _) ?_) | (with_reducible refine Calls.mono (Sd.out _) ?_)); rintro e w1 ⟨rfl, rfl⟩)
    refine wp_named fun wr hwr => ?_
    have hSw : Since w wr := by subst hwr; (repeat (first | with_reducible (exact Since.refl _) | with_reducible assumption | with_reducible (refine Since.drew ?_) | with_reducible (refine Since.drewN ?_ _) | with_reducible (refine Since.alloc ?_ _) | (with_reducible (refine Since.setCell ?_ ?_ _); rotate_left; focus (first | (simp; done) | (simp; omega) | omega)) | (with_reducible (refine Since.trans ?_ (by with_reducible assumption)))))
    have hlt : w.heap.size < wr.heap.size := by subst hwr; simp
    have c0 : wr.cell? ⟨w.heap.size, 0, none⟩ = some (.int .i64 em) := by subst hwr; exact hbox_at _ _ _ _ _ _ _ _ 0 _ rfl
    have c1 : wr.cell? ⟨w.heap.size, 1, none⟩ = some (.int .i64 a) := by subst hwr; exact hbox_at _ _ _ _ _ _ _ _ 1 _ rfl
    have c2 : wr.cell? ⟨w.heap.size, 2, none⟩ = some (.int .i64 b) := by subst hwr; exact hbox_at _ _ _ _ _ _ _ _ 2 _ rfl
    have c3 : wr.cell? ⟨w.heap.size, 3, none⟩ = some (.int .i64 c) := by subst hwr; exact hbox_at _ _ _ _ _ _ _ _ 3 _ rfl
    have c4 : wr.cell? ⟨w.heap.size, 4, none⟩ = some (.int .i64 d) := by subst hwr; exact hbox_at _ _ _ _ _ _ _ _ 4 _ rfl
    have c5 : wr.cell? ⟨w.heap.size, 5, none⟩ = some (.bool false) := by subst hwr; exact hbox_at _ _ _ _ _ _ _ _ 5 _ rfl
    clear hwr
    have HR := Lib.hid (HH.out.on hSw)
    have HN := True.intro
    have HC := True.intro
    have tok1 := True.intro
    go_region_held3 (fun w' => w'.cell? ⟨w.heap.size, 0, none⟩ = some (.int .i64 em) ∧ w'.cell? ⟨w.heap.size, 1, none⟩ = some (.int .i64 a) ∧ w'.cell? ⟨w.heap.size, 2, none⟩ = some (.int .i64 b) ∧ w'.cell? ⟨w.heap.size, 3, none⟩ = some (.int .i64 c) ∧ w'.cell? ⟨w.heap.size, 4, none⟩ = some (.int .i64 d)) ((refine ⟨?_, ?_, ?_, ?_, ?_⟩ <;> assumption)) ((first | (go_at_call 96; have _t := tok1; (with_reducible refine Calls.mono (rf_layH18 _ n _ _ _ _ wr ?_ ?_ (HR.out.on ?_) ?_ hn) ?_); (focus (repeat (first | with_reducible (exact Since.refl _) | with_reducible assumption | with_reducible (refine Since.drew ?_) | with_reducible (refine Since.drewN ?_ _) | with_reducible (refine Since.alloc ?_ _) | (with_reducible (refine Since.setCell ?_ ?_ _); rotate_left; focus (first | (simp; done) | (simp; omega) | omega)) | (with_reducible (refine Since.trans ?_ (by with_reducible assumption)))))); (focus (first | with_reducible assumption | (unfold In64; omega))); (focus (repeat (first | with_reducible (exact Since.refl _) | with_reducible assumption | with_reducible (refine Since.drew ?_) | with_reducible (refine Since.drewN ?_ _) | with_reducible (refine Since.alloc ?_ _) | (with_reducible (refine Since.setCell ?_ ?_ _); rotate_left; focus (first | (simp; done) | (simp; omega) | omega)) | (with_reducible (refine Since.trans ?_ (by with_reducible assumption)))))); (focus omega); (rintro e wk ⟨Ak, ck, rfl, hck, hNk, hTk, hSk⟩); have d1_0 := (hTk.1 w.heap.size 0 hlt).trans c0; have d1_1 := (hTk.1 w.heap.size 1 hlt).trans c1; have d1_2 := (hTk.1 w.heap.size 2 hlt).trans c2; have d1_3 := (hTk.1 w.heap.size 3 hlt).trans c3; have d1_4 := (hTk.1 w.heap.size 4 hlt).trans c4; have d1_5 := (hTk.1 w.heap.size 5 hlt).trans c5; clear HR HN HC tok1; have HR := Lib.hid hNk.rd; have HN := Lib.hid hNk; have HC := Lib.hid hck; have tok2 := True.intro; clear hNk hck) | (go_at_call 96; have _t := tok2; (with_reducible refine Calls.mono (rf_layH36 _ n _ _ _ _ wr ?_ ?_ (HR.out.on ?_) ?_ hn) ?_); (focus (repeat (first | with_reducible (exact Since.refl _) | with_reducible assumption | with_reducible (refine Since.drew ?_) | with_reducible (refine Since.drewN ?_ _) | with_reducible (refine Since.alloc ?_ _) | (with_reducible (refine Since.setCell ?_ ?_ _); rotate_left; focus (first | (simp; done) | (simp; omega) | omega)) | (with_reducible (refine Since.trans ?_ (by with_reducible assumption)))))); (focus (first | with_reducible assumption | (unfold In64; omega))); (focus (repeat (first | with_reducible (exact Since.refl _) | with_reducible assumption | with_reducible (refine Since.drew ?_) | with_reducible (refine Since.drewN ?_ _) | with_reducible (refine Since.alloc ?_ _) | (with_reducible (refine Since.setCell ?_ ?_ _); rotate_left; focus (first | (simp; done) | (simp; omega) | omega)) | (with_reducible (refine Since.trans ?_ (by with_reducible assumption)))))); (focus omega); (rintro e wk ⟨Ak, ck, rfl, hck, hNk, hTk, hSk⟩); have d2_0 := (hTk.1 w.heap.size 0 hlt).trans c0; have d2_1 := (hTk.1 w.heap.size 1 hlt).trans c1; have d2_2 := (hTk.1 w.heap.size 2 hlt).trans c2; have d2_3 := (hTk.1 w.heap.size 3 hlt).trans c3; have d2_4 := (hTk.1 w.heap.size 4 hlt).trans c4; have d2_5 := (hTk.1 w.heap.size 5 hlt).trans c5; clear HR HN HC tok2; have HR := Lib.hid hNk.rd; have HN := Lib.hid hNk; have HC := Lib.hid hck; have tok3 := True.intro; clear hNk hck) | (go_at_call 96; have _t := tok3; (with_reducible refine Calls.mono (rf_layH38 _ n _ _ _ _ wr ?_ ?_ (HR.out.on ?_) ?_ hn) ?_); (focus (repeat (first | with_reducible (exact Since.refl _) | with_reducible assumption | with_reducible (refine Since.drew ?_) | with_reducible (refine Since.drewN ?_ _) | with_reducible (refine Since.alloc ?_ _) | (with_reducible (refine Since.setCell ?_ ?_ _); rotate_left; focus (first | (simp; done) | (simp; omega) | omega)) | (with_reducible (refine Since.trans ?_ (by with_reducible assumption)))))); (focus (first | with_reducible assumption | (unfold In64; omega))); (focus (repeat (first | with_reducible (exact Since.refl _) | with_reducible assumption | with_reducible (refine Since.drew ?_) | with_reducible (refine Since.drewN ?_ _) | with_reducible (refine Since.alloc ?_ _) | (with_reducible (refine Since.setCell ?_ ?_ _); rotate_left; focus (first | (simp; done) | (simp; omega) | omega)) | (with_reducible (refine Since.trans ?_ (by with_reducible assumption)))))); (focus omega); (rintro e wk ⟨Ak, ck, rfl, hck, hNk, hTk, hSk⟩); have d3_0 := (hTk.1 w.heap.size 0 hlt).trans c0; have d3_1 := (hTk.1 w.heap.size 1 hlt).trans c1; have d3_2 := (hTk.1 w.heap.size 2 hlt).trans c2; have d3_3 := (hTk.1 w.heap.size 3 hlt).trans c3; have d3_4 := (hTk.1 w.heap.size 4 hlt).trans c4; have d3_5 := (hTk.1 w.heap.size 5 hlt).trans c5; clear HR HN HC tok3; have HR := Lib.hid hNk.rd; have HN := Lib.hid hNk; have HC := Lib.hid hck; have tok4 := True.intro; clear hNk hck) | (go_at_call 96; have _t := tok4; (with_reducible refine Calls.mono (rf_layH40 _ n _ _ _ _ wr ?_ ?_ (HR.out.on ?_) ?_ hn) ?_); (focus (repeat (first | with_reducible (exact Since.refl _) | with_reducible assumption | with_reducible (refine Since.drew ?_) | with_reducible (refine Since.drewN ?_ _) | with_reducible (refine Since.alloc ?_ _) | (with_reducible (refine Since.setCell ?_ ?_ _); rotate_left; focus (first | (simp; done) | (simp; omega) | omega)) | (with_reducible (refine Since.trans ?_ (by with_reducible assumption)))))); (focus (first | with_reducible assumption | (unfold In64; omega))); (focus (repeat (first | with_reducible (exact Since.refl _) | with_reducible assumption | with_reducible (refine Since.drew ?_) | with_reducible (refine Since.drewN ?_ _) | with_reducible (refine Since.alloc ?_ _) | (with_reducible (refine Since.setCell ?_ ?_ _); rotate_left; focus (first | (simp; done) | (simp; omega) | omega)) | (with_reducible (refine Since.trans ?_ (by with_reducible assumption)))))); (focus omega); (rintro e wk ⟨Ak, ck, rfl, hck, hNk, hTk, hSk⟩); have d4_0 := (hTk.1 w.heap.size 0 hlt).trans c0; have d4_1 := (hTk.1 w.heap.size 1 hlt).trans c1; have d4_2 := (hTk.1 w.heap.size 2 hlt).trans c2; have d4_3 := (hTk.1 w.heap.size 3 hlt).trans c3; have d4_4 := (hTk.1 w.heap.size 4 hlt).trans c4; have d4_5 := (hTk.1 w.heap.size 5 hlt).trans c5; clear HR HN HC tok4; have HR := Lib.hid hNk.rd; have HN := Lib.hid hNk; have HC := Lib.hid hck; have tok5 := True.intro; clear hNk hck) | (go_at_call 96; have _t := tok5; (with_reducible refine Calls.mono (rf_layH42 _ n _ _ _ _ wr ?_ ?_ (HR.out.on ?_) ?_ hn) ?_); (focus (repeat (first | with_reducible (exact Since.refl _) | with_reducible assumption | with_reducible (refine Since.drew ?_) | with_reducible (refine Since.drewN ?_ _) | with_reducible (refine Since.alloc ?_ _) | (with_reducible (refine Since.setCell ?_ ?_ _); rotate_left; focus (first | (simp; done) | (simp; omega) | omega)) | (with_reducible (refine Since.trans ?_ (by with_reducible assumption)))))); (focus (first | with_reducible assumption | (unfold In64; omega))); (focus (repeat (first | with_reducible (exact Since.refl _) | with_reducible assumption | with_reducible (refine Since.drew ?_) | with_reducible (refine Since.drewN ?_ _) | with_reducible (refine Since.alloc ?_ _) | (with_reducible (refine Since.setCell ?_ ?_ _); rotate_left; focus (first | (simp; done) | (simp; omega) | omega)) | (with_reducible (refine Since.trans ?_ (by with_reducible assumption)))))); (focus omega); (rintro e wk ⟨Ak, ck, rfl, hck, hNk, hTk, hSk⟩); have d5_0 := (hTk.1 w.heap.size 0 hlt).trans c0; have d5_1 := (hTk.1 w.heap.size 1 hlt).trans c1; have d5_2 := (hTk.1 w.heap.size 2 hlt).trans c2; have d5_3 := (hTk.1 w.heap.size 3 hlt).trans c3; have d5_4 := (hTk.1 w.heap.size 4 hlt).trans c4; have d5_5 := (hTk.1 w.heap.size 5 hlt).trans c5; clear HR HN HC tok5; have HR := Lib.hid hNk.rd; have HN := Lib.hid hNk; have HC := Lib.hid hck; have tok6 := True.intro; clear hNk hck)))
    all_goals (rename_i hHeld; clear hHeld)
    go_wp2_with (go_at_call 96; (with_reducible refine Calls.mono (rf_layH50 _ n _ _ _ _ wr ?_ ?_ (HR.out.on ?_) ?_ hn) ?_); (focus (repeat (first | with_reducible (exact Since.refl _) | with_reducible assumption | with_reducible (refine Since.drew ?_) | with_reducible (refine Since.drewN ?_ _) | with_reducible (refine Since.alloc ?_ _) | (with_reducible (refine Since.setCell ?_ ?_ _); rotate_left; focus (first | (simp; done) | (simp; omega) | omega)) | (with_reducible (refine Since.trans ?_ (by with_reducible assumption)))))); (focus (unfold In64; omega)); (focus (repeat (first | with_reducible (exact Since.refl _) | with_reducible assumption | with_reducible (refine Since.drew ?_) | with_reducible (refine Since.drewN ?_ _) | with_reducible (refine Since.alloc ?_ _) | (with_reducible (refine Since.setCell ?_ ?_ _); rotate_left; focus (first | (simp; done) | (simp; omega) | omega)) | (with_reducible (refine Since.trans ?_ (by with_reducible assumption)))))); (focus omega); (rintro e wz ⟨Az, cz, rfl, hcz, hNz, hTz, hSz⟩))
    go_ret2
    exact ph_good E.out hcz hNz rfl hSw.below.size (hSw.trans hTz)
  · go_enter Tryz.func50, Tryz.ntmps50
    go_wp2_with (go_at_call 95; (first | (with_reducible refine Calls.mono (Sa.out _) ?_) | (with_reducible refine Calls.mono (Sb.out _) ?_) | (with_reducible refine Calls.mono (Sc.out _) ?_) | (with_reducible refine Calls.mono (Sd.out _) ?_)); rintro e w1 ⟨rfl, rfl⟩)
    refine wp_named fun wr hwr => ?_
    have hSw : Since w wr := by subst hwr; (repeat (first | with_reducible (exact Since.refl _) | with_reducible assumption | with_reducible (refine Since.drew ?_) | with_reducible (refine Since.drewN ?_ _) | with_reducible (refine Since.alloc ?_ _) | (with_reducible (refine Since.setCell ?_ ?_ _); rotate_left; focus (first | (simp; done) | (simp; omega) | omega)) | (with_reducible (refine Since.trans ?_ (by with_reducible assumption)))))
    have hlt : w.heap.size < wr.heap.size := by subst hwr; simp
    have c0 : wr.cell? ⟨w.heap.size, 0, none⟩ = some (.int .i64 em) := by subst hwr; exact hbox_at _ _ _ _ _ _ _ _ 0 _ rfl
    have c1 : wr.cell? ⟨w.heap.size, 1, none⟩ = some (.int .i64 a) := by subst hwr; exact hbox_at _ _ _ _ _ _ _ _ 1 _ rfl
    have c2 : wr.cell? ⟨w.heap.size, 2, none⟩ = some (.int .i64 b) := by subst hwr; exact hbox_at _ _ _ _ _ _ _ _ 2 _ rfl
    have c3 : wr.cell? ⟨w.heap.size, 3, none⟩ = some (.int .i64 c) := by subst hwr; exact hbox_at _ _ _ _ _ _ _ _ 3 _ rfl
    have c4 : wr.cell? ⟨w.heap.size, 4, none⟩ = some (.int .i64 d) := by subst hwr; exact hbox_at _ _ _ _ _ _ _ _ 4 _ rfl
    have c5 : wr.cell? ⟨w.heap.size, 5, none⟩ = some (.bool true) := by subst hwr; exact hbox_at _ _ _ _ _ _ _ _ 5 _ rfl
    clear hwr
    have HR := Lib.hid (HH.out.on hSw)
    have HN := True.intro
    have HC := True.intro
    have tok1 := True.intro
    go_region_held3 (fun w' => w'.cell? ⟨w.heap.size, 0, none⟩ = some (.int .i64 em) ∧ w'.cell? ⟨w.heap.size, 1, none⟩ = some (.int .i64 a) ∧ w'.cell? ⟨w.heap.size, 2, none⟩ = some (.int .i64 b) ∧ w'.cell? ⟨w.heap.size, 3, none⟩ = some (.int .i64 c) ∧ w'.cell? ⟨w.heap.size, 4, none⟩ = some (.int .i64 d)) ((refine ⟨?_, ?_, ?_, ?_, ?_⟩ <;> assumption)) ((first | (go_at_call 96; have _t := tok1; (with_reducible refine Calls.mono (rf_layH18 _ n _ _ _ _ wr ?_ ?_ (HR.out.on ?_) ?_ hn) ?_); (focus (repeat (first | with_reducible (exact Since.refl _) | with_reducible assumption | with_reducible (refine Since.drew ?_) | with_reducible (refine Since.drewN ?_ _) | with_reducible (refine Since.alloc ?_ _) | (with_reducible (refine Since.setCell ?_ ?_ _); rotate_left; focus (first | (simp; done) | (simp; omega) | omega)) | (with_reducible (refine Since.trans ?_ (by with_reducible assumption)))))); (focus (first | with_reducible assumption | (unfold In64; omega))); (focus (repeat (first | with_reducible (exact Since.refl _) | with_reducible assumption | with_reducible (refine Since.drew ?_) | with_reducible (refine Since.drewN ?_ _) | with_reducible (refine Since.alloc ?_ _) | (with_reducible (refine Since.setCell ?_ ?_ _); rotate_left; focus (first | (simp; done) | (simp; omega) | omega)) | (with_reducible (refine Since.trans ?_ (by with_reducible assumption)))))); (focus omega); (rintro e wk ⟨Ak, ck, rfl, hck, hNk, hTk, hSk⟩); have d1_0 := (hTk.1 w.heap.size 0 hlt).trans c0; have d1_1 := (hTk.1 w.heap.size 1 hlt).trans c1; have d1_2 := (hTk.1 w.heap.size 2 hlt).trans c2; have d1_3 := (hTk.1 w.heap.size 3 hlt).trans c3; have d1_4 := (hTk.1 w.heap.size 4 hlt).trans c4; have d1_5 := (hTk.1 w.heap.size 5 hlt).trans c5; clear HR HN HC tok1; have HR := Lib.hid hNk.rd; have HN := Lib.hid hNk; have HC := Lib.hid hck; have tok2 := True.intro; clear hNk hck) | (go_at_call 96; have _t := tok2; (with_reducible refine Calls.mono (rf_layH36 _ n _ _ _ _ wr ?_ ?_ (HR.out.on ?_) ?_ hn) ?_); (focus (repeat (first | with_reducible (exact Since.refl _) | with_reducible assumption | with_reducible (refine Since.drew ?_) | with_reducible (refine Since.drewN ?_ _) | with_reducible (refine Since.alloc ?_ _) | (with_reducible (refine Since.setCell ?_ ?_ _); rotate_left; focus (first | (simp; done) | (simp; omega) | omega)) | (with_reducible (refine Since.trans ?_ (by with_reducible assumption)))))); (focus (first | with_reducible assumption | (unfold In64; omega))); (focus (repeat (first | with_reducible (exact Since.refl _) | with_reducible assumption | with_reducible (refine Since.drew ?_) | with_reducible (refine Since.drewN ?_ _) | with_reducible (refine Since.alloc ?_ _) | (with_reducible (refine Since.setCell ?_ ?_ _); rotate_left; focus (first | (simp; done) | (simp; omega) | omega)) | (with_reducible (refine Since.trans ?_ (by with_reducible assumption)))))); (focus omega); (rintro e wk ⟨Ak, ck, rfl, hck, hNk, hTk, hSk⟩); have d2_0 := (hTk.1 w.heap.size 0 hlt).trans c0; have d2_1 := (hTk.1 w.heap.size 1 hlt).trans c1; have d2_2 := (hTk.1 w.heap.size 2 hlt).trans c2; have d2_3 := (hTk.1 w.heap.size 3 hlt).trans c3; have d2_4 := (hTk.1 w.heap.size 4 hlt).trans c4; have d2_5 := (hTk.1 w.heap.size 5 hlt).trans c5; clear HR HN HC tok2; have HR := Lib.hid hNk.rd; have HN := Lib.hid hNk; have HC := Lib.hid hck; have tok3 := True.intro; clear hNk hck) | (go_at_call 96; have _t := tok3; (with_reducible refine Calls.mono (rf_layH38 _ n _ _ _ _ wr ?_ ?_ (HR.out.on ?_) ?_ hn) ?_); (focus (repeat (first | with_reducible (exact Since.refl _) | with_reducible assumption | with_reducible (refine Since.drew ?_) | with_reducible (refine Since.drewN ?_ _) | with_reducible (refine Since.alloc ?_ _) | (with_reducible (refine Since.setCell ?_ ?_ _); rotate_left; focus (first | (simp; done) | (simp; omega) | omega)) | (with_reducible (refine Since.trans ?_ (by with_reducible assumption)))))); (focus (first | with_reducible assumption | (unfold In64; omega))); (focus (repeat (first | with_reducible (exact Since.refl _) | with_reducible assumption | with_reducible (refine Since.drew ?_) | with_reducible (refine Since.drewN ?_ _) | with_reducible (refine Since.alloc ?_ _) | (with_reducible (refine Since.setCell ?_ ?_ _); rotate_left; focus (first | (simp; done) | (simp; omega) | omega)) | (with_reducible (refine Since.trans ?_ (by with_reducible assumption)))))); (focus omega); (rintro e wk ⟨Ak, ck, rfl, hck, hNk, hTk, hSk⟩); have d3_0 := (hTk.1 w.heap.size 0 hlt).trans c0; have d3_1 := (hTk.1 w.heap.size 1 hlt).trans c1; have d3_2 := (hTk.1 w.heap.size 2 hlt).trans c2; have d3_3 := (hTk.1 w.heap.size 3 hlt).trans c3; have d3_4 := (hTk.1 w.heap.size 4 hlt).trans c4; have d3_5 := (hTk.1 w.heap.size 5 hlt).trans c5; clear HR HN HC tok3; have HR := Lib.hid hNk.rd; have HN := Lib.hid hNk; have HC := Lib.hid hck; have tok4 := True.intro; clear hNk hck) | (go_at_call 96; have _t := tok4; (with_reducible refine Calls.mono (rf_layH40 _ n _ _ _ _ wr ?_ ?_ (HR.out.on ?_) ?_ hn) ?_); (focus (repeat (first | with_reducible (exact Since.refl _) | with_reducible assumption | with_reducible (refine Since.drew ?_) | with_reducible (refine Since.drewN ?_ _) | with_reducible (refine Since.alloc ?_ _) | (with_reducible (refine Since.setCell ?_ ?_ _); rotate_left; focus (first | (simp; done) | (simp; omega) | omega)) | (with_reducible (refine Since.trans ?_ (by with_reducible assumption)))))); (focus (first | with_reducible assumption | (unfold In64; omega))); (focus (repeat (first | with_reducible (exact Since.refl _) | with_reducible assumption | with_reducible (refine Since.drew ?_) | with_reducible (refine Since.drewN ?_ _) | with_reducible (refine Since.alloc ?_ _) | (with_reducible (refine Since.setCell ?_ ?_ _); rotate_left; focus (first | (simp; done) | (simp; omega) | omega)) | (with_reducible (refine Since.trans ?_ (by with_reducible assumption)))))); (focus omega); (rintro e wk ⟨Ak, ck, rfl, hck, hNk, hTk, hSk⟩); have d4_0 := (hTk.1 w.heap.size 0 hlt).trans c0; have d4_1 := (hTk.1 w.heap.size 1 hlt).trans c1; have d4_2 := (hTk.1 w.heap.size 2 hlt).trans c2; have d4_3 := (hTk.1 w.heap.size 3 hlt).trans c3; have d4_4 := (hTk.1 w.heap.size 4 hlt).trans c4; have d4_5 := (hTk.1 w.heap.size 5 hlt).trans c5; clear HR HN HC tok4; have HR := Lib.hid hNk.rd; have HN := Lib.hid hNk; have HC := Lib.hid hck; have tok5 := True.intro; clear hNk hck) | (go_at_call 96; have _t := tok5; (with_reducible refine Calls.mono (rf_layH42 _ n _ _ _ _ wr ?_ ?_ (HR.out.on ?_) ?_ hn) ?_); (focus (repeat (first | with_reducible (exact Since.refl _) | with_reducible assumption | with_reducible (refine Since.drew ?_) | with_reducible (refine Since.drewN ?_ _) | with_reducible (refine Since.alloc ?_ _) | (with_reducible (refine Since.setCell ?_ ?_ _); rotate_left; focus (first | (simp; done) | (simp; omega) | omega)) | (with_reducible (refine Since.trans ?_ (by with_reducible assumption)))))); (focus (first | with_reducible assumption | (unfold In64; omega))); (focus (repeat (first | with_reducible (exact Since.refl _) | with_reducible assumption | with_reducible (refine Since.drew ?_) | with_reducible (refine Since.drewN ?_ _) | with_reducible (refine Since.alloc ?_ _) | (with_reducible (refine Since.setCell ?_ ?_ _); rotate_left; focus (first | (simp; done) | (simp; omega) | omega)) | (with_reducible (refine Since.trans ?_ (by with_reducible assumption)))))); (focus omega); (rintro e wk ⟨Ak, ck, rfl, hck, hNk, hTk, hSk⟩); have d5_0 := (hTk.1 w.heap.size 0 hlt).trans c0; have d5_1 := (hTk.1 w.heap.size 1 hlt).trans c1; have d5_2 := (hTk.1 w.heap.size 2 hlt).trans c2; have d5_3 := (hTk.1 w.heap.size 3 hlt).trans c3; have d5_4 := (hTk.1 w.heap.size 4 hlt).trans c4; have d5_5 := (hTk.1 w.heap.size 5 hlt).trans c5; clear HR HN HC tok5; have HR := Lib.hid hNk.rd; have HN := Lib.hid hNk; have HC := Lib.hid hck; have tok6 := True.intro; clear hNk hck)))
    all_goals (rename_i hHeld; clear hHeld)
    go_wp2_with (go_at_call 96; (with_reducible refine Calls.mono (rf_layH50 _ n _ _ _ _ wr ?_ ?_ (HR.out.on ?_) ?_ hn) ?_); (focus (repeat (first | with_reducible (exact Since.refl _) | with_reducible assumption | with_reducible (refine Since.drew ?_) | with_reducible (refine Since.drewN ?_ _) | with_reducible (refine Since.alloc ?_ _) | (with_reducible (refine Since.setCell ?_ ?_ _); rotate_left; focus (first | (simp; done) | (simp; omega) | omega)) | (with_reducible (refine Since.trans ?_ (by with_reducible assumption)))))); (focus (unfold In64; omega)); (focus (repeat (first | with_reducible (exact Since.refl _) | with_reducible assumption | with_reducible (refine Since.drew ?_) | with_reducible (refine Since.drewN ?_ _) | with_reducible (refine Since.alloc ?_ _) | (with_reducible (refine Since.setCell ?_ ?_ _); rotate_left; focus (first | (simp; done) | (simp; omega) | omega)) | (with_reducible (refine Since.trans ?_ (by with_reducible assumption)))))); (focus omega); (rintro e wz ⟨Az, cz, rfl, hcz, hNz, hTz, hSz⟩))
    go_ret2
    exact ph_good E.out hcz hNz rfl hSw.below.size (hSw.trans hTz)
end Go.Proofs.YteckkcpnfeoehaaGreatDoor

/-
  Layer 5: the laws HeadReads, HeadMaxps, walked.
-/
namespace Go.Proofs.YteckkcpnfeoehaaGreatDoor
set_option maxRecDepth 100000
open Go.RowKit
set_option linter.unusedVariables false

theorem eq_hd (w : World) (a b c d e : Int) (l : Bool) : (Op.equalIn 10000 24 (.agg #[.int .i64 a, .int .i64 b, .int .i64 c, .int .i64 d, .int .i64 e, .bool l]) (.agg #[.int .i64 a, .int .i64 b, .int .i64 c, .int .i64 d, .int .i64 e, .bool l])).run Tryz.prog w = .ok true w := by
  rw [run_equalIn_struct w 9999 24 _ _ (by kernel_rfl) (by kernel_rfl)]
  have heq : ∀ (d : Nat) (a b : Int) (w : World), (Op.equalIn (d + 1) 3 (.int .i64 a) (.int .i64 b)).run Tryz.prog w = .ok (a == b) w := fun d a b w => run_equalIn_int w d _ _ _ a b Tryz.underlying3
  have heqb : ∀ (d : Nat) (a b : Bool) (w : World), (Op.equalIn (d + 1) 4 (.bool a) (.bool b)).run Tryz.prog w = .ok (a == b) w := fun d a b w => by simp [Op.equalIn, run_underlying Tryz.underlying4]
  have hc : Tryz.prog.cellsOf 3 = 1 := by kernel_rfl
  have hcb : Tryz.prog.cellsOf 4 = 1 := by kernel_rfl
  simp only [Program.fieldsOf, Tryz.underlying24]
  simp [go_sem]
theorem eq_mx (w : World) (a b c d e g i : Int) : (Op.equalIn 10000 26 (.agg #[.int .i64 a, .int .i64 b, .int .i64 c, .int .i64 d, .int .i64 e, .int .i64 g, .int .i64 i]) (.agg #[.int .i64 a, .int .i64 b, .int .i64 c, .int .i64 d, .int .i64 e, .int .i64 g, .int .i64 i])).run Tryz.prog w = .ok true w := by
  rw [run_equalIn_struct w 9999 26 _ _ (by kernel_rfl) (by kernel_rfl)]
  have heq : ∀ (d : Nat) (a b : Int) (w : World), (Op.equalIn (d + 1) 3 (.int .i64 a) (.int .i64 b)).run Tryz.prog w = .ok (a == b) w := fun d a b w => run_equalIn_int w d _ _ _ a b Tryz.underlying3
  have hc : Tryz.prog.cellsOf 3 = 1 := by kernel_rfl
  simp only [Program.fieldsOf, Tryz.underlying26]
  simp [go_sem]
attribute [go_sem] eq_hd eq_mx
def SixB (w : World) (b : Nat) (v0 v1 v2 v3 v4 v5 : Value) : Prop := b < w.heap.size ∧ w.cell? ⟨b, 0, none⟩ = some v0 ∧ w.cell? ⟨b, 1, none⟩ = some v1 ∧ w.cell? ⟨b, 2, none⟩ = some v2 ∧ w.cell? ⟨b, 3, none⟩ = some v3 ∧ w.cell? ⟨b, 4, none⟩ = some v4 ∧ w.cell? ⟨b, 5, none⟩ = some v5
theorem SixB.since {w w' : World} {b : Nat} {v0 v1 v2 v3 v4 v5 : Value} (h : SixB w b v0 v1 v2 v3 v4 v5) (k : Since w w') : SixB w' b v0 v1 v2 v3 v4 v5 := by
  obtain ⟨h0, h1, h2, h3, h4, h5, h6⟩ := h
  exact ⟨k.2.2.1 _ h0, (k.1 _ _ h0).trans h1, (k.1 _ _ h0).trans h2, (k.1 _ _ h0).trans h3, (k.1 _ _ h0).trans h4, (k.1 _ _ h0).trans h5, (k.1 _ _ h0).trans h6⟩
def SevenB (w : World) (b : Nat) (v0 v1 v2 v3 v4 v5 v6 : Value) : Prop := b < w.heap.size ∧ w.cell? ⟨b, 0, none⟩ = some v0 ∧ w.cell? ⟨b, 1, none⟩ = some v1 ∧ w.cell? ⟨b, 2, none⟩ = some v2 ∧ w.cell? ⟨b, 3, none⟩ = some v3 ∧ w.cell? ⟨b, 4, none⟩ = some v4 ∧ w.cell? ⟨b, 5, none⟩ = some v5 ∧ w.cell? ⟨b, 6, none⟩ = some v6
theorem SevenB.since {w w' : World} {b : Nat} {v0 v1 v2 v3 v4 v5 v6 : Value} (h : SevenB w b v0 v1 v2 v3 v4 v5 v6) (k : Since w w') : SevenB w' b v0 v1 v2 v3 v4 v5 v6 := by
  obtain ⟨h0, h1, h2, h3, h4, h5, h6, h7⟩ := h
  exact ⟨k.2.2.1 _ h0, (k.1 _ _ h0).trans h1, (k.1 _ _ h0).trans h2, (k.1 _ _ h0).trans h3, (k.1 _ _ h0).trans h4, (k.1 _ _ h0).trans h5, (k.1 _ _ h0).trans h6, (k.1 _ _ h0).trans h7⟩

end Go.Proofs.YteckkcpnfeoehaaGreatDoor
