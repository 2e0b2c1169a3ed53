/-
  Layer 13: 'Box', walked.
-/
import Derived.Test.YtbbbojhncfdbdaaQuC
namespace Go.Proofs.Ytbbbojhncfdbdaa
open Go.RowKit
set_option linter.unusedVariables false

def mi (a b : Int) : Int := if b < a then b else a
def ma (a b : Int) : Int := if a < b then b else a
theorem min3_run (A B C : Int) (w : World) : (Builtin.min_ #[3, 3, 3] 3 #[.int .i64 A, .int .i64 B, .int .i64 C]).run Try.prog w = .ok (.int .i64 (mi (mi A B) C)) w := by
  simp only [Builtin.min_, List.foldlM_cons, List.foldlM_nil, Builtin.min2, mi]
  rfl

theorem max3_run (A B C : Int) (w : World) : (Builtin.max_ #[3, 3, 3] 3 #[.int .i64 A, .int .i64 B, .int .i64 C]).run Try.prog w = .ok (.int .i64 (ma (ma A B) C)) w := by
  simp only [Builtin.max_, List.foldlM_cons, List.foldlM_nil, Builtin.max2, ma]
  rfl

set_option maxHeartbeats 4000000 in
theorem qu_box1 (s : Sg) (a : Nat) (cx cy A B C : Int) (bs bc : Nat) (w : World) (hE : ∀ args w, (callFunc a args).run Try.prog w = .ok (.enter a args) w)
    (hs : SegAt w bs s) (hc : PtAt w bc cx cy)
    (hA : ∀ w, Calls Try.prog a #[Pt s.ax s.ay] w fun e w2 => e = .returned (.int .i64 A) ∧ Since w w2)
    (hC : ∀ w, Calls Try.prog a #[Pt cx cy] w fun e w2 => e = .returned (.int .i64 C) ∧ Since w w2)
    (hB : ∀ w, Calls Try.prog a #[Pt s.bx s.bz] w fun e w2 => e = .returned (.int .i64 B) ∧ Since w w2) :
    Calls Try.prog 66 #[.func (.func a) #[] #[], .pointer (some ⟨bs, 0, none⟩), .pointer (some ⟨bc, 0, none⟩)] w
      fun e w' => e = .returned (.int .i64 (mi (mi A B) C)) ∧ Since w w' := by
  obtain ⟨ax, ay, cx', cy', bx, bz, kk⟩ := s
  simp only at hA hC hB
  obtain ⟨s1, s2, s3, s4, s5, s6, s7, s8⟩ := hs
  obtain ⟨c1, c2, c3⟩ := hc
  simp only at s1 s2 s3 s4 s5 s6 s7 ⊢
  unfold Pt at hA hB hC
  have HA := Lib.hid hA
  have HB := Lib.hid hB
  have HC := Lib.hid hC
  have hmin := min3_run A B C
  clear hA hB hC s3 s4 s7
  go_enter Try.func66, Try.ntmps66
  go_wp2
  (refine wp_named fun wr1 hwr1 => ?_; go_region_held3 (fun w' => (∀ b o, b < wr1.heap.size → w'.cell? ⟨b, o, none⟩ = wr1.cell? ⟨b, o, none⟩) ∧ (∀ b o, b < wr1.heap.size → w'.frozen? ⟨b, o, none⟩ = wr1.frozen? ⟨b, o, none⟩) ∧ (∀ k, k < wr1.heap.size → k < w'.heap.size) ∧ Below wr1.heap.size wr1 w') ((subst hwr1; (repeat (with_reducible (refine since_put ?_ ?_ _); rotate_left; focus (first | (simp; done) | (simp; omega) | omega))); first | assumption | (refine since_step (by assumption) ?_; first | assumption | ((repeat (first | with_reducible (exact Since.refl _) | with_reducible assumption | with_reducible (refine Since.drew ?_) | with_reducible (refine Since.drewN ?_ _) | with_reducible (refine Since.alloc ?_ _) | (with_reducible (refine Since.setCell ?_ ?_ _); rotate_left; focus (first | (simp; done) | (simp; omega) | omega)))); done)) | (refine since_step (Since.refl _) ?_; first | assumption | ((repeat (first | with_reducible (exact Since.refl _) | with_reducible assumption | with_reducible (refine Since.drew ?_) | with_reducible (refine Since.drewN ?_ _) | with_reducible (refine Since.alloc ?_ _) | (with_reducible (refine Since.setCell ?_ ?_ _); rotate_left; focus (first | (simp; done) | (simp; omega) | omega)) | (with_reducible (refine Since.trans ?_ (by with_reducible assumption))))); done)))) (first | (refine (Calls.mono (HA.out _) ?_); rintro e w1 ⟨rfl, hS⟩; have hZ := hS.below.size; (try simp at hZ)) | (refine (Calls.mono (HC.out _) ?_); rintro e w1 ⟨rfl, hS⟩; have hZ := hS.below.size; (try simp at hZ)) | (refine (Calls.mono (HB.out _) ?_); rintro e w1 ⟨rfl, hS⟩; have hZ := hS.below.size; (try simp at hZ))); all_goals (rename_i hHeld; have hR1 : Since wr1 _ := hHeld; obtain ⟨hcR1, hfR1, hzR1, hbR1⟩ := hHeld; subst hwr1))
  all_goals go_wp2
  all_goals go_ret
  all_goals exact ⟨by first | rfl | (simp; omega), by (repeat (first | with_reducible (exact Since.refl _) | with_reducible assumption | with_reducible (refine Since.drew ?_) | with_reducible (refine Since.drewN ?_ _) | with_reducible (refine Since.alloc ?_ _) | (with_reducible (refine Since.setCell ?_ ?_ _); rotate_left; focus (first | (simp; done) | (simp; omega) | omega)) | (with_reducible (refine Since.trans ?_ (by with_reducible assumption)))))⟩
set_option maxHeartbeats 4000000 in
theorem qu_box2 (s : Sg) (a : Nat) (cx cy A B C : Int) (bs bc : Nat) (w : World) (hE : ∀ args w, (callFunc a args).run Try.prog w = .ok (.enter a args) w)
    (hs : SegAt w bs s) (hc : PtAt w bc cx cy)
    (hA : ∀ w, Calls Try.prog a #[Pt s.ax s.ay] w fun e w2 => e = .returned (.int .i64 A) ∧ Since w w2)
    (hC : ∀ w, Calls Try.prog a #[Pt cx cy] w fun e w2 => e = .returned (.int .i64 C) ∧ Since w w2)
    (hB : ∀ w, Calls Try.prog a #[Pt s.bx s.bz] w fun e w2 => e = .returned (.int .i64 B) ∧ Since w w2) :
    Calls Try.prog 67 #[.func (.func a) #[] #[], .pointer (some ⟨bs, 0, none⟩), .pointer (some ⟨bc, 0, none⟩)] w
      fun e w' => e = .returned (.int .i64 (ma (ma A B) C)) ∧ Since w w' := by
  obtain ⟨ax, ay, cx', cy', bx, bz, kk⟩ := s
  simp only at hA hC hB
  obtain ⟨s1, s2, s3, s4, s5, s6, s7, s8⟩ := hs
  obtain ⟨c1, c2, c3⟩ := hc
  simp only at s1 s2 s3 s4 s5 s6 s7 ⊢
  unfold Pt at hA hB hC
  have HA := Lib.hid hA
  have HB := Lib.hid hB
  have HC := Lib.hid hC
  have hmin := max3_run A B C
  clear hA hB hC s3 s4 s7
  go_enter Try.func67, Try.ntmps67
  go_wp2
  (refine wp_named fun wr1 hwr1 => ?_; go_region_held3 (fun w' => (∀ b o, b < wr1.heap.size → w'.cell? ⟨b, o, none⟩ = wr1.cell? ⟨b, o, none⟩) ∧ (∀ b o, b < wr1.heap.size → w'.frozen? ⟨b, o, none⟩ = wr1.frozen? ⟨b, o, none⟩) ∧ (∀ k, k < wr1.heap.size → k < w'.heap.size) ∧ Below wr1.heap.size wr1 w') ((subst hwr1; (repeat (with_reducible (refine since_put ?_ ?_ _); rotate_left; focus (first | (simp; done) | (simp; omega) | omega))); first | assumption | (refine since_step (by assumption) ?_; first | assumption | ((repeat (first | with_reducible (exact Since.refl _) | with_reducible assumption | with_reducible (refine Since.drew ?_) | with_reducible (refine Since.drewN ?_ _) | with_reducible (refine Since.alloc ?_ _) | (with_reducible (refine Since.setCell ?_ ?_ _); rotate_left; focus (first | (simp; done) | (simp; omega) | omega)))); done)) | (refine since_step (Since.refl _) ?_; first | assumption | ((repeat (first | with_reducible (exact Since.refl _) | with_reducible assumption | with_reducible (refine Since.drew ?_) | with_reducible (refine Since.drewN ?_ _) | with_reducible (refine Since.alloc ?_ _) | (with_reducible (refine Since.setCell ?_ ?_ _); rotate_left; focus (first | (simp; done) | (simp; omega) | omega)) | (with_reducible (refine Since.trans ?_ (by with_reducible assumption))))); done)))) (first | (refine (Calls.mono (HA.out _) ?_); rintro e w1 ⟨rfl, hS⟩; have hZ := hS.below.size; (try simp at hZ)) | (refine (Calls.mono (HC.out _) ?_); rintro e w1 ⟨rfl, hS⟩; have hZ := hS.below.size; (try simp at hZ)) | (refine (Calls.mono (HB.out _) ?_); rintro e w1 ⟨rfl, hS⟩; have hZ := hS.below.size; (try simp at hZ))); all_goals (rename_i hHeld; have hR1 : Since wr1 _ := hHeld; obtain ⟨hcR1, hfR1, hzR1, hbR1⟩ := hHeld; subst hwr1))
  all_goals go_wp2
  all_goals go_ret
  all_goals exact ⟨by first | rfl | (simp; omega), by (repeat (first | with_reducible (exact Since.refl _) | with_reducible assumption | with_reducible (refine Since.drew ?_) | with_reducible (refine Since.drewN ?_ _) | with_reducible (refine Since.alloc ?_ _) | (with_reducible (refine Since.setCell ?_ ?_ _); rotate_left; focus (first | (simp; done) | (simp; omega) | omega)) | (with_reducible (refine Since.trans ?_ (by with_reducible assumption)))))⟩

theorem SegAt.far {w : World} {b b' : Nat} {s : Sg} (h : SegAt w b s) (hb : b' ≠ b) (o : Nat) (v : Value) : SegAt (w.setCell ⟨b', o, none⟩ v) b s := by
  obtain ⟨h1, h2, h3, h4, h5, h6, h7, h8⟩ := h
  have k : ∀ j, (w.setCell ⟨b', o, none⟩ v).cell? ⟨b, j, none⟩ = w.cell? ⟨b, j, none⟩ := fun j => by rw [cell_set, if_neg (fun e => hb e.1)]
  exact ⟨(k _).trans h1, (k _).trans h2, (k _).trans h3, (k _).trans h4, (k _).trans h5, (k _).trans h6, (k _).trans h7, by simpa [World.setCell] using h8⟩
theorem PtAt.far {w : World} {b b' : Nat} {x y : Int} (h : PtAt w b x y) (hb : b' ≠ b) (o : Nat) (v : Value) : PtAt (w.setCell ⟨b', o, none⟩ v) b x y := by
  obtain ⟨h1, h2, h8⟩ := h
  have k : ∀ j, (w.setCell ⟨b', o, none⟩ v).cell? ⟨b, j, none⟩ = w.cell? ⟨b, j, none⟩ := fun j => by rw [cell_set, if_neg (fun e => hb e.1)]
  exact ⟨(k _).trans h1, (k _).trans h2, by simpa [World.setCell] using h8⟩
theorem Zero2.far {w : World} {b b' : Nat} (h : Zero2 w b) (hb : b' ≠ b) (o : Nat) (v : Value) : Zero2 (w.setCell ⟨b', o, none⟩ v) b := ⟨h.1.far hb o v, fun j => (World.frozen?_setCell _ _ _ _).trans (h.2 j)⟩
/-- A block holds a point, and may be written. -/
def PtF (w : World) (b : Nat) (x y : Int) : Prop := PtAt w b x y ∧ ∀ j, w.frozen? ⟨b, j, none⟩ = false
theorem PtF.since {w w' : World} {b : Nat} {x y : Int} (h : PtF w b x y) (k : Since w w') : PtF w' b x y := ⟨h.1.since k, fun j => (k.2.1 _ _ h.1.2.2).trans (h.2 j)⟩
theorem PtF.far {w : World} {b b' : Nat} {x y : Int} (h : PtF w b x y) (hb : b' ≠ b) (o : Nat) (v : Value) : PtF (w.setCell ⟨b', o, none⟩ v) b x y := ⟨h.1.far hb o v, fun j => (World.frozen?_setCell _ _ _ _).trans (h.2 j)⟩
theorem ptf_set {w : World} {b : Nat} (h : Zero2 w b) (x y : Int) : PtF ((w.setCell ⟨b, 0, none⟩ (.int .i64 x)).setCell ⟨b, 1, none⟩ (.int .i64 y)) b x y := by
  obtain ⟨⟨h1, h2, h3⟩, h4⟩ := h
  refine ⟨⟨?_, ?_, by simpa [World.setCell] using h3⟩, fun j => (World.frozen?_setCell _ _ _ _).trans ((World.frozen?_setCell _ _ _ _).trans (h4 j))⟩
  · rw [cell_set, if_neg (by omega), cell_set, if_pos ⟨rfl, rfl⟩, h1]; rfl
  · rw [cell_set, if_pos ⟨rfl, rfl⟩, cell_set, if_neg (by omega), h2]; rfl
theorem enters66 : ∀ args w, (callFunc 66 args).run Try.prog w = .ok (.enter 66 args) w := enters_of Try.func66 (by kernel_rfl) rfl
theorem enters67 : ∀ args w, (callFunc 67 args).run Try.prog w = .ok (.enter 67 args) w := enters_of Try.func67 (by kernel_rfl) rfl
def lo3 (k : Bool) (A B C : Int) : Int := if k then mi (mi A B) C else mi A B
def hi3 (k : Bool) (A B C : Int) : Int := if k then ma (ma A B) C else ma A B
theorem mi_self (A B : Int) : mi (mi A B) A = mi A B := by unfold mi; repeat' split
                                                           all_goals omega
theorem ma_self (A B : Int) : ma (ma A B) A = ma A B := by unfold ma; repeat' split
                                                           all_goals omega
def boxV (s : Sg) : Value := .tuple #[Pt (lo3 s.k s.ax s.bx s.cx) (lo3 s.k s.ay s.bz s.cy), Pt (hi3 s.k s.ax s.bx s.cx) (hi3 s.k s.ay s.bz s.cy)]
set_option maxHeartbeats 8000000 in
theorem qu_box (s : Sg) (w : World) :
    Calls Try.prog 40 #[s.v] w fun e w' => e = .returned (boxV s) ∧ Since w w' := by
  have hmf : ∀ (fn : Fn) (first cap : Array Value) (w : World), (Instr.makeFunc fn first cap).run Try.prog w = .ok (.func fn first cap) w := fun _ _ _ _ => rfl
  obtain ⟨cx, hcx⟩ : ∃ c : Int, c = if s.k then s.cx else s.ax := ⟨_, rfl⟩
  obtain ⟨cy, hcy⟩ : ∃ c : Int, c = if s.k then s.cy else s.ay := ⟨_, rfl⟩
  have e1 : lo3 s.k s.ax s.bx s.cx = mi (mi s.ax s.bx) cx := by unfold lo3; rw [hcx]; cases s.k <;> simp [mi_self]
  have e2 : lo3 s.k s.ay s.bz s.cy = mi (mi s.ay s.bz) cy := by unfold lo3; rw [hcy]; cases s.k <;> simp [mi_self]
  have e3 : hi3 s.k s.ax s.bx s.cx = ma (ma s.ax s.bx) cx := by unfold hi3; rw [hcx]; cases s.k <;> simp [ma_self]
  have e4 : hi3 s.k s.ay s.bz s.cy = ma (ma s.ay s.bz) cy := by unfold hi3; rw [hcy]; cases s.k <;> simp [ma_self]
  unfold boxV
  rw [e1, e2, e3, e4]
  have hF := fun (bs bc : Nat) (w : World) (q1 : SegAt w bs s) (q2 : PtAt w bc cx cy) =>
    qu_both 66 #[.pointer (some ⟨bs, 0, none⟩), .pointer (some ⟨bc, 0, none⟩)] _ _ w enters66
      (fun w1 hS => qu_box1 s 71 cx cy s.ax s.bx cx bs bc w1 enters71 (q1.since hS) (q2.since hS) (fun w => qu_axisX _ _ w) (fun w => qu_axisX _ _ w) (fun w => qu_axisX _ _ w))
      (fun w1 hS => qu_box1 s 72 cx cy s.ay s.bz cy bs bc w1 enters72 (q1.since hS) (q2.since hS) (fun w => qu_axisY _ _ w) (fun w => qu_axisY _ _ w) (fun w => qu_axisY _ _ w))
  have hG := fun (bs bc : Nat) (w : World) (q1 : SegAt w bs s) (q2 : PtAt w bc cx cy) =>
    qu_both 67 #[.pointer (some ⟨bs, 0, none⟩), .pointer (some ⟨bc, 0, none⟩)] _ _ w enters67
      (fun w1 hS => qu_box2 s 71 cx cy s.ax s.bx cx bs bc w1 enters71 (q1.since hS) (q2.since hS) (fun w => qu_axisX _ _ w) (fun w => qu_axisX _ _ w) (fun w => qu_axisX _ _ w))
      (fun w1 hS => qu_box2 s 72 cx cy s.ay s.bz cy bs bc w1 enters72 (q1.since hS) (q2.since hS) (fun w => qu_axisY _ _ w) (fun w => qu_axisY _ _ w) (fun w => qu_axisY _ _ w))
  generalize mi (mi s.ax s.bx) cx = lx at *
  generalize mi (mi s.ay s.bz) cy = ly at *
  generalize ma (ma s.ax s.bx) cx = ux at *
  generalize ma (ma s.ay s.bz) cy = uy at *
  have hN := fun w b hb t => seg_new w b hb s t
  unfold Sg.v Pt at *
  have HF := Lib.hid hF
  have HG := Lib.hid hG
  clear hF hG e1 e2 e3 e4
  cases hk : s.k
  all_goals
    simp only [hk, if_true, if_false, Bool.false_eq_true] at hcx hcy
    simp only [hk] at hN
    have HN := Lib.hid hN
    clear hk hN
    subst hcx hcy
    go_enter Try.func40, Try.ntmps40
    go_wp2_with (first | (go_at_call 55; (with_reducible refine Calls.mono (HF.out _ _ _ ((((HN.out w _ rfl _).alloc _).alloc _).alloc _) (pt_new _ _ (by simp) _ _ _)) ?_); rintro e w1 ⟨rfl, hS1⟩; have hX := ((((HN.out w _ rfl _).alloc _).alloc _).alloc _).since hS1; have hP := (pt_new (((w.alloc _).alloc _).alloc _) (w.heap.size + 1 + 1 + 1) (by simp) _ _ _).since hS1; have hY := (((zero2_new (w.alloc _) (w.heap.size + 1) (by simp) _).alloc _).alloc _).since hS1; have hZ := ((zero2_new ((w.alloc _).alloc _) (w.heap.size + 1 + 1) (by simp) _).alloc _).since hS1; have hS : Since w w1 := (by (repeat (first | with_reducible (exact Since.refl _) | with_reducible assumption | with_reducible (refine Since.drew ?_) | with_reducible (refine Since.drewN ?_ _) | with_reducible (refine Since.alloc ?_ _) | (with_reducible (refine Since.setCell ?_ ?_ _); rotate_left; focus (first | (simp; done) | (simp; omega) | omega)) | (with_reducible (refine Since.trans ?_ (by with_reducible assumption)))))); clear hS1; have hYY := hY; obtain ⟨⟨y1, y2, y3⟩, yF⟩ := hYY; have yF0 := yF 0; have yF1 := yF 1; clear yF) | (go_at_call 55; (with_reducible refine Calls.mono (HG.out _ _ _ ((hX.far (by omega) _ _).far (by omega) _ _) ((hP.far (by omega) _ _).far (by omega) _ _)) ?_); rintro e w2 ⟨rfl, hS2⟩; have hY2 := (ptf_set hY _ _).since hS2; have hZ2 := ((hZ.far (show w.heap.size + 1 ≠ w.heap.size + 1 + 1 by omega) _ _).far (show w.heap.size + 1 ≠ w.heap.size + 1 + 1 by omega) _ _).since hS2; have hS3 : Since w w2 := (by (repeat (first | with_reducible (exact Since.refl _) | with_reducible assumption | with_reducible (refine Since.drew ?_) | with_reducible (refine Since.drewN ?_ _) | with_reducible (refine Since.alloc ?_ _) | (with_reducible (refine Since.setCell ?_ ?_ _); rotate_left; focus (first | (simp; done) | (simp; omega) | omega)) | (with_reducible (refine Since.trans ?_ (by with_reducible assumption)))))); clear hS hS2 y1 y2 y3 yF0 yF1 hX hP hY hZ; have hZZ := hZ2; obtain ⟨⟨z1, z2, z3⟩, zF⟩ := hZZ; have zF0 := zF 0; have zF1 := zF 1; clear zF))
    refine wp_named fun w3 hw3 => ?_
    have hZ3 : PtF w3 (w.heap.size + 1 + 1) ux uy := by subst hw3; exact ptf_set hZ2 _ _
    have hY3 : PtF w3 (w.heap.size + 1) lx ly := by subst hw3; exact (hY2.far (by omega) _ _).far (by omega) _ _
    have hS4 : Since w w3 := by subst hw3; (repeat (first | with_reducible (exact Since.refl _) | with_reducible assumption | with_reducible (refine Since.drew ?_) | with_reducible (refine Since.drewN ?_ _) | with_reducible (refine Since.alloc ?_ _) | (with_reducible (refine Since.setCell ?_ ?_ _); rotate_left; focus (first | (simp; done) | (simp; omega) | omega)) | (with_reducible (refine Since.trans ?_ (by with_reducible assumption)))))
    clear hw3 z1 z2 z3 zF0 zF1 hY2 hZ2 hS3
    obtain ⟨⟨z1, z2, z3⟩, zF⟩ := hZ3
    have zF0 := zF 0
    have zF1 := zF 1
    obtain ⟨⟨y1, y2, y3⟩, yF⟩ := hY3
    have yF0 := yF 0
    have yF1 := yF 1
    clear zF yF
    go_region
    all_goals go_wp2
    all_goals refine bodyPost_ret (by simp only [results, Try.results40]; go_simp) rfl ⟨rfl, ?_⟩
    all_goals (repeat (first | with_reducible (exact Since.refl _) | with_reducible assumption | with_reducible (refine Since.drew ?_) | with_reducible (refine Since.drewN ?_ _) | with_reducible (refine Since.alloc ?_ _) | (with_reducible (refine Since.setCell ?_ ?_ _); rotate_left; focus (first | (simp; done) | (simp; omega) | omega)) | (with_reducible (refine Since.trans ?_ (by with_reducible assumption)))))
end Go.Proofs.Ytbbbojhncfdbdaa
