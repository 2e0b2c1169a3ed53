/-
  Layer 13: 'At' whole, walked.
-/
import Derived.Test.YtdbenpncnkfliaaQuB
namespace Go.Proofs.Ytdbenpncnkfliaa
open Go.RowKit
set_option linter.unusedVariables false

theorem SegAt.drewN {w : World} {b : Nat} {s : Sg} (h : SegAt w b s) (k : Nat) : SegAt (w.drewN k) b s := h
theorem OneAt.drewN {w : World} {b : Nat} {v : Value} (h : OneAt w b v) (k : Nat) : OneAt (w.drewN k) b v := h
theorem SegAt.drew {w : World} {b : Nat} {s : Sg} (h : SegAt w b s) : SegAt w.drew b s := h
theorem OneAt.drew {w : World} {b : Nat} {v : Value} (h : OneAt w b v) : OneAt w.drew b v := h
theorem Zero2.drew {w : World} {b : Nat} (h : Zero2 w b) : Zero2 w.drew b := h
theorem Zero2.drewN {w : World} {b : Nat} (h : Zero2 w b) (k : Nat) : Zero2 (w.drewN k) b := h
def argOK (k n : Int) : Bool := decide (0 ≤ n ∧ n ≤ 10 ∧ 0 ≤ k ∧ k ≤ 2 ^ n.toNat)
def atI (s : Sg) (A C B k n : Int) : Int := if s.k then curveI A C B (2 ^ n.toNat - k) k else lineI A B (2 ^ n.toNat - k) k (2 ^ n.toNat)
def atX (s : Sg) (k n : Int) : Int := atI s s.ax s.cx s.bx k n
def atY (s : Sg) (k n : Int) : Int := atI s s.ay s.cy s.bz k n
def atE (s : Sg) (k n : Int) : Int := if argOK k n then (if inR s then 0 else 6) else 2
def atOK (s : Sg) (k n : Int) : Bool := argOK k n && inR s
theorem two_pow {n : Int} (h : 0 ≤ n) (h' : n ≤ 10) : (1 : Int) ≤ 2 ^ n.toNat ∧ (2 : Int) ^ n.toNat ≤ 1024 := by
  have : n.toNat ≤ 10 := by omega
  generalize n.toNat = m at *
  have hm : m = 0 ∨ m = 1 ∨ m = 2 ∨ m = 3 ∨ m = 4 ∨ m = 5 ∨ m = 6 ∨ m = 7 ∨ m = 8 ∨ m = 9 ∨ m = 10 := by omega
  rcases hm with rfl | rfl | rfl | rfl | rfl | rfl | rfl | rfl | rfl | rfl | rfl <;> decide
theorem tny_of {x y : Int} (h : goodB x y = true) : Tny x ∧ Tny y := by
  have := goodB_iff.1 h
  unfold Tny; omega
theorem enters56 : ∀ args w, (callFunc 71 args).run Try.prog w = .ok (.enter 71 args) w := enters_of Try.func71 (by kernel_rfl) rfl

set_option maxHeartbeats 8000000 in
theorem qu_at_bad (s : Sg) (k n : Int) (hk : In64 k) (hn : In64 n) (h : argOK k n = false) (w : World) :
    Calls Try.prog 66 #[s.v, .int .i64 k, .int .i64 n] w fun e w' => e = .returned (.tuple #[Pt 0 0, .int .i64 2]) ∧ Since w w' := by
  unfold argOK at h
  simp only [decide_eq_false_iff_not] at h
  unfold Pt Sg.v
  by_cases h1 : n < 0
  · have d1 : decide (n < 0) = true := decide_eq_true h1
    clear h h1
    go_enter Try.func66, Try.ntmps66
    go_wp2_with fail
    go_quiet (fail)
    go_wp2
    refine bodyPost_ret (by simp only [results, Try.results66]; go_simp) rfl ⟨rfl, ?_⟩
    (repeat (first | with_reducible (exact Since.refl _) | with_reducible assumption | with_reducible (refine Since.drew ?_) | with_reducible (refine Since.drewN ?_ _) | with_reducible (refine Since.alloc ?_ _) | (with_reducible (refine Since.setCell ?_ ?_ _); rotate_left; focus (first | (simp; done) | (simp; omega) | omega)) | (with_reducible (refine Since.trans ?_ (by with_reducible assumption)))))
  · have d1 : decide (n < 0) = false := decide_eq_false h1
    by_cases h2 : 10 < n
    · have d2 : decide (10 < n) = true := decide_eq_true h2
      clear h h1 h2
      go_enter Try.func66, Try.ntmps66
      go_wp2_with fail
      go_quiet (fail)
      go_wp2
      refine bodyPost_ret (by simp only [results, Try.results66]; go_simp) rfl ⟨rfl, ?_⟩
      (repeat (first | with_reducible (exact Since.refl _) | with_reducible assumption | with_reducible (refine Since.drew ?_) | with_reducible (refine Since.drewN ?_ _) | with_reducible (refine Since.alloc ?_ _) | (with_reducible (refine Since.setCell ?_ ?_ _); rotate_left; focus (first | (simp; done) | (simp; omega) | omega)) | (with_reducible (refine Since.trans ?_ (by with_reducible assumption)))))
    · have d2 : decide (10 < n) = false := decide_eq_false h2
      by_cases h3 : k < 0
      · have d3 : decide (k < 0) = true := decide_eq_true h3
        clear h h1 h2 h3
        go_enter Try.func66, Try.ntmps66
        go_wp2_with fail
        go_quiet (fail)
        go_wp2
        refine bodyPost_ret (by simp only [results, Try.results66]; go_simp) rfl ⟨rfl, ?_⟩
        (repeat (first | with_reducible (exact Since.refl _) | with_reducible assumption | with_reducible (refine Since.drew ?_) | with_reducible (refine Since.drewN ?_ _) | with_reducible (refine Since.alloc ?_ _) | (with_reducible (refine Since.setCell ?_ ?_ _); rotate_left; focus (first | (simp; done) | (simp; omega) | omega)) | (with_reducible (refine Since.trans ?_ (by with_reducible assumption)))))
      · have d3 : decide (k < 0) = false := decide_eq_false h3
        have hp := two_pow (n := n) (by omega) (by omega)
        have h4 : (2 : Int) ^ n.toNat < k := by omega
        have hm : min n.toNat 64 = n.toNat := by omega
        have hn0 : ¬ n < 0 := by omega
        generalize hP : (2 : Int) ^ n.toNat = p at *
        have w1 : IntKind.i64.wrap p = p := IntWalk.i64_in _ (by omega)
        have d4 : decide (p < k) = true := decide_eq_true h4
        clear h h1 h2 h3 h4 hp
        go_enter Try.func66, Try.ntmps66
        go_wp2_with fail
        go_quiet (fail)
        go_wp2
        refine bodyPost_ret (by simp only [results, Try.results66]; go_simp) rfl ⟨rfl, ?_⟩
        (repeat (first | with_reducible (exact Since.refl _) | with_reducible assumption | with_reducible (refine Since.drew ?_) | with_reducible (refine Since.drewN ?_ _) | with_reducible (refine Since.alloc ?_ _) | (with_reducible (refine Since.setCell ?_ ?_ _); rotate_left; focus (first | (simp; done) | (simp; omega) | omega)) | (with_reducible (refine Since.trans ?_ (by with_reducible assumption)))))

set_option maxHeartbeats 8000000 in
theorem qu_at_far (s : Sg) (hs : s.wf) (k n : Int) (hk : In64 k) (hn : In64 n) (h : argOK k n = true) (hr : inR s = false) (w : World) :
    Calls Try.prog 66 #[s.v, .int .i64 k, .int .i64 n] w fun e w' => e = .returned (.tuple #[Pt 0 0, .int .i64 6]) ∧ Since w w' := by
  have hc := fun w => qu_inRange s hs w
  rw [hr] at hc
  have HC := Lib.hid hc
  clear hc hr hs
  unfold argOK at h
  simp only [decide_eq_true_eq] at h
  obtain ⟨h1, h2, h3, h4⟩ := h
  have d1 : decide (n < 0) = false := decide_eq_false (by omega)
  have d2 : decide (10 < n) = false := decide_eq_false (by omega)
  have d3 : decide (k < 0) = false := decide_eq_false (by omega)
  have hp := two_pow h1 h2
  have hm : min n.toNat 64 = n.toNat := by omega
  have hn0 : ¬ n < 0 := by omega
  generalize hP : (2 : Int) ^ n.toNat = p at *
  have w1 : IntKind.i64.wrap p = p := IntWalk.i64_in _ (by omega)
  have d4 : decide (p < k) = false := decide_eq_false (by omega)
  clear h1 h2 h3 h4 hp
  unfold Pt Sg.v at *
  go_enter Try.func66, Try.ntmps66
  go_wp2_with fail
  go_quiet (fail)
  go_wp2_with (go_at_call 69; (with_reducible refine (HC.out _).mono ?_); rintro e w1 ⟨rfl, hS1⟩; have hZ := ((zero2_new _ (w.heap.size + 1 + 1 + 1) (by simp) _).drewN _).since hS1; have hS : Since w w1 := (by (repeat (first | with_reducible (exact Since.refl _) | with_reducible assumption | with_reducible (refine Since.drew ?_) | with_reducible (refine Since.drewN ?_ _) | with_reducible (refine Since.alloc ?_ _) | (with_reducible (refine Since.setCell ?_ ?_ _); rotate_left; focus (first | (simp; done) | (simp; omega) | omega)) | (with_reducible (refine Since.trans ?_ (by with_reducible assumption)))))); clear hS1; obtain ⟨⟨z1, z2, z3⟩, zF⟩ := hZ; have zF0 := zF 0; have zF1 := zF 1; clear zF)
  refine bodyPost_ret (by simp only [results, Try.results66]; go_simp) rfl ⟨rfl, ?_⟩
  (repeat (first | with_reducible (exact Since.refl _) | with_reducible assumption | with_reducible (refine Since.drew ?_) | with_reducible (refine Since.drewN ?_ _) | with_reducible (refine Since.alloc ?_ _) | (with_reducible (refine Since.setCell ?_ ?_ _); rotate_left; focus (first | (simp; done) | (simp; omega) | omega)) | (with_reducible (refine Since.trans ?_ (by with_reducible assumption)))))

set_option maxHeartbeats 8000000 in
theorem qu_at_ok (s : Sg) (hs : s.wf) (k n : Int) (hk : In64 k) (hn : In64 n) (h : argOK k n = true) (hr : inR s = true) (w : World) :
    Calls Try.prog 66 #[s.v, .int .i64 k, .int .i64 n] w fun e w' => e = .returned (.tuple #[Pt (atX s k n) (atY s k n), .int .i64 0]) ∧ Since w w' := by
  have hc := fun w => qu_inRange s hs w
  rw [hr] at hc
  have HC := Lib.hid hc
  clear hc
  unfold argOK at h
  simp only [decide_eq_true_eq] at h
  obtain ⟨h1, h2, h3, h4⟩ := h
  have d1 : decide (n < 0) = false := decide_eq_false (by omega)
  have d2 : decide (10 < n) = false := decide_eq_false (by omega)
  have d3 : decide (k < 0) = false := decide_eq_false (by omega)
  have hp := two_pow h1 h2
  have hm : min n.toNat 64 = n.toNat := by omega
  have hn0 : ¬ n < 0 := by omega
  unfold inR at hr
  simp only [Bool.and_eq_true, Bool.or_eq_true, Bool.not_eq_true'] at hr
  obtain ⟨⟨r1, r2⟩, r3⟩ := hr
  obtain ⟨t1, t2⟩ := tny_of r1
  obtain ⟨t3, t4⟩ := tny_of r2
  have t5 : s.k = true → Tny s.cx := fun e => by rcases r3 with r | r; (rw [e] at r; cases r); exact (tny_of r).1
  have t6 : s.k = true → Tny s.cy := fun e => by rcases r3 with r | r; (rw [e] at r; cases r); exact (tny_of r).2
  unfold atX atY atI
  generalize hP : (2 : Int) ^ n.toNat = p at *
  have w1 : IntKind.i64.wrap p = p := IntWalk.i64_in _ (by omega)
  have w2 : IntKind.i64.wrap (p - k) = p - k := IntWalk.i64_in _ (by omega)
  have d4 : decide (p < k) = false := decide_eq_false (by omega)
  have hF := fun (bs bl bk bn : Nat) (w : World) (q1 : SegAt w bs s) (q2 : OneAt w bl (.int .i64 (p - k))) (q3 : OneAt w bk (.int .i64 k)) (q4 : OneAt w bn (.int .i64 n)) =>
    qu_both 71 #[.pointer (some ⟨bs, 0, none⟩), .pointer (some ⟨bl, 0, none⟩), .pointer (some ⟨bk, 0, none⟩), .pointer (some ⟨bn, 0, none⟩)] _ _ w enters56
      (fun w1 hS => qu_at1 s 72 s.ax s.cx s.bx (p - k) k n p bs bl bk bn w1 enters71 (q1.since hS) (q2.since hS) (q3.since hS) (q4.since hS) (fun w => qu_axisX _ _ w) (fun w => qu_axisX _ _ w) (fun w => qu_axisX _ _ w) t1 t3 t5 (by omega) h3 h1 h2 (by omega) hP.symm hp.2)
      (fun w1 hS => qu_at1 s 73 s.ay s.cy s.bz (p - k) k n p bs bl bk bn w1 enters72 (q1.since hS) (q2.since hS) (q3.since hS) (q4.since hS) (fun w => qu_axisY _ _ w) (fun w => qu_axisY _ _ w) (fun w => qu_axisY _ _ w) t2 t4 t6 (by omega) h3 h1 h2 (by omega) hP.symm hp.2)
  generalize (if s.k = true then curveI s.ax s.cx s.bx (p - k) k else lineI s.ax s.bx (p - k) k p) = X at *
  generalize (if s.k = true then curveI s.ay s.cy s.bz (p - k) k else lineI s.ay s.bz (p - k) k p) = Y at *
  have HF := Lib.hid hF
  have hmf : ∀ (fn : Fn) (first cap : Array Value) (w : World), (Instr.makeFunc fn first cap).run Try.prog w = .ok (.func fn first cap) w := fun _ _ _ _ => rfl
  clear h1 h2 h3 h4 hp hF t1 t2 t3 t4 t5 t6 r1 r2 r3 hs
  unfold Pt Sg.v at *
  go_enter Try.func66, Try.ntmps66
  go_wp2_with fail
  go_quiet (fail)
  go_wp2_with (go_at_call 69; (with_reducible refine (HC.out _).mono ?_); rintro e w1 ⟨rfl, hS1⟩; have hX := (((((seg_new w _ rfl s _).alloc _).alloc _).alloc _).drewN _).since hS1; have hK := ((((one_new _ (w.heap.size + 1) (by simp) (.int .i64 k) _).alloc _).alloc _).drewN _).since hS1; have hN := (((one_new _ (w.heap.size + 1 + 1) (by simp) (.int .i64 n) _).alloc _).drewN _).since hS1; have hZ := ((zero2_new _ (w.heap.size + 1 + 1 + 1) (by simp) _).drewN _).since hS1; have hS : Since w w1 := (by (repeat (first | with_reducible (exact Since.refl _) | with_reducible assumption | with_reducible (refine Since.drew ?_) | with_reducible (refine Since.drewN ?_ _) | with_reducible (refine Since.alloc ?_ _) | (with_reducible (refine Since.setCell ?_ ?_ _); rotate_left; focus (first | (simp; done) | (simp; omega) | omega)) | (with_reducible (refine Since.trans ?_ (by with_reducible assumption)))))); clear hS1; obtain ⟨k1, k2⟩ := hK; obtain ⟨n1, n2⟩ := hN; clear HC)
  have hX5 := (hX.alloc (.cells #[.int .i64 (p - k)] 3)).drew
  have hZ5 := (hZ.alloc (.cells #[.int .i64 (p - k)] 3)).drew
  have hK5 := (OneAt.alloc ⟨k1, k2⟩ (.cells #[.int .i64 (p - k)] 3)).drew
  have hN5 := (OneAt.alloc ⟨n1, n2⟩ (.cells #[.int .i64 (p - k)] 3)).drew
  have hL5 := (one_new w1 _ rfl (.int .i64 (p - k)) 3).drew
  have hT5 := (hS.alloc (.cells #[.int .i64 (p - k)] 3)).drew
  clear hX hZ hS
  go_region
  all_goals
    clear k1 k2 n1 n2
    go_wp2_with (go_at_call 67; (with_reducible refine (HF.out _ _ _ _ _ hX5 hL5 hK5 hN5).mono ?_); rintro e w6 ⟨rfl, hS6⟩; have hZ6 := hZ5.since hS6; have hT6 := hT5.trans hS6; obtain ⟨⟨z1, z2, z3⟩, zF⟩ := hZ6; have zF0 := zF 0; have zF1 := zF 1; clear zF)
    refine bodyPost_ret (by simp only [results, Try.results66]; go_simp) rfl ⟨rfl, ?_⟩
    (repeat (first | with_reducible (exact Since.refl _) | with_reducible assumption | with_reducible (refine Since.drew ?_) | with_reducible (refine Since.drewN ?_ _) | with_reducible (refine Since.alloc ?_ _) | (with_reducible (refine Since.setCell ?_ ?_ _); rotate_left; focus (first | (simp; done) | (simp; omega) | omega)) | (with_reducible (refine Since.trans ?_ (by with_reducible assumption)))))
end Go.Proofs.Ytdbenpncnkfliaa
