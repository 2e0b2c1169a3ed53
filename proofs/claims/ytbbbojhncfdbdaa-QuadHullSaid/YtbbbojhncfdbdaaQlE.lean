/-
  Layer 13: 'apart', walked.
-/
import Derived.Test.YtbbbojhncfdbdaaQlD
namespace Go.Proofs.Ytbbbojhncfdbdaa
open Go.RowKit
set_option linter.unusedVariables false

theorem arg_mk {k n : Int} (h1 : 0 ≤ n) (h2 : n ≤ 10) (h3 : 0 ≤ k) (h4 : k ≤ 2 ^ n.toNat) : argOK k n = true := by unfold argOK; simp; omega
theorem ok_mk {s : Sg} {k n : Int} (hr : inR s = true) (h1 : 0 ≤ n) (h2 : n ≤ 10) (h3 : 0 ≤ k) (h4 : k ≤ 2 ^ n.toNat) : atOK s k n = true := by unfold atOK; rw [arg_mk h1 h2 h3 h4, hr]; rfl
def absI (x : Int) : Int := if x < 0 then -x else x
theorem abs_ben (a c b : Int) : absI (-(a - 2 * c + b)) = ben a c b := by unfold absI ben; split <;> split <;> omega
theorem max_ma (a b : Int) : max a b = ma a b := by unfold ma; split <;> omega
set_option maxRecDepth 100000 in
set_option maxHeartbeats 8000000 in
theorem law_apart (s : Sg) (hs : s.wf) (hr : inR s = true) (k n : Int) (h0 : 0 ≤ n) (h9 : n ≤ 9) (hk0 : 0 ≤ k) (hk1 : k + 1 ≤ 2 ^ n.toNat) (w : World) :
    Calls Try.prog 47 #[s.v, .int .i64 k, .int .i64 n] w fun e w' => e = .returned (.int .i64 (bendI s)) ∧ Since w w' := by
  have hpow := two_pow h0 (by omega)
  have hpow2 : (2 : Int) ^ (n + 1).toNat = 2 ^ n.toNat * 2 := by rw [show (n + 1).toNat = n.toNat + 1 by omega, Int.pow_succ]
  have o1 := ok_mk (k := k) (n := n) hr h0 (by omega) hk0 (by omega)
  have o2 := ok_mk (k := k + 1) (n := n) hr h0 (by omega) (by omega) hk1
  have o3 := ok_mk (k := 2 * k + 1) (n := n + 1) hr (by omega) (by omega) (by omega) (by rw [hpow2]; omega)
  have hA := fun w => qu_at_yes s hs k n (by unfold In64; omega) (by unfold In64; omega) o1 w
  have hB := fun w => qu_at_yes s hs (k + 1) n (by unfold In64; omega) (by unfold In64; omega) o2 w
  have hC := fun w => qu_at_yes s hs (2 * k + 1) (n + 1) (by unfold In64; omega) (by unfold In64; omega) o3 w
  have i1 := at_in o1; have i2 := at_in o2; have i3 := at_in o3
  have m1 := at_mid s s.ax s.cx s.bx k n h0 hk0 hk1
  have m2 := at_mid s s.ay s.cy s.bz k n h0 hk0 hk1
  have hM : ma (absI (atX s (2 * k + 1) (n + 1) - 2 * atX s k n - 2 * atX s (k + 1) n)) (absI (atY s (2 * k + 1) (n + 1) - 2 * atY s k n - 2 * atY s (k + 1) n)) = bendI s := by
    unfold atX atY bendI
    rw [m1, m2, hr]
    cases s.k with
    | false => rfl
    | true => simp only [if_true, Bool.and_self, abs_ben, max_ma]
  have w1 : IntKind.i64.wrap (k + 1) = k + 1 := IntWalk.i64_in _ (by omega)
  have w2 : IntKind.i64.wrap (n + 1) = n + 1 := IntWalk.i64_in _ (by omega)
  have w3 : IntKind.i64.wrap (2 * k) = 2 * k := IntWalk.i64_in _ (by omega)
  have w4 : IntKind.i64.wrap (2 * k + 1) = 2 * k + 1 := IntWalk.i64_in _ (by omega)
  generalize atX s k n = X1 at *
  generalize atY s k n = Y1 at *
  generalize atX s (k + 1) n = X2 at *
  generalize atY s (k + 1) n = Y2 at *
  generalize atX s (2 * k + 1) (n + 1) = X3 at *
  generalize atY s (2 * k + 1) (n + 1) = Y3 at *
  generalize bendI s = M at *
  have u1 : IntKind.i64.wrap (2 * X1) = 2 * X1 := IntWalk.i64_in _ (by omega)
  have u2 : IntKind.i64.wrap (X3 - 2 * X1) = X3 - 2 * X1 := IntWalk.i64_in _ (by omega)
  have u3 : IntKind.i64.wrap (2 * X2) = 2 * X2 := IntWalk.i64_in _ (by omega)
  have u4 : IntKind.i64.wrap (X3 - 2 * X1 - 2 * X2) = X3 - 2 * X1 - 2 * X2 := IntWalk.i64_in _ (by omega)
  have v1 : IntKind.i64.wrap (2 * Y1) = 2 * Y1 := IntWalk.i64_in _ (by omega)
  have v2 : IntKind.i64.wrap (Y3 - 2 * Y1) = Y3 - 2 * Y1 := IntWalk.i64_in _ (by omega)
  have v3 : IntKind.i64.wrap (2 * Y2) = 2 * Y2 := IntWalk.i64_in _ (by omega)
  have v4 : IntKind.i64.wrap (Y3 - 2 * Y1 - 2 * Y2) = Y3 - 2 * Y1 - 2 * Y2 := IntWalk.i64_in _ (by omega)
  have hD := fun w => rq_abs (X3 - 2 * X1 - 2 * X2) (by omega) (by omega) w
  have hE := fun w => rq_abs (Y3 - 2 * Y1 - 2 * Y2) (by omega) (by omega) w
  change ∀ w, Calls Try.prog _ _ w fun e w' => e = .returned (.int .i64 (absI _)) ∧ Since w w' at hD
  change ∀ w, Calls Try.prog _ _ w fun e w' => e = .returned (.int .i64 (absI _)) ∧ Since w w' at hE
  generalize absI (X3 - 2 * X1 - 2 * X2) = U at *
  generalize absI (Y3 - 2 * Y1 - 2 * Y2) = V at *
  have hm2 : ∀ w : World, (Builtin.max_ #[3, 3] 3 #[.int .i64 U, .int .i64 V]).run Try.prog w = .ok (.int .i64 (ma U V)) w := fun _ => rfl
  rw [hM] at hm2
  have hN := fun w b hb t => seg_new w b hb s t
  unfold Sg.v Pt at *
  have HN := Lib.hid hN
  have HA := Lib.hid hA
  have HB := Lib.hid hB
  have HC := Lib.hid hC
  have HD := Lib.hid hD
  have HE := Lib.hid hE
  clear hN hA hB hC hD hE m1 m2 i1 i2 i3 o1 o2 o3 hM hpow hpow2 hr hs h0 h9 hk0 hk1
  go_enter Try.func47, Try.ntmps47
  go_wp2_with (first | (go_at_call 34; (with_reducible refine Calls.mono (HA.out _) ?_); rintro e w1 ⟨rfl, hS1⟩; have ksa := ((HN.out w _ rfl _).since hS1).alloc (.cells #[.int .i64 X1, .int .i64 Y1] 23); have kT0 : Since w w1 := (by (repeat (first | with_reducible (exact Since.refl _) | with_reducible assumption | with_reducible (refine Since.drew ?_) | with_reducible (refine Since.drewN ?_ _) | with_reducible (refine Since.alloc ?_ _) | (with_reducible (refine Since.setCell ?_ ?_ _); rotate_left; focus (first | (simp; done) | (simp; omega) | omega)) | (with_reducible (refine Since.trans ?_ (by with_reducible assumption)))))); have kT := (kT0).alloc (.cells #[.int .i64 X1, .int .i64 Y1] 23); have kpa := pt_new w1 _ rfl X1 Y1 23; have sa := ksa; clear ksa; have pa := kpa; clear kpa; have hT := kT; clear kT; have saz := sa; obtain ⟨sa_1, sa_2, sa_3, sa_4, sa_5, sa_6, sa_7, sa_8⟩ := saz; (try simp only at sa_1 sa_2 sa_3 sa_4 sa_5 sa_6 sa_7); have paz := pa; obtain ⟨pa_1, pa_2, pa_3⟩ := paz) | (go_at_call 34; (with_reducible refine Calls.mono (HB.out _) ?_); rintro e w2 ⟨rfl, hS2⟩; have ksa := (sa.since hS2).alloc (.cells #[.int .i64 X2, .int .i64 Y2] 23); have kpa := (pa.since hS2).alloc (.cells #[.int .i64 X2, .int .i64 Y2] 23); have kT := (hT.trans hS2).alloc (.cells #[.int .i64 X2, .int .i64 Y2] 23); clear hS2 hT sa_1 sa_2 sa_3 sa_4 sa_5 sa_6 sa_7 sa_8 sa pa_1 pa_2 pa_3 pa; have kpb := pt_new w2 _ rfl X2 Y2 23; have sa := ksa; clear ksa; have pa := kpa; clear kpa; have pb := kpb; clear kpb; have hT := kT; clear kT; have saz := sa; obtain ⟨sa_1, sa_2, sa_3, sa_4, sa_5, sa_6, sa_7, sa_8⟩ := saz; (try simp only at sa_1 sa_2 sa_3 sa_4 sa_5 sa_6 sa_7); have paz := pa; obtain ⟨pa_1, pa_2, pa_3⟩ := paz; have pbz := pb; obtain ⟨pb_1, pb_2, pb_3⟩ := pbz) | (go_at_call 34; (with_reducible refine Calls.mono (HC.out _) ?_); rintro e w3 ⟨rfl, hS3⟩; have ksa := (sa.since hS3).alloc (.cells #[.int .i64 X3, .int .i64 Y3] 23); have kpa := (pa.since hS3).alloc (.cells #[.int .i64 X3, .int .i64 Y3] 23); have kpb := (pb.since hS3).alloc (.cells #[.int .i64 X3, .int .i64 Y3] 23); have kT := (hT.trans hS3).alloc (.cells #[.int .i64 X3, .int .i64 Y3] 23); clear hS3 hT sa_1 sa_2 sa_3 sa_4 sa_5 sa_6 sa_7 sa_8 sa pa_1 pa_2 pa_3 pa pb_1 pb_2 pb_3 pb; have kpc := pt_new w3 _ rfl X3 Y3 23; have sa := ksa; clear ksa; have pa := kpa; clear kpa; have pb := kpb; clear kpb; have pc := kpc; clear kpc; have hT := kT; clear kT; have saz := sa; obtain ⟨sa_1, sa_2, sa_3, sa_4, sa_5, sa_6, sa_7, sa_8⟩ := saz; (try simp only at sa_1 sa_2 sa_3 sa_4 sa_5 sa_6 sa_7); have paz := pa; obtain ⟨pa_1, pa_2, pa_3⟩ := paz; have pbz := pb; obtain ⟨pb_1, pb_2, pb_3⟩ := pbz; have pcz := pc; obtain ⟨pc_1, pc_2, pc_3⟩ := pcz))
  refine wp_named fun w9 hw9 => ?_
  have kT : Since w w9 := by subst hw9; exact hT
  have kpa := pa; have kpb := pb; have kpc := pc
  rw [← hw9] at kpa kpb kpc
  clear hw9 hT sa pa pb pc sa_1 sa_2 sa_3 sa_4 sa_5 sa_6 sa_7 sa_8 pa_1 pa_2 pa_3 pb_1 pb_2 pb_3 pc_1 pc_2 pc_3
  obtain ⟨a1, a2, a3⟩ := kpa
  obtain ⟨b1, b2, b3⟩ := kpb
  obtain ⟨c1, c2, c3⟩ := kpc
  (refine wp_named fun wr1 hwr1 => ?_; go_region_held3 (fun w' => (∀ b o, b < wr1.heap.size → w'.cell? ⟨b, o, none⟩ = wr1.cell? ⟨b, o, none⟩) ∧ (∀ b o, b < wr1.heap.size → w'.frozen? ⟨b, o, none⟩ = wr1.frozen? ⟨b, o, none⟩) ∧ (∀ k, k < wr1.heap.size → k < w'.heap.size) ∧ Below wr1.heap.size wr1 w') ((subst hwr1; (repeat (with_reducible (refine since_put ?_ ?_ _); rotate_left; focus (first | (simp; done) | (simp; omega) | omega))); first | assumption | (refine since_step (by assumption) ?_; first | assumption | ((repeat (first | with_reducible (exact Since.refl _) | with_reducible assumption | with_reducible (refine Since.drew ?_) | with_reducible (refine Since.drewN ?_ _) | with_reducible (refine Since.alloc ?_ _) | (with_reducible (refine Since.setCell ?_ ?_ _); rotate_left; focus (first | (simp; done) | (simp; omega) | omega)))); done)) | (refine since_step (Since.refl _) ?_; first | assumption | ((repeat (first | with_reducible (exact Since.refl _) | with_reducible assumption | with_reducible (refine Since.drew ?_) | with_reducible (refine Since.drewN ?_ _) | with_reducible (refine Since.alloc ?_ _) | (with_reducible (refine Since.setCell ?_ ?_ _); rotate_left; focus (first | (simp; done) | (simp; omega) | omega)) | (with_reducible (refine Since.trans ?_ (by with_reducible assumption))))); done)))) (first | (go_at_call 69; (with_reducible refine (HD.out _).mono ?_); rintro e w1 ⟨rfl, hS⟩; have hZ := hS.below.size; (try simp at hZ)) | (go_at_call 69; (with_reducible refine (HE.out _).mono ?_); rintro e w1 ⟨rfl, hS⟩; have hZ := hS.below.size; (try simp at hZ))); all_goals (rename_i hHeld; have hR1 : Since wr1 _ := hHeld; obtain ⟨hcR1, hfR1, hzR1, hbR1⟩ := hHeld; subst hwr1))
  all_goals go_wp2
  all_goals go_ret
  all_goals exact ⟨by first | rfl | simp, by (repeat (first | with_reducible (exact Since.refl _) | with_reducible assumption | with_reducible (refine Since.drew ?_) | with_reducible (refine Since.drewN ?_ _) | with_reducible (refine Since.alloc ?_ _) | (with_reducible (refine Since.setCell ?_ ?_ _); rotate_left; focus (first | (simp; done) | (simp; omega) | omega)) | (with_reducible (refine Since.trans ?_ (by with_reducible assumption)))))⟩
end Go.Proofs.Ytbbbojhncfdbdaa
