/-
  Layer 13: the law QuadNear, walked.
-/
import Derived.Test.YtbbbojhncfdbdaaQlE
namespace Go.Proofs.Ytbbbojhncfdbdaa
open Go.RowKit
set_option linter.unusedVariables false

set_option maxRecDepth 100000 in
set_option maxHeartbeats 8000000 in
theorem near0_of (x : Pc) (s : Sg) (K0 N P i Q B : Int) (hk0 : 0 ≤ K0) (hk1 : K0 ≤ 65535) (hm0 : 0 ≤ N ∧ N ≤ 9) (hP : (2 : Int) ^ N.toNat = P) (hP1 : 1 ≤ P ∧ P ≤ 1024) (hi : i = K0 % P) (hQ : (2 : Int) ^ (2 * N).toNat = Q) (hQ1 : 1 ≤ Q ∧ Q ≤ 1048576) (hB : B ≤ 64 * Q) (w : World)
    (hz : (N == 0) = true)
    (hG : ∀ w, Calls Try.prog 46 #[x.v] w fun e w' => e = .returned s.v ∧ Since w w')
    (hS : ∀ w, Calls Try.prog 44 #[s.v] w fun e w' => e = .returned (.int .i64 N) ∧ Since w w')
    (h1 : ∀ w, Calls Try.prog 47 #[s.v, .int .i64 i, .int .i64 N] w fun e w' => e = .returned (.int .i64 B) ∧ Since w w') :
    Calls Try.prog 14 #[x.v, .int .u16 K0] w fun e w' => e = .returned (.bool true) ∧ Since w w' := by
  have i0 : 0 ≤ i := by rw [hi]; exact Int.emod_nonneg _ (by omega)
  have i1 : i < P := by rw [hi]; exact Int.emod_lt_of_pos _ (by omega)
  have e4 : IntKind.u64.wrap N = N := by rw [IntKind.wrap_u64]; omega
  have e5 : min N.toNat 64 = N.toNat := by omega
  have e6 : IntKind.i64.wrap P = P := IntWalk.i64_in _ (by omega)
  have e8 : IntKind.i64.wrap K0 = K0 := IntWalk.i64_in _ (by omega)
  have e9 : K0.tmod P = i := by rw [Int.tmod_eq_emod_of_nonneg hk0]; exact hi.symm
  have e10 : ¬ P = 0 := by omega
  have f1 : IntKind.i64.wrap (2 * N) = 2 * N := IntWalk.i64_in _ (by omega)
  have f2 : IntKind.u64.wrap (2 * N) = 2 * N := by rw [IntKind.wrap_u64]; omega
  have f3 : min (2 * N).toNat 64 = (2 * N).toNat := by omega
  have f4 : IntKind.i64.wrap (64 * Q) = 64 * Q := IntWalk.i64_in _ (by omega)
  have f5 : decide (B ≤ 64 * Q) = true := decide_eq_true hB
  have hm0' : ¬ N < 0 := by omega
  have hm1' : ¬ 2 * N < 0 := by omega
  have hN := fun w b hb t => pc_new w b hb x t
  obtain ⟨ax, ay, cx, cy, bx, bz, kk⟩ := s
  unfold Sg.v Pc.v at *
  have HN := Lib.hid hN
  have HG := Lib.hid hG
  have HS := Lib.hid hS
  have H1 := Lib.hid h1
  clear hN hG hS h1 hi hB
  go_enter Try.func14, Try.ntmps14
  go_wp2_with (first | (go_at_call 33; (with_reducible refine Calls.mono (alive13 _) ?_); rintro e w1 ⟨rfl, hS1⟩; have kxa := (HN.out w _ rfl _).since hS1; have kT0 : Since w w1 := (by (repeat (first | with_reducible (exact Since.refl _) | with_reducible assumption | with_reducible (refine Since.drew ?_) | with_reducible (refine Since.drewN ?_ _) | with_reducible (refine Since.alloc ?_ _) | (with_reducible (refine Since.setCell ?_ ?_ _); rotate_left; focus (first | (simp; done) | (simp; omega) | omega)) | (with_reducible (refine Since.trans ?_ (by with_reducible assumption)))))); have kT := kT0; have xa := kxa; clear kxa; have hT := kT; clear kT; have xaz := xa; obtain ⟨xa_1, xa_2, xa_3, xa_4, xa_5, xa_6, xa_7, xa_8⟩ := xaz) | (go_at_call 46; (with_reducible refine Calls.mono (HG.out _) ?_); rintro e w2 ⟨rfl, hS2⟩; have kxa := (xa.since hS2).alloc (.cells #[.int .i64 ax, .int .i64 ay, .int .i64 cx, .int .i64 cy, .int .i64 bx, .int .i64 bz, .bool kk] 57); have kT := (hT.trans hS2).alloc (.cells #[.int .i64 ax, .int .i64 ay, .int .i64 cx, .int .i64 cy, .int .i64 bx, .int .i64 bz, .bool kk] 57); clear hS2 hT xa_1 xa_2 xa_3 xa_4 xa_5 xa_6 xa_7 xa_8 xa; have ksa := seg_new w2 _ rfl ⟨ax, ay, cx, cy, bx, bz, kk⟩ 57; have xa := kxa; clear kxa; have sa := ksa; clear ksa; have hT := kT; clear kT; have xaz := xa; obtain ⟨xa_1, xa_2, xa_3, xa_4, xa_5, xa_6, xa_7, xa_8⟩ := xaz; have saz := sa; obtain ⟨sa_1, sa_2, sa_3, sa_4, sa_5, sa_6, sa_7, sa_8⟩ := saz; (try simp only at sa_1 sa_2 sa_3 sa_4 sa_5 sa_6 sa_7)) | (go_at_call 44; (with_reducible refine Calls.mono (HS.out _) ?_); rintro e w3 ⟨rfl, hS3⟩; have kxa := xa.since hS3; have ksa := sa.since hS3; have kT := hT.trans hS3; clear hS3 hT xa_1 xa_2 xa_3 xa_4 xa_5 xa_6 xa_7 xa_8 xa sa_1 sa_2 sa_3 sa_4 sa_5 sa_6 sa_7 sa_8 sa; have xa := kxa; clear kxa; have sa := ksa; clear ksa; have hT := kT; clear kT; have xaz := xa; obtain ⟨xa_1, xa_2, xa_3, xa_4, xa_5, xa_6, xa_7, xa_8⟩ := xaz; have saz := sa; obtain ⟨sa_1, sa_2, sa_3, sa_4, sa_5, sa_6, sa_7, sa_8⟩ := saz; (try simp only at sa_1 sa_2 sa_3 sa_4 sa_5 sa_6 sa_7)) | (go_at_call 47; (with_reducible refine Calls.mono (H1.out _) ?_); rintro e w4 ⟨rfl, hS4⟩; have kxa := xa.since hS4; have ksa := sa.since hS4; have kT := hT.trans hS4; clear hS4 hT xa_1 xa_2 xa_3 xa_4 xa_5 xa_6 xa_7 xa_8 xa sa_1 sa_2 sa_3 sa_4 sa_5 sa_6 sa_7 sa_8 sa; have xa := kxa; clear kxa; have sa := ksa; clear ksa; have hT := kT; clear kT; have xaz := xa; obtain ⟨xa_1, xa_2, xa_3, xa_4, xa_5, xa_6, xa_7, xa_8⟩ := xaz; have saz := sa; obtain ⟨sa_1, sa_2, sa_3, sa_4, sa_5, sa_6, sa_7, sa_8⟩ := saz; (try simp only at sa_1 sa_2 sa_3 sa_4 sa_5 sa_6 sa_7)))
  go_ret
  exact ⟨by first | rfl | simp, hT⟩
set_option maxRecDepth 100000 in
set_option maxHeartbeats 8000000 in
theorem near1_of (x : Pc) (s : Sg) (K0 N P i Q B : Int) (hk0 : 0 ≤ K0) (hk1 : K0 ≤ 65535) (hm0 : 0 ≤ N ∧ N ≤ 9) (hP : (2 : Int) ^ N.toNat = P) (hP1 : 1 ≤ P ∧ P ≤ 1024) (hi : i = K0 % P) (hQ : (2 : Int) ^ (2 * N).toNat = Q) (hQ1 : 1 ≤ Q ∧ Q ≤ 1048576) (hB : B ≤ 64 * Q) (w : World)
    (hz : (N == 0) = false) (Q2 : Int) (hQ2 : (2 : Int) ^ (2 * N - 2).toNat = Q2) (hQ3 : 1 ≤ Q2 ∧ Q2 ≤ 1048576) (hB2 : 64 * Q2 < B)
    (h2 : ∀ w, Calls Try.prog 47 #[s.v, .int .i64 (i / 2), .int .i64 (N - 1)] w fun e w' => e = .returned (.int .i64 B) ∧ Since w w')
    (hG : ∀ w, Calls Try.prog 46 #[x.v] w fun e w' => e = .returned s.v ∧ Since w w')
    (hS : ∀ w, Calls Try.prog 44 #[s.v] w fun e w' => e = .returned (.int .i64 N) ∧ Since w w')
    (h1 : ∀ w, Calls Try.prog 47 #[s.v, .int .i64 i, .int .i64 N] w fun e w' => e = .returned (.int .i64 B) ∧ Since w w') :
    Calls Try.prog 14 #[x.v, .int .u16 K0] w fun e w' => e = .returned (.bool true) ∧ Since w w' := by
  have i0 : 0 ≤ i := by rw [hi]; exact Int.emod_nonneg _ (by omega)
  have i1 : i < P := by rw [hi]; exact Int.emod_lt_of_pos _ (by omega)
  have e4 : IntKind.u64.wrap N = N := by rw [IntKind.wrap_u64]; omega
  have e5 : min N.toNat 64 = N.toNat := by omega
  have e6 : IntKind.i64.wrap P = P := IntWalk.i64_in _ (by omega)
  have e8 : IntKind.i64.wrap K0 = K0 := IntWalk.i64_in _ (by omega)
  have e9 : K0.tmod P = i := by rw [Int.tmod_eq_emod_of_nonneg hk0]; exact hi.symm
  have e10 : ¬ P = 0 := by omega
  have f1 : IntKind.i64.wrap (2 * N) = 2 * N := IntWalk.i64_in _ (by omega)
  have f2 : IntKind.u64.wrap (2 * N) = 2 * N := by rw [IntKind.wrap_u64]; omega
  have f3 : min (2 * N).toNat 64 = (2 * N).toNat := by omega
  have f4 : IntKind.i64.wrap (64 * Q) = 64 * Q := IntWalk.i64_in _ (by omega)
  have f5 : decide (B ≤ 64 * Q) = true := decide_eq_true hB
  have hm0' : ¬ N < 0 := by omega
  have hm1' : ¬ 2 * N < 0 := by omega
  have hN1 : 1 ≤ N := by
    rcases Int.lt_or_le 0 N with h | h
    · omega
    · have : N = 0 := by omega
      rw [this] at hz
      cases hz
  have g1 : IntKind.i64.wrap (2 * N - 2) = 2 * N - 2 := IntWalk.i64_in _ (by omega)
  have g2 : IntKind.u64.wrap (2 * N - 2) = 2 * N - 2 := by rw [IntKind.wrap_u64]; omega
  have g3 : min (2 * N - 2).toNat 64 = (2 * N - 2).toNat := by omega
  have g4 : IntKind.i64.wrap (64 * Q2) = 64 * Q2 := IntWalk.i64_in _ (by omega)
  have g5 : decide (64 * Q2 < B) = true := decide_eq_true hB2
  have g6 : IntKind.i64.wrap (N - 1) = N - 1 := IntWalk.i64_in _ (by omega)
  have g7 : i.tdiv 2 = i / 2 := Int.tdiv_eq_ediv_of_nonneg i0
  have g8 : IntKind.i64.wrap (i / 2) = i / 2 := IntWalk.i64_in _ (by omega)
  have g9 : ¬ 2 * N - 2 < 0 := by omega
  have hN := fun w b hb t => pc_new w b hb x t
  obtain ⟨ax, ay, cx, cy, bx, bz, kk⟩ := s
  unfold Sg.v Pc.v at *
  have HN := Lib.hid hN
  have HG := Lib.hid hG
  have HS := Lib.hid hS
  have H1 := Lib.hid h1
  have H2 := Lib.hid h2
  clear hN hG hS h1 hi hB h2 hB2
  go_enter Try.func14, Try.ntmps14
  go_wp2_with (first | (go_at_call 33; (with_reducible refine Calls.mono (alive13 _) ?_); rintro e w1 ⟨rfl, hS1⟩; have kxa := (HN.out w _ rfl _).since hS1; have kT0 : Since w w1 := (by (repeat (first | with_reducible (exact Since.refl _) | with_reducible assumption | with_reducible (refine Since.drew ?_) | with_reducible (refine Since.drewN ?_ _) | with_reducible (refine Since.alloc ?_ _) | (with_reducible (refine Since.setCell ?_ ?_ _); rotate_left; focus (first | (simp; done) | (simp; omega) | omega)) | (with_reducible (refine Since.trans ?_ (by with_reducible assumption)))))); have kT := kT0; have xa := kxa; clear kxa; have hT := kT; clear kT; have xaz := xa; obtain ⟨xa_1, xa_2, xa_3, xa_4, xa_5, xa_6, xa_7, xa_8⟩ := xaz) | (go_at_call 46; (with_reducible refine Calls.mono (HG.out _) ?_); rintro e w2 ⟨rfl, hS2⟩; have kxa := (xa.since hS2).alloc (.cells #[.int .i64 ax, .int .i64 ay, .int .i64 cx, .int .i64 cy, .int .i64 bx, .int .i64 bz, .bool kk] 57); have kT := (hT.trans hS2).alloc (.cells #[.int .i64 ax, .int .i64 ay, .int .i64 cx, .int .i64 cy, .int .i64 bx, .int .i64 bz, .bool kk] 57); clear hS2 hT xa_1 xa_2 xa_3 xa_4 xa_5 xa_6 xa_7 xa_8 xa; have ksa := seg_new w2 _ rfl ⟨ax, ay, cx, cy, bx, bz, kk⟩ 57; have xa := kxa; clear kxa; have sa := ksa; clear ksa; have hT := kT; clear kT; have xaz := xa; obtain ⟨xa_1, xa_2, xa_3, xa_4, xa_5, xa_6, xa_7, xa_8⟩ := xaz; have saz := sa; obtain ⟨sa_1, sa_2, sa_3, sa_4, sa_5, sa_6, sa_7, sa_8⟩ := saz; (try simp only at sa_1 sa_2 sa_3 sa_4 sa_5 sa_6 sa_7)) | (go_at_call 44; (with_reducible refine Calls.mono (HS.out _) ?_); rintro e w3 ⟨rfl, hS3⟩; have kxa := xa.since hS3; have ksa := sa.since hS3; have kT := hT.trans hS3; clear hS3 hT xa_1 xa_2 xa_3 xa_4 xa_5 xa_6 xa_7 xa_8 xa sa_1 sa_2 sa_3 sa_4 sa_5 sa_6 sa_7 sa_8 sa; have xa := kxa; clear kxa; have sa := ksa; clear ksa; have hT := kT; clear kT; have xaz := xa; obtain ⟨xa_1, xa_2, xa_3, xa_4, xa_5, xa_6, xa_7, xa_8⟩ := xaz; have saz := sa; obtain ⟨sa_1, sa_2, sa_3, sa_4, sa_5, sa_6, sa_7, sa_8⟩ := saz; (try simp only at sa_1 sa_2 sa_3 sa_4 sa_5 sa_6 sa_7)) | (go_at_call 47; (with_reducible refine Calls.mono (H1.out _) ?_); rintro e w4 ⟨rfl, hS4⟩; have kxa := xa.since hS4; have ksa := sa.since hS4; have kT := hT.trans hS4; clear hS4 hT xa_1 xa_2 xa_3 xa_4 xa_5 xa_6 xa_7 xa_8 xa sa_1 sa_2 sa_3 sa_4 sa_5 sa_6 sa_7 sa_8 sa; have xa := kxa; clear kxa; have sa := ksa; clear ksa; have hT := kT; clear kT; have xaz := xa; obtain ⟨xa_1, xa_2, xa_3, xa_4, xa_5, xa_6, xa_7, xa_8⟩ := xaz; have saz := sa; obtain ⟨sa_1, sa_2, sa_3, sa_4, sa_5, sa_6, sa_7, sa_8⟩ := saz; (try simp only at sa_1 sa_2 sa_3 sa_4 sa_5 sa_6 sa_7)) | (go_at_call 47; (with_reducible refine Calls.mono (H2.out _) ?_); rintro e w5 ⟨rfl, hS5⟩; have kxa := xa.since hS5; have ksa := sa.since hS5; have kT := hT.trans hS5; clear hS5 hT xa_1 xa_2 xa_3 xa_4 xa_5 xa_6 xa_7 xa_8 xa sa_1 sa_2 sa_3 sa_4 sa_5 sa_6 sa_7 sa_8 sa; have xa := kxa; clear kxa; have sa := ksa; clear ksa; have hT := kT; clear kT; have xaz := xa; obtain ⟨xa_1, xa_2, xa_3, xa_4, xa_5, xa_6, xa_7, xa_8⟩ := xaz; have saz := sa; obtain ⟨sa_1, sa_2, sa_3, sa_4, sa_5, sa_6, sa_7, sa_8⟩ := saz; (try simp only at sa_1 sa_2 sa_3 sa_4 sa_5 sa_6 sa_7)))
  go_ret
  exact ⟨by first | rfl | simp, hT⟩
theorem walk_quadnear (x : Pc) (h : x.wf) (K0 : Int) (hk0 : 0 ≤ K0) (hk1 : K0 ≤ 65535) (w : World) :
    Calls Try.prog 14 #[x.v, .int .u16 K0] w fun e w' => e = .returned (.bool true) ∧ Since w w' := by
  have h9 := steps_le (bendI x.s)
  have hb := bend_in x.s
  have hS := fun w => qu_steps x.s (pc_swf h) w
  have hst := fun z h1 h2 => steps_iff (b := bendI x.s) (z := z) hb.2 h1 h2
  have hA := fun k n a b c d w => law_apart x.s (pc_swf h) (pc_inR h) k n a b c d w
  generalize bendI x.s = B at *
  generalize hN : ((stepsN B : Nat) : Int) = N at *
  have hm0 : 0 ≤ N ∧ N ≤ 9 := by omega
  have hp := two_pow hm0.1 (by omega)
  have hq := four_pow hm0.1 (by omega)
  obtain ⟨i, hi⟩ : ∃ i : Int, i = K0 % ((2 : Int) ^ N.toNat) := ⟨_, rfl⟩
  have i0 : 0 ≤ i := by rw [hi]; exact Int.emod_nonneg _ (by omega)
  have i1 : i < (2 : Int) ^ N.toNat := by rw [hi]; exact Int.emod_lt_of_pos _ (by omega)
  have hB : B ≤ 64 * 2 ^ (2 * N).toNat := by
    have := (hst N hm0.1 hm0.2).1
    rcases Int.lt_or_le (64 * 2 ^ (2 * N).toNat) B with hlt | hle
    · have := this.1 hlt; omega
    · exact hle
  cases hz : (N == 0) with
  | true => exact near0_of x x.s K0 N _ i _ B hk0 hk1 hm0 rfl hp hi rfl hq hB w hz (law_seg x h) hS (hA i N hm0.1 hm0.2 i0 (by omega))
  | false =>
    have hN1 : 1 ≤ N := by
      rcases Int.lt_or_le 0 N with hh | hh
      · omega
      · have e : N = 0 := by omega
        rw [e] at hz
        cases hz
    have hpow2 : (2 : Int) ^ N.toNat = 2 ^ (N - 1).toNat * 2 := by rw [show N.toNat = (N - 1).toNat + 1 by omega, Int.pow_succ]
    have hq2 := four_pow (n := N - 1) (by omega) (by omega)
    have hst2 := (hst (N - 1) (by omega) (by omega)).1
    rw [show 2 * (N - 1) = 2 * N - 2 by omega] at hq2 hst2
    have hB2 : 64 * 2 ^ (2 * N - 2).toNat < B := hst2.2 (by omega)
    exact near1_of x x.s K0 N _ i _ B hk0 hk1 hm0 rfl hp hi rfl hq hB w hz _ rfl hq2 hB2 (hA (i / 2) (N - 1) (by omega) (by omega) (by omega) (by omega)) (law_seg x h) hS (hA i N hm0.1 hm0.2 i0 (by omega))
end Go.Proofs.Ytbbbojhncfdbdaa
