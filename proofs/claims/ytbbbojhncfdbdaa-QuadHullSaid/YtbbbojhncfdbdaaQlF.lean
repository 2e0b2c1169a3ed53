/-
  Layer 13: the law QuadHalves, walked.
-/
import Derived.Test.YtbbbojhncfdbdaaQlE
namespace Go.Proofs.Ytbbbojhncfdbdaa
open Go.RowKit
set_option linter.unusedVariables false

set_option maxRecDepth 100000 in
set_option maxHeartbeats 8000000 in
theorem halves_of (x : Pc) (s L R : Sg) (N0 K0 m P i X Y U V : Int) (hn0 : 0 ≤ N0) (hn1 : N0 ≤ 255) (hk0 : 0 ≤ K0) (hk1 : K0 ≤ 65535) (hm : m = N0 % 9) (hP : (2 : Int) ^ m.toNat = P) (hP1 : 1 ≤ P ∧ P ≤ 1024) (hi : i = K0 % (P + 1)) (w : World)
    (hG : ∀ w, Calls Try.prog 46 #[x.v] w fun e w' => e = .returned s.v ∧ Since w w')
    (hS : ∀ w, Calls Try.prog 38 #[s.v] w fun e w' => e = .returned (.tuple #[L.v, R.v, .int .i64 0]) ∧ Since w w')
    (h1 : ∀ w, Calls Try.prog 34 #[L.v, .int .i64 i, .int .i64 m] w fun e w' => e = .returned (.tuple #[Pt X Y, .int .i64 0]) ∧ Since w w')
    (h2 : ∀ w, Calls Try.prog 34 #[R.v, .int .i64 i, .int .i64 m] w fun e w' => e = .returned (.tuple #[Pt U V, .int .i64 0]) ∧ Since w w')
    (h3 : ∀ w, Calls Try.prog 34 #[s.v, .int .i64 i, .int .i64 (m + 1)] w fun e w' => e = .returned (.tuple #[Pt X Y, .int .i64 0]) ∧ Since w w')
    (h4 : ∀ w, Calls Try.prog 34 #[s.v, .int .i64 (i + P), .int .i64 (m + 1)] w fun e w' => e = .returned (.tuple #[Pt U V, .int .i64 0]) ∧ Since w w') :
    Calls Try.prog 12 #[x.v, .int .u16 K0, .int .u8 N0] w fun e w' => e = .returned (.bool true) ∧ Since w w' := by
  have i0 : 0 ≤ i := by rw [hi]; exact Int.emod_nonneg _ (by omega)
  have i1 : i < P + 1 := by rw [hi]; exact Int.emod_lt_of_pos _ (by omega)
  have hm0 : 0 ≤ m ∧ m ≤ 8 := by omega
  have e1 : N0.tmod 9 = m := by rw [Int.tmod_eq_emod_of_nonneg hn0]; exact hm.symm
  have e2 : IntKind.u8.wrap m = m := by rw [IntKind.wrap_u8]; omega
  have e3 : IntKind.i64.wrap m = m := IntWalk.i64_in _ (by omega)
  have e4 : IntKind.u64.wrap m = m := by rw [IntKind.wrap_u64]; omega
  have e5 : min m.toNat 64 = m.toNat := by omega
  have e6 : IntKind.i64.wrap P = P := IntWalk.i64_in _ (by omega)
  have e7 : IntKind.i64.wrap (P + 1) = P + 1 := IntWalk.i64_in _ (by omega)
  have e8 : IntKind.i64.wrap K0 = K0 := IntWalk.i64_in _ (by omega)
  have e9 : K0.tmod (P + 1) = i := by rw [Int.tmod_eq_emod_of_nonneg hk0]; exact hi.symm
  have e10 : ¬ P + 1 = 0 := by omega
  have hPP : (2 : Int) ^ m.toNat = P := hP
  have hm0' : ¬ m < 0 := by omega
  have e11 : IntKind.i64.wrap (m + 1) = m + 1 := IntWalk.i64_in _ (by omega)
  have e12 : IntKind.i64.wrap (i + P) = i + P := IntWalk.i64_in _ (by omega)
  have hN := fun w b hb t => pc_new w b hb x t
  obtain ⟨l0, l1, l2, l3, l4, l5, lk⟩ := L
  obtain ⟨r0, r1, r2, r3, r4, r5, rk⟩ := R
  unfold Sg.v Pt Pc.v at *
  have HN := Lib.hid hN
  have HG := Lib.hid hG
  have HP := Lib.hid hS
  have H1 := Lib.hid h1
  have H2 := Lib.hid h2
  have H3 := Lib.hid h3
  have H4 := Lib.hid h4
  clear hN hG hS h1 h2 h3 h4 hi hm hP
  go_enter Try.func12, Try.ntmps12
  go_wp2_with (first | (go_at_call 33; (with_reducible refine Calls.mono (alive13 _) ?_); rintro e w1 ⟨rfl, hS1⟩; have kxa := (HN.out w _ rfl _).since hS1; have kT0 : Since w w1 := (by (repeat (first | with_reducible (exact Since.refl _) | with_reducible assumption | with_reducible (refine Since.drew ?_) | with_reducible (refine Since.drewN ?_ _) | with_reducible (refine Since.alloc ?_ _) | (with_reducible (refine Since.setCell ?_ ?_ _); rotate_left; focus (first | (simp; done) | (simp; omega) | omega)) | (with_reducible (refine Since.trans ?_ (by with_reducible assumption)))))); have kT := kT0; have xa := kxa; clear kxa; have hT := kT; clear kT; have xaz := xa; obtain ⟨xa_1, xa_2, xa_3, xa_4, xa_5, xa_6, xa_7, xa_8⟩ := xaz; have tokA := True.intro) | (go_at_call 46; have _t := tokA; (with_reducible refine Calls.mono (HG.out _) ?_); rintro e w2 ⟨rfl, hS2⟩; have kxa := xa.since hS2; have kT := hT.trans hS2; clear hS2 hT xa_1 xa_2 xa_3 xa_4 xa_5 xa_6 xa_7 xa_8 xa; have xa := kxa; clear kxa; have hT := kT; clear kT; have xaz := xa; obtain ⟨xa_1, xa_2, xa_3, xa_4, xa_5, xa_6, xa_7, xa_8⟩ := xaz; clear tokA) | (go_at_call 38; (with_reducible refine Calls.mono (HP.out _) ?_); rintro e w3 ⟨rfl, hS3⟩; have kxa := ((xa.since hS3).alloc (.cells #[.int .i64 l0, .int .i64 l1, .int .i64 l2, .int .i64 l3, .int .i64 l4, .int .i64 l5, .bool lk] 57)).alloc (.cells #[.int .i64 r0, .int .i64 r1, .int .i64 r2, .int .i64 r3, .int .i64 r4, .int .i64 r5, .bool rk] 57); have kT := ((hT.trans hS3).alloc (.cells #[.int .i64 l0, .int .i64 l1, .int .i64 l2, .int .i64 l3, .int .i64 l4, .int .i64 l5, .bool lk] 57)).alloc (.cells #[.int .i64 r0, .int .i64 r1, .int .i64 r2, .int .i64 r3, .int .i64 r4, .int .i64 r5, .bool rk] 57); clear hS3 hT xa_1 xa_2 xa_3 xa_4 xa_5 xa_6 xa_7 xa_8 xa; have kla := (seg_new w3 _ rfl ⟨l0, l1, l2, l3, l4, l5, lk⟩ 57).alloc (.cells #[.int .i64 r0, .int .i64 r1, .int .i64 r2, .int .i64 r3, .int .i64 r4, .int .i64 r5, .bool rk] 57); have kra := seg_new (w3.alloc (.cells #[.int .i64 l0, .int .i64 l1, .int .i64 l2, .int .i64 l3, .int .i64 l4, .int .i64 l5, .bool lk] 57)) (w3.heap.size + 1) (by simp) ⟨r0, r1, r2, r3, r4, r5, rk⟩ 57; have xa := kxa; clear kxa; have la := kla; clear kla; have ra := kra; clear kra; have hT := kT; clear kT; have xaz := xa; obtain ⟨xa_1, xa_2, xa_3, xa_4, xa_5, xa_6, xa_7, xa_8⟩ := xaz; have laz := la; obtain ⟨la_1, la_2, la_3, la_4, la_5, la_6, la_7, la_8⟩ := laz; (try simp only at la_1 la_2 la_3 la_4 la_5 la_6 la_7); have raz := ra; obtain ⟨ra_1, ra_2, ra_3, ra_4, ra_5, ra_6, ra_7, ra_8⟩ := raz; (try simp only at ra_1 ra_2 ra_3 ra_4 ra_5 ra_6 ra_7)) | (go_at_call 34; (with_reducible refine Calls.mono (H1.out _) ?_); rintro e w4 ⟨rfl, hS4⟩; have kxa := (xa.since hS4).alloc (.cells #[.int .i64 X, .int .i64 Y] 23); have kla := (la.since hS4).alloc (.cells #[.int .i64 X, .int .i64 Y] 23); have kra := (ra.since hS4).alloc (.cells #[.int .i64 X, .int .i64 Y] 23); have kT := (hT.trans hS4).alloc (.cells #[.int .i64 X, .int .i64 Y] 23); clear hS4 hT xa_1 xa_2 xa_3 xa_4 xa_5 xa_6 xa_7 xa_8 xa la_1 la_2 la_3 la_4 la_5 la_6 la_7 la_8 la ra_1 ra_2 ra_3 ra_4 ra_5 ra_6 ra_7 ra_8 ra; have kpa := pt_new w4 _ rfl X Y 23; have xa := kxa; clear kxa; have la := kla; clear kla; have ra := kra; clear kra; have pa := kpa; clear kpa; have hT := kT; clear kT; have xaz := xa; obtain ⟨xa_1, xa_2, xa_3, xa_4, xa_5, xa_6, xa_7, xa_8⟩ := xaz; have laz := la; obtain ⟨la_1, la_2, la_3, la_4, la_5, la_6, la_7, la_8⟩ := laz; (try simp only at la_1 la_2 la_3 la_4 la_5 la_6 la_7); have raz := ra; obtain ⟨ra_1, ra_2, ra_3, ra_4, ra_5, ra_6, ra_7, ra_8⟩ := raz; (try simp only at ra_1 ra_2 ra_3 ra_4 ra_5 ra_6 ra_7); have paz := pa; obtain ⟨pa_1, pa_2, pa_3⟩ := paz) | (go_at_call 34; (with_reducible refine Calls.mono (H2.out _) ?_); rintro e w5 ⟨rfl, hS5⟩; have kxa := (xa.since hS5).alloc (.cells #[.int .i64 U, .int .i64 V] 23); have kla := (la.since hS5).alloc (.cells #[.int .i64 U, .int .i64 V] 23); have kra := (ra.since hS5).alloc (.cells #[.int .i64 U, .int .i64 V] 23); have kpa := (pa.since hS5).alloc (.cells #[.int .i64 U, .int .i64 V] 23); have kT := (hT.trans hS5).alloc (.cells #[.int .i64 U, .int .i64 V] 23); clear hS5 hT xa_1 xa_2 xa_3 xa_4 xa_5 xa_6 xa_7 xa_8 xa la_1 la_2 la_3 la_4 la_5 la_6 la_7 la_8 la ra_1 ra_2 ra_3 ra_4 ra_5 ra_6 ra_7 ra_8 ra pa_1 pa_2 pa_3 pa; have kpb := pt_new w5 _ rfl U V 23; have xa := kxa; clear kxa; have la := kla; clear kla; have ra := kra; clear kra; have pa := kpa; clear kpa; have pb := kpb; clear kpb; have hT := kT; clear kT; have xaz := xa; obtain ⟨xa_1, xa_2, xa_3, xa_4, xa_5, xa_6, xa_7, xa_8⟩ := xaz; have laz := la; obtain ⟨la_1, la_2, la_3, la_4, la_5, la_6, la_7, la_8⟩ := laz; (try simp only at la_1 la_2 la_3 la_4 la_5 la_6 la_7); have raz := ra; obtain ⟨ra_1, ra_2, ra_3, ra_4, ra_5, ra_6, ra_7, ra_8⟩ := raz; (try simp only at ra_1 ra_2 ra_3 ra_4 ra_5 ra_6 ra_7); have paz := pa; obtain ⟨pa_1, pa_2, pa_3⟩ := paz; have pbz := pb; obtain ⟨pb_1, pb_2, pb_3⟩ := pbz; have tokB := True.intro) | (go_at_call 46; have _t := tokB; (with_reducible refine Calls.mono (HG.out _) ?_); rintro e w6 ⟨rfl, hS6⟩; have kxa := xa.since hS6; have kla := la.since hS6; have kra := ra.since hS6; have kpa := pa.since hS6; have kpb := pb.since hS6; have kT := hT.trans hS6; clear hS6 hT xa_1 xa_2 xa_3 xa_4 xa_5 xa_6 xa_7 xa_8 xa la_1 la_2 la_3 la_4 la_5 la_6 la_7 la_8 la ra_1 ra_2 ra_3 ra_4 ra_5 ra_6 ra_7 ra_8 ra pa_1 pa_2 pa_3 pa pb_1 pb_2 pb_3 pb; have xa := kxa; clear kxa; have la := kla; clear kla; have ra := kra; clear kra; have pa := kpa; clear kpa; have pb := kpb; clear kpb; have hT := kT; clear kT; have xaz := xa; obtain ⟨xa_1, xa_2, xa_3, xa_4, xa_5, xa_6, xa_7, xa_8⟩ := xaz; have laz := la; obtain ⟨la_1, la_2, la_3, la_4, la_5, la_6, la_7, la_8⟩ := laz; (try simp only at la_1 la_2 la_3 la_4 la_5 la_6 la_7); have raz := ra; obtain ⟨ra_1, ra_2, ra_3, ra_4, ra_5, ra_6, ra_7, ra_8⟩ := raz; (try simp only at ra_1 ra_2 ra_3 ra_4 ra_5 ra_6 ra_7); have paz := pa; obtain ⟨pa_1, pa_2, pa_3⟩ := paz; have pbz := pb; obtain ⟨pb_1, pb_2, pb_3⟩ := pbz; clear tokB) | (go_at_call 34; (with_reducible refine Calls.mono (H3.out _) ?_); rintro e w7 ⟨rfl, hS7⟩; have kxa := (xa.since hS7).alloc (.cells #[.int .i64 X, .int .i64 Y] 23); have kla := (la.since hS7).alloc (.cells #[.int .i64 X, .int .i64 Y] 23); have kra := (ra.since hS7).alloc (.cells #[.int .i64 X, .int .i64 Y] 23); have kpa := (pa.since hS7).alloc (.cells #[.int .i64 X, .int .i64 Y] 23); have kpb := (pb.since hS7).alloc (.cells #[.int .i64 X, .int .i64 Y] 23); have kT := (hT.trans hS7).alloc (.cells #[.int .i64 X, .int .i64 Y] 23); clear hS7 hT xa_1 xa_2 xa_3 xa_4 xa_5 xa_6 xa_7 xa_8 xa la_1 la_2 la_3 la_4 la_5 la_6 la_7 la_8 la ra_1 ra_2 ra_3 ra_4 ra_5 ra_6 ra_7 ra_8 ra pa_1 pa_2 pa_3 pa pb_1 pb_2 pb_3 pb; have kpc := pt_new w7 _ rfl X Y 23; have xa := kxa; clear kxa; have la := kla; clear kla; have ra := kra; clear kra; have pa := kpa; clear kpa; have pb := kpb; clear kpb; have pc := kpc; clear kpc; have hT := kT; clear kT; have xaz := xa; obtain ⟨xa_1, xa_2, xa_3, xa_4, xa_5, xa_6, xa_7, xa_8⟩ := xaz; have laz := la; obtain ⟨la_1, la_2, la_3, la_4, la_5, la_6, la_7, la_8⟩ := laz; (try simp only at la_1 la_2 la_3 la_4 la_5 la_6 la_7); have raz := ra; obtain ⟨ra_1, ra_2, ra_3, ra_4, ra_5, ra_6, ra_7, ra_8⟩ := raz; (try simp only at ra_1 ra_2 ra_3 ra_4 ra_5 ra_6 ra_7); have paz := pa; obtain ⟨pa_1, pa_2, pa_3⟩ := paz; have pbz := pb; obtain ⟨pb_1, pb_2, pb_3⟩ := pbz; have pcz := pc; obtain ⟨pc_1, pc_2, pc_3⟩ := pcz; have tokC := True.intro) | (go_at_call 46; have _t := tokC; (with_reducible refine Calls.mono (HG.out _) ?_); rintro e w8 ⟨rfl, hS8⟩; have kxa := xa.since hS8; have kla := la.since hS8; have kra := ra.since hS8; have kpa := pa.since hS8; have kpb := pb.since hS8; have kpc := pc.since hS8; have kT := hT.trans hS8; clear hS8 hT xa_1 xa_2 xa_3 xa_4 xa_5 xa_6 xa_7 xa_8 xa la_1 la_2 la_3 la_4 la_5 la_6 la_7 la_8 la ra_1 ra_2 ra_3 ra_4 ra_5 ra_6 ra_7 ra_8 ra pa_1 pa_2 pa_3 pa pb_1 pb_2 pb_3 pb pc_1 pc_2 pc_3 pc; have xa := kxa; clear kxa; have la := kla; clear kla; have ra := kra; clear kra; have pa := kpa; clear kpa; have pb := kpb; clear kpb; have pc := kpc; clear kpc; have hT := kT; clear kT; have xaz := xa; obtain ⟨xa_1, xa_2, xa_3, xa_4, xa_5, xa_6, xa_7, xa_8⟩ := xaz; have laz := la; obtain ⟨la_1, la_2, la_3, la_4, la_5, la_6, la_7, la_8⟩ := laz; (try simp only at la_1 la_2 la_3 la_4 la_5 la_6 la_7); have raz := ra; obtain ⟨ra_1, ra_2, ra_3, ra_4, ra_5, ra_6, ra_7, ra_8⟩ := raz; (try simp only at ra_1 ra_2 ra_3 ra_4 ra_5 ra_6 ra_7); have paz := pa; obtain ⟨pa_1, pa_2, pa_3⟩ := paz; have pbz := pb; obtain ⟨pb_1, pb_2, pb_3⟩ := pbz; have pcz := pc; obtain ⟨pc_1, pc_2, pc_3⟩ := pcz; clear tokC) | (go_at_call 34; (with_reducible refine Calls.mono (H4.out _) ?_); rintro e w9 ⟨rfl, hS9⟩; have kxa := (xa.since hS9).alloc (.cells #[.int .i64 U, .int .i64 V] 23); have kla := (la.since hS9).alloc (.cells #[.int .i64 U, .int .i64 V] 23); have kra := (ra.since hS9).alloc (.cells #[.int .i64 U, .int .i64 V] 23); have kpa := (pa.since hS9).alloc (.cells #[.int .i64 U, .int .i64 V] 23); have kpb := (pb.since hS9).alloc (.cells #[.int .i64 U, .int .i64 V] 23); have kpc := (pc.since hS9).alloc (.cells #[.int .i64 U, .int .i64 V] 23); have kT := (hT.trans hS9).alloc (.cells #[.int .i64 U, .int .i64 V] 23); clear hS9 hT xa_1 xa_2 xa_3 xa_4 xa_5 xa_6 xa_7 xa_8 xa la_1 la_2 la_3 la_4 la_5 la_6 la_7 la_8 la ra_1 ra_2 ra_3 ra_4 ra_5 ra_6 ra_7 ra_8 ra pa_1 pa_2 pa_3 pa pb_1 pb_2 pb_3 pb pc_1 pc_2 pc_3 pc; have kpd := pt_new w9 _ rfl U V 23; have xa := kxa; clear kxa; have la := kla; clear kla; have ra := kra; clear kra; have pa := kpa; clear kpa; have pb := kpb; clear kpb; have pc := kpc; clear kpc; have pd := kpd; clear kpd; have hT := kT; clear kT; have xaz := xa; obtain ⟨xa_1, xa_2, xa_3, xa_4, xa_5, xa_6, xa_7, xa_8⟩ := xaz; have laz := la; obtain ⟨la_1, la_2, la_3, la_4, la_5, la_6, la_7, la_8⟩ := laz; (try simp only at la_1 la_2 la_3 la_4 la_5 la_6 la_7); have raz := ra; obtain ⟨ra_1, ra_2, ra_3, ra_4, ra_5, ra_6, ra_7, ra_8⟩ := raz; (try simp only at ra_1 ra_2 ra_3 ra_4 ra_5 ra_6 ra_7); have paz := pa; obtain ⟨pa_1, pa_2, pa_3⟩ := paz; have pbz := pb; obtain ⟨pb_1, pb_2, pb_3⟩ := pbz; have pcz := pc; obtain ⟨pc_1, pc_2, pc_3⟩ := pcz; have pdz := pd; obtain ⟨pd_1, pd_2, pd_3⟩ := pdz))
  go_ret
  exact ⟨by first | rfl | simp, hT⟩
theorem spl_inR {x : Pc} (h : x.wf) : inR (spL x.s) = true ∧ inR (spR x.s) = true := by
  obtain ⟨h1, h2, h3, h4, h5, h6⟩ := pc_nr h
  generalize x.s = s at *
  unfold Nr at *
  unfold inR spL spR sm4
  constructor
  all_goals
    split
    all_goals
      simp only [Bool.and_eq_true, Bool.or_eq_true, goodB_iff, Bool.not_true, Bool.not_false]
      omega
theorem spl_wf {x : Pc} (h : x.wf) : (spL x.s).wf ∧ (spR x.s).wf := by
  obtain ⟨h1, h2, h3, h4, h5, h6⟩ := pc_nr h
  generalize x.s = s at *
  unfold Nr at *
  unfold Sg.wf spL spR sm4 InP In64
  constructor
  all_goals
    split
    all_goals
      simp only
      omega
theorem spl_split {x : Pc} (h : x.wf) (w : World) : Calls Try.prog 38 #[x.s.v] w fun e w' => e = .returned (.tuple #[(spL x.s).v, (spR x.s).v, .int .i64 0]) ∧ Since w w' := by
  have ho := pc_split h
  obtain ⟨i1, i2, i3⟩ := pc_swf h
  generalize x.s = s at *
  obtain ⟨ax, ay, cx, cy, bx, bz, k⟩ := s
  cases k with
  | false => exact qu_split_line ax ay cx cy bx bz i1 i2 i3 ho w
  | true => exact qu_split_curve ax ay cx cy bx bz i1 i2 i3 ho w
theorem walk_quadhalves (x : Pc) (h : x.wf) (N0 K0 : Int) (hn0 : 0 ≤ N0) (hn1 : N0 ≤ 255) (hk0 : 0 ≤ K0) (hk1 : K0 ≤ 65535) (w : World) :
    Calls Try.prog 12 #[x.v, .int .u16 K0, .int .u8 N0] w fun e w' => e = .returned (.bool true) ∧ Since w w' := by
  obtain ⟨m, hm⟩ : ∃ m : Int, m = N0 % 9 := ⟨_, rfl⟩
  have hm0 : 0 ≤ m ∧ m ≤ 8 := by omega
  have hp := two_pow hm0.1 (by omega)
  obtain ⟨i, hi⟩ : ∃ i : Int, i = K0 % ((2 : Int) ^ m.toNat + 1) := ⟨_, rfl⟩
  have i0 : 0 ≤ i := by rw [hi]; exact Int.emod_nonneg _ (by omega)
  have i1 : i < (2 : Int) ^ m.toNat + 1 := by rw [hi]; exact Int.emod_lt_of_pos _ (by omega)
  have hpow2 : (2 : Int) ^ (m + 1).toNat = 2 ^ m.toNat * 2 := by rw [show (m + 1).toNat = m.toNat + 1 by omega, Int.pow_succ]
  have hr := spl_inR h
  have hw := spl_wf h
  have o1 := ok_mk (k := i) (n := m) hr.1 hm0.1 (by omega) i0 (by omega)
  have o2 := ok_mk (k := i) (n := m) hr.2 hm0.1 (by omega) i0 (by omega)
  have o3 := ok_mk (k := i) (n := m + 1) (pc_inR h) (by omega) (by omega) i0 (by rw [hpow2]; omega)
  have o4 := ok_mk (k := i + 2 ^ m.toNat) (n := m + 1) (pc_inR h) (by omega) (by omega) (by omega) (by rw [hpow2]; omega)
  have ha := arg_mk (k := i) (n := m) hm0.1 (by omega) i0 (by omega)
  have q1 := fun w => qu_at_yes (spL x.s) hw.1 i m (by unfold In64; omega) (by unfold In64; omega) o1 w
  have q2 := fun w => qu_at_yes (spR x.s) hw.2 i m (by unfold In64; omega) (by unfold In64; omega) o2 w
  have q3 := fun w => qu_at_yes x.s (pc_swf h) i (m + 1) (by unfold In64; omega) (by unfold In64; omega) o3 w
  have q4 := fun w => qu_at_yes x.s (pc_swf h) (i + 2 ^ m.toNat) (m + 1) (by unfold In64; omega) (by unfold In64; omega) o4 w
  have z1 : atX (spL x.s) i m = atX x.s i (m + 1) := by
    have hk : (spL x.s).k = x.s.k := by unfold spL; split <;> simp_all
    have := at_left x.s (spL x.s) x.s.ax x.s.cx x.s.bx i m ha hk
    unfold atX at *
    rw [← this]
    unfold spL sm4 atI
    cases hs : x.s.k <;> simp
  have z2 : atY (spL x.s) i m = atY x.s i (m + 1) := by
    have hk : (spL x.s).k = x.s.k := by unfold spL; split <;> simp_all
    have := at_left x.s (spL x.s) x.s.ay x.s.cy x.s.bz i m ha hk
    unfold atY at *
    rw [← this]
    unfold spL sm4 atI
    cases hs : x.s.k <;> simp
  have z3 : atX (spR x.s) i m = atX x.s (i + 2 ^ m.toNat) (m + 1) := by
    have hk : (spR x.s).k = x.s.k := by unfold spR; split <;> simp_all
    have := at_right x.s (spR x.s) x.s.ax x.s.cx x.s.bx i m ha hk
    unfold atX at *
    rw [← this]
    unfold spR sm4 atI
    cases hs : x.s.k <;> simp
  have z4 : atY (spR x.s) i m = atY x.s (i + 2 ^ m.toNat) (m + 1) := by
    have hk : (spR x.s).k = x.s.k := by unfold spR; split <;> simp_all
    have := at_right x.s (spR x.s) x.s.ay x.s.cy x.s.bz i m ha hk
    unfold atY at *
    rw [← this]
    unfold spR sm4 atI
    cases hs : x.s.k <;> simp
  rw [z1, z2] at q1
  rw [z3, z4] at q2
  exact halves_of x x.s (spL x.s) (spR x.s) N0 K0 m _ i _ _ _ _ hn0 hn1 hk0 hk1 hm rfl hp hi w (law_seg x h) (spl_split h) q1 q2 q3 q4
end Go.Proofs.Ytbbbojhncfdbdaa
