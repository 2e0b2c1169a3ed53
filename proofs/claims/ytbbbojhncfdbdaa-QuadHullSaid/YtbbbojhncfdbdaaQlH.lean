/-
  Layer 13: the law QuadHull, walked.
-/
import Derived.Test.YtbbbojhncfdbdaaQlF
namespace Go.Proofs.Ytbbbojhncfdbdaa
open Go.RowKit
set_option linter.unusedVariables false

set_option maxRecDepth 1000000 in
set_option maxHeartbeats 16000000 in
theorem hull_of (x : Pc) (ax ay cx cy bx bz : Int) (kk : Bool) (N0 K0 m P Q i X Y U V x0 y0 x1 y1 : Int) (hn0 : 0 ≤ N0) (hn1 : N0 ≤ 255) (hk0 : 0 ≤ K0) (hk1 : K0 ≤ 65535) (hm : m = N0 % 11) (hP : (2 : Int) ^ m.toNat = P) (hP1 : 1 ≤ P ∧ P ≤ 1024) (hi : i = K0 % (P + 1)) (hQ : (2 : Int) ^ (2 * m).toNat = Q) (hQ1 : 1 ≤ Q ∧ Q ≤ 1048576) (w : World)
    (w1 : IntKind.i64.wrap (Q * x0) = Q * x0) (w2 : IntKind.i64.wrap (Q * y0) = Q * y0) (w3 : IntKind.i64.wrap (Q * x1) = Q * x1) (w4 : IntKind.i64.wrap (Q * y1) = Q * y1)
    (w5 : IntKind.i64.wrap (Q * ax) = Q * ax) (w6 : IntKind.i64.wrap (Q * ay) = Q * ay) (w7 : IntKind.i64.wrap (Q * bx) = Q * bx) (w8 : IntKind.i64.wrap (Q * bz) = Q * bz)
    (d1 : decide (Q * x0 ≤ X) = true) (d2 : decide (X ≤ Q * x1) = true) (d3 : decide (Q * y0 ≤ Y) = true) (d4 : decide (Y ≤ Q * y1) = true)
    (d5 : decide (x0 ≤ U) = true) (d6 : decide (U ≤ x1) = true) (d7 : decide (y0 ≤ V) = true) (d8 : decide (V ≤ y1) = true)
    (hG : ∀ w, Calls Try.prog 46 #[x.v] w fun e w' => e = .returned (Sg.v ⟨ax, ay, cx, cy, bx, bz, kk⟩) ∧ Since w w')
    (h1 : ∀ w, Calls Try.prog 34 #[Sg.v ⟨ax, ay, cx, cy, bx, bz, kk⟩, .int .i64 i, .int .i64 m] w fun e w' => e = .returned (.tuple #[Pt X Y, .int .i64 0]) ∧ Since w w')
    (hB : ∀ w, Calls Try.prog 40 #[Sg.v ⟨ax, ay, cx, cy, bx, bz, kk⟩] w fun e w' => e = .returned (.tuple #[Pt x0 y0, Pt x1 y1]) ∧ Since w w')
    (h2 : ∀ w, Calls Try.prog 34 #[Sg.v ⟨ax, ay, cx, cy, bx, bz, kk⟩, .int .i64 0, .int .i64 m] w fun e w' => e = .returned (.tuple #[Pt (Q * ax) (Q * ay), .int .i64 0]) ∧ Since w w')
    (h3 : ∀ w, Calls Try.prog 34 #[Sg.v ⟨ax, ay, cx, cy, bx, bz, kk⟩, .int .i64 P, .int .i64 m] w fun e w' => e = .returned (.tuple #[Pt (Q * bx) (Q * bz), .int .i64 0]) ∧ Since w w')
    (h4 : ∀ w, Calls Try.prog 34 #[Sg.v ⟨bx, bz, cx, cy, ax, ay, kk⟩, .int .i64 (P - i), .int .i64 m] w fun e w' => e = .returned (.tuple #[Pt X Y, .int .i64 0]) ∧ Since w w')
    (h5 : ∀ w, Calls Try.prog 35 #[Sg.v ⟨ax, ay, cx, cy, bx, bz, kk⟩, .int .i64 i, .int .i64 m] w fun e w' => e = .returned (.tuple #[Pt U V, .int .i64 0]) ∧ Since w w')
    (h6 : ∀ w, Calls Try.prog 35 #[Sg.v ⟨bx, bz, cx, cy, ax, ay, kk⟩, .int .i64 (P - i), .int .i64 m] w fun e w' => e = .returned (.tuple #[Pt U V, .int .i64 0]) ∧ Since w w') :
    Calls Try.prog 13 #[x.v, .int .u16 K0, .int .u8 N0] w fun e w' => e = .returned (.bool true) ∧ Since w w' := by
  have i0 : 0 ≤ i := by rw [hi]; exact Int.emod_nonneg _ (by omega)
  have i1 : i < P + 1 := by rw [hi]; exact Int.emod_lt_of_pos _ (by omega)
  have hm0 : 0 ≤ m ∧ m ≤ 10 := by omega
  have e1 : N0.tmod 11 = m := by rw [Int.tmod_eq_emod_of_nonneg hn0]; exact hm.symm
  have e2 : IntKind.u8.wrap m = m := by rw [IntKind.wrap_u8]; omega
  have e3 : IntKind.i64.wrap m = m := IntWalk.i64_in _ (by omega)
  have e4 : IntKind.u64.wrap m = m := by rw [IntKind.wrap_u64]; omega
  have e5 : min m.toNat 64 = m.toNat := by omega
  have e6 : IntKind.i64.wrap P = P := IntWalk.i64_in _ (by omega)
  have e7 : IntKind.i64.wrap (P + 1) = P + 1 := IntWalk.i64_in _ (by omega)
  have e8 : IntKind.i64.wrap K0 = K0 := IntWalk.i64_in _ (by omega)
  have e9 : K0.tmod (P + 1) = i := by rw [Int.tmod_eq_emod_of_nonneg hk0]; exact hi.symm
  have e10 : ¬ P + 1 = 0 := by omega
  have hPP : (2 : Int) ^ m.toNat = P := hP
  have hm0' : ¬ m < 0 := by omega
  have e12 : IntKind.i64.wrap (P - i) = P - i := IntWalk.i64_in _ (by omega)
  have f1 : IntKind.i64.wrap (2 * m) = 2 * m := IntWalk.i64_in _ (by omega)
  have f2 : IntKind.u64.wrap (2 * m) = 2 * m := by rw [IntKind.wrap_u64]; omega
  have f3 : min (2 * m).toNat 64 = (2 * m).toNat := by omega
  have f4 : IntKind.i64.wrap Q = Q := IntWalk.i64_in _ (by omega)
  have hm1' : ¬ 2 * m < 0 := by omega
  have hN := fun w b hb t => pc_new w b hb x t
  unfold Sg.v Pt Pc.v at *
  have HN := Lib.hid hN
  have HG := Lib.hid hG
  have HB := Lib.hid hB
  have H1 := Lib.hid h1
  have H2 := Lib.hid h2
  have H3 := Lib.hid h3
  have H4 := Lib.hid h4
  have H5 := Lib.hid h5
  have H6 := Lib.hid h6
  clear hN hG hB h1 h2 h3 h4 h5 h6 hi hm hP
  go_enter Try.func13, Try.ntmps13
  go_wp2_with (first | (go_at_call 33; (with_reducible refine Calls.mono (alive13 _) ?_); rintro e w1 ⟨rfl, hS1⟩; have kxa := (HN.out w _ rfl _).since hS1; have kT0 : Since w w1 := (by (repeat (first | with_reducible (exact Since.refl _) | with_reducible assumption | with_reducible (refine Since.drew ?_) | with_reducible (refine Since.drewN ?_ _) | with_reducible (refine Since.alloc ?_ _) | (with_reducible (refine Since.setCell ?_ ?_ _); rotate_left; focus (first | (simp; done) | (simp; omega) | omega)) | (with_reducible (refine Since.trans ?_ (by with_reducible assumption)))))); have kT := kT0; have xa := kxa; clear kxa; have hT := kT; clear kT; have xaz := xa; obtain ⟨xa_1, xa_2, xa_3, xa_4, xa_5, xa_6, xa_7, xa_8⟩ := xaz) | (go_at_call 46; (with_reducible refine Calls.mono (HG.out _) ?_); rintro e w2 ⟨rfl, hS2⟩; have kT := (hT.trans hS2).alloc (.cells #[.int .i64 ax, .int .i64 ay, .int .i64 cx, .int .i64 cy, .int .i64 bx, .int .i64 bz, .bool kk] 57); clear hS2 hT xa_1 xa_2 xa_3 xa_4 xa_5 xa_6 xa_7 xa_8 xa; have ksa := seg_new w2 _ rfl ⟨ax, ay, cx, cy, bx, bz, kk⟩ 57; have sa := ksa; clear ksa; have hT := kT; clear kT; have saz := sa; obtain ⟨sa_1, sa_2, sa_3, sa_4, sa_5, sa_6, sa_7, sa_8⟩ := saz; (try simp only at sa_1 sa_2 sa_3 sa_4 sa_5 sa_6 sa_7)) | (go_at_call 34; (with_reducible refine Calls.mono (H1.out _) ?_); rintro e w3 ⟨rfl, hS3⟩; have ksa := (sa.since hS3).alloc (.cells #[.int .i64 X, .int .i64 Y] 23); have kT := (hT.trans hS3).alloc (.cells #[.int .i64 X, .int .i64 Y] 23); clear hS3 hT sa_1 sa_2 sa_3 sa_4 sa_5 sa_6 sa_7 sa_8 sa; have kpa := pt_new w3 _ rfl (X) (Y) 23; have sa := ksa; clear ksa; have pa := kpa; clear kpa; have hT := kT; clear kT; have saz := sa; obtain ⟨sa_1, sa_2, sa_3, sa_4, sa_5, sa_6, sa_7, sa_8⟩ := saz; (try simp only at sa_1 sa_2 sa_3 sa_4 sa_5 sa_6 sa_7); have paz := pa; obtain ⟨pa_1, pa_2, pa_3⟩ := paz) | (go_at_call 40; (with_reducible refine Calls.mono (HB.out _) ?_); rintro e w4 ⟨rfl, hS4⟩; have ksa := ((sa.since hS4).alloc (.cells #[.int .i64 x0, .int .i64 y0] 23)).alloc (.cells #[.int .i64 x1, .int .i64 y1] 23); have kpa := ((pa.since hS4).alloc (.cells #[.int .i64 x0, .int .i64 y0] 23)).alloc (.cells #[.int .i64 x1, .int .i64 y1] 23); have kT := ((hT.trans hS4).alloc (.cells #[.int .i64 x0, .int .i64 y0] 23)).alloc (.cells #[.int .i64 x1, .int .i64 y1] 23); clear hS4 hT sa_1 sa_2 sa_3 sa_4 sa_5 sa_6 sa_7 sa_8 sa pa_1 pa_2 pa_3 pa; have kla := (pt_new w4 _ rfl x0 y0 23).alloc (.cells #[.int .i64 x1, .int .i64 y1] 23); have kua := pt_new (w4.alloc (.cells #[.int .i64 x0, .int .i64 y0] 23)) (w4.heap.size + 1) (by simp) x1 y1 23; have sa := ksa; clear ksa; have pa := kpa; clear kpa; have la := kla; clear kla; have ua := kua; clear kua; have hT := kT; clear kT; have saz := sa; obtain ⟨sa_1, sa_2, sa_3, sa_4, sa_5, sa_6, sa_7, sa_8⟩ := saz; (try simp only at sa_1 sa_2 sa_3 sa_4 sa_5 sa_6 sa_7); have paz := pa; obtain ⟨pa_1, pa_2, pa_3⟩ := paz; have laz := la; obtain ⟨la_1, la_2, la_3⟩ := laz; have uaz := ua; obtain ⟨ua_1, ua_2, ua_3⟩ := uaz) | (go_at_call 34; (with_reducible refine Calls.mono (H2.out _) ?_); rintro e w5 ⟨rfl, hS5⟩; have ksa := (sa.since hS5).alloc (.cells #[.int .i64 (Q * ax), .int .i64 (Q * ay)] 23); have kpa := (pa.since hS5).alloc (.cells #[.int .i64 (Q * ax), .int .i64 (Q * ay)] 23); have kla := (la.since hS5).alloc (.cells #[.int .i64 (Q * ax), .int .i64 (Q * ay)] 23); have kua := (ua.since hS5).alloc (.cells #[.int .i64 (Q * ax), .int .i64 (Q * ay)] 23); have kT := (hT.trans hS5).alloc (.cells #[.int .i64 (Q * ax), .int .i64 (Q * ay)] 23); clear hS5 hT sa_1 sa_2 sa_3 sa_4 sa_5 sa_6 sa_7 sa_8 sa pa_1 pa_2 pa_3 pa la_1 la_2 la_3 la ua_1 ua_2 ua_3 ua; have kza := pt_new w5 _ rfl ((Q * ax)) ((Q * ay)) 23; have sa := ksa; clear ksa; have pa := kpa; clear kpa; have la := kla; clear kla; have ua := kua; clear kua; have za := kza; clear kza; have hT := kT; clear kT; have saz := sa; obtain ⟨sa_1, sa_2, sa_3, sa_4, sa_5, sa_6, sa_7, sa_8⟩ := saz; (try simp only at sa_1 sa_2 sa_3 sa_4 sa_5 sa_6 sa_7); have paz := pa; obtain ⟨pa_1, pa_2, pa_3⟩ := paz; have laz := la; obtain ⟨la_1, la_2, la_3⟩ := laz; have uaz := ua; obtain ⟨ua_1, ua_2, ua_3⟩ := uaz; have zaz := za; obtain ⟨za_1, za_2, za_3⟩ := zaz) | (go_at_call 34; (with_reducible refine Calls.mono (H3.out _) ?_); rintro e w6 ⟨rfl, hS6⟩; have ksa := sa.since hS6; have kpa := pa.since hS6; have kla := la.since hS6; have kua := ua.since hS6; have kza := za.since hS6; have kT := hT.trans hS6; clear hS6 hT sa_1 sa_2 sa_3 sa_4 sa_5 sa_6 sa_7 sa_8 sa pa_1 pa_2 pa_3 pa la_1 la_2 la_3 la ua_1 ua_2 ua_3 ua za_1 za_2 za_3 za; have sa := ksa; clear ksa; have pa := kpa; clear kpa; have la := kla; clear kla; have ua := kua; clear kua; have za := kza; clear kza; have hT := kT; clear kT; have saz := sa; obtain ⟨sa_1, sa_2, sa_3, sa_4, sa_5, sa_6, sa_7, sa_8⟩ := saz; (try simp only at sa_1 sa_2 sa_3 sa_4 sa_5 sa_6 sa_7); have paz := pa; obtain ⟨pa_1, pa_2, pa_3⟩ := paz; have laz := la; obtain ⟨la_1, la_2, la_3⟩ := laz; have uaz := ua; obtain ⟨ua_1, ua_2, ua_3⟩ := uaz; have zaz := za; obtain ⟨za_1, za_2, za_3⟩ := zaz))
  have ksa := ((sa.alloc (.cells #[.int .i64 (Q * bx), .int .i64 (Q * bz)] 23)).alloc (.cells #[.int .i64 bx, .int .i64 bz, .int .i64 cx, .int .i64 cy, .int .i64 ax, .int .i64 ay, .bool kk] 57)).drew
  have kpa := ((pa.alloc (.cells #[.int .i64 (Q * bx), .int .i64 (Q * bz)] 23)).alloc (.cells #[.int .i64 bx, .int .i64 bz, .int .i64 cx, .int .i64 cy, .int .i64 ax, .int .i64 ay, .bool kk] 57)).drew
  have kla := ((la.alloc (.cells #[.int .i64 (Q * bx), .int .i64 (Q * bz)] 23)).alloc (.cells #[.int .i64 bx, .int .i64 bz, .int .i64 cx, .int .i64 cy, .int .i64 ax, .int .i64 ay, .bool kk] 57)).drew
  have kua := ((ua.alloc (.cells #[.int .i64 (Q * bx), .int .i64 (Q * bz)] 23)).alloc (.cells #[.int .i64 bx, .int .i64 bz, .int .i64 cx, .int .i64 cy, .int .i64 ax, .int .i64 ay, .bool kk] 57)).drew
  have kza := ((za.alloc (.cells #[.int .i64 (Q * bx), .int .i64 (Q * bz)] 23)).alloc (.cells #[.int .i64 bx, .int .i64 bz, .int .i64 cx, .int .i64 cy, .int .i64 ax, .int .i64 ay, .bool kk] 57)).drew
  have kzb := ((pt_new w6 _ rfl (Q * bx) (Q * bz) 23).alloc (.cells #[.int .i64 bx, .int .i64 bz, .int .i64 cx, .int .i64 cy, .int .i64 ax, .int .i64 ay, .bool kk] 57)).drew
  have kta := (seg_new (w6.alloc (.cells #[.int .i64 (Q * bx), .int .i64 (Q * bz)] 23)) (w6.heap.size + 1) (by simp) ⟨bx, bz, cx, cy, ax, ay, kk⟩ 57).drew
  have kT := ((hT.alloc (.cells #[.int .i64 (Q * bx), .int .i64 (Q * bz)] 23)).alloc (.cells #[.int .i64 bx, .int .i64 bz, .int .i64 cx, .int .i64 cy, .int .i64 ax, .int .i64 ay, .bool kk] 57)).drew
  go_region
  all_goals
    clear hT sa sa_1 sa_2 sa_3 sa_4 sa_5 sa_6 sa_7 sa_8 pa pa_1 pa_2 pa_3 la la_1 la_2 la_3 ua ua_1 ua_2 ua_3 za za_1 za_2 za_3
    have hT := kT
    have sa := ksa
    have pa := kpa
    have la := kla
    have ua := kua
    have za := kza
    have zb := kzb
    have ta := kta
    clear kT ksa kpa kla kua kza kzb kta
    (have saz := sa; obtain ⟨sa_1, sa_2, sa_3, sa_4, sa_5, sa_6, sa_7, sa_8⟩ := saz; (try simp only at sa_1 sa_2 sa_3 sa_4 sa_5 sa_6 sa_7))
    (have paz := pa; obtain ⟨pa_1, pa_2, pa_3⟩ := paz)
    (have laz := la; obtain ⟨la_1, la_2, la_3⟩ := laz)
    (have uaz := ua; obtain ⟨ua_1, ua_2, ua_3⟩ := uaz)
    (have zaz := za; obtain ⟨za_1, za_2, za_3⟩ := zaz)
    (have zbz := zb; obtain ⟨zb_1, zb_2, zb_3⟩ := zbz)
    (have taz := ta; obtain ⟨ta_1, ta_2, ta_3, ta_4, ta_5, ta_6, ta_7, ta_8⟩ := taz; (try simp only at ta_1 ta_2 ta_3 ta_4 ta_5 ta_6 ta_7))
    go_wp2_with (first | (go_at_call 34; (with_reducible refine Calls.mono (H4.out _) ?_); rintro e w7 ⟨rfl, hS7⟩; have ksa := (sa.since hS7).alloc (.cells #[.int .i64 X, .int .i64 Y] 23); have kpa := (pa.since hS7).alloc (.cells #[.int .i64 X, .int .i64 Y] 23); have kla := (la.since hS7).alloc (.cells #[.int .i64 X, .int .i64 Y] 23); have kua := (ua.since hS7).alloc (.cells #[.int .i64 X, .int .i64 Y] 23); have kza := (za.since hS7).alloc (.cells #[.int .i64 X, .int .i64 Y] 23); have kzb := (zb.since hS7).alloc (.cells #[.int .i64 X, .int .i64 Y] 23); have kta := (ta.since hS7).alloc (.cells #[.int .i64 X, .int .i64 Y] 23); have kT := (hT.trans hS7).alloc (.cells #[.int .i64 X, .int .i64 Y] 23); clear hS7 hT sa_1 sa_2 sa_3 sa_4 sa_5 sa_6 sa_7 sa_8 sa pa_1 pa_2 pa_3 pa la_1 la_2 la_3 la ua_1 ua_2 ua_3 ua za_1 za_2 za_3 za zb_1 zb_2 zb_3 zb ta_1 ta_2 ta_3 ta_4 ta_5 ta_6 ta_7 ta_8 ta; have kzc := pt_new w7 _ rfl (X) (Y) 23; have sa := ksa; clear ksa; have pa := kpa; clear kpa; have la := kla; clear kla; have ua := kua; clear kua; have za := kza; clear kza; have zb := kzb; clear kzb; have ta := kta; clear kta; have zc := kzc; clear kzc; have hT := kT; clear kT; have saz := sa; obtain ⟨sa_1, sa_2, sa_3, sa_4, sa_5, sa_6, sa_7, sa_8⟩ := saz; (try simp only at sa_1 sa_2 sa_3 sa_4 sa_5 sa_6 sa_7); have paz := pa; obtain ⟨pa_1, pa_2, pa_3⟩ := paz; have laz := la; obtain ⟨la_1, la_2, la_3⟩ := laz; have uaz := ua; obtain ⟨ua_1, ua_2, ua_3⟩ := uaz; have zaz := za; obtain ⟨za_1, za_2, za_3⟩ := zaz; have zbz := zb; obtain ⟨zb_1, zb_2, zb_3⟩ := zbz; have taz := ta; obtain ⟨ta_1, ta_2, ta_3, ta_4, ta_5, ta_6, ta_7, ta_8⟩ := taz; (try simp only at ta_1 ta_2 ta_3 ta_4 ta_5 ta_6 ta_7); have zcz := zc; obtain ⟨zc_1, zc_2, zc_3⟩ := zcz) | (go_at_call 35; (with_reducible refine Calls.mono (H5.out _) ?_); rintro e w8 ⟨rfl, hS8⟩; have ksa := (sa.since hS8).alloc (.cells #[.int .i64 U, .int .i64 V] 23); have kpa := (pa.since hS8).alloc (.cells #[.int .i64 U, .int .i64 V] 23); have kla := (la.since hS8).alloc (.cells #[.int .i64 U, .int .i64 V] 23); have kua := (ua.since hS8).alloc (.cells #[.int .i64 U, .int .i64 V] 23); have kza := (za.since hS8).alloc (.cells #[.int .i64 U, .int .i64 V] 23); have kzb := (zb.since hS8).alloc (.cells #[.int .i64 U, .int .i64 V] 23); have kta := (ta.since hS8).alloc (.cells #[.int .i64 U, .int .i64 V] 23); have kzc := (zc.since hS8).alloc (.cells #[.int .i64 U, .int .i64 V] 23); have kT := (hT.trans hS8).alloc (.cells #[.int .i64 U, .int .i64 V] 23); clear hS8 hT sa_1 sa_2 sa_3 sa_4 sa_5 sa_6 sa_7 sa_8 sa pa_1 pa_2 pa_3 pa la_1 la_2 la_3 la ua_1 ua_2 ua_3 ua za_1 za_2 za_3 za zb_1 zb_2 zb_3 zb ta_1 ta_2 ta_3 ta_4 ta_5 ta_6 ta_7 ta_8 ta zc_1 zc_2 zc_3 zc; have krc := pt_new w8 _ rfl (U) (V) 23; have sa := ksa; clear ksa; have pa := kpa; clear kpa; have la := kla; clear kla; have ua := kua; clear kua; have za := kza; clear kza; have zb := kzb; clear kzb; have ta := kta; clear kta; have zc := kzc; clear kzc; have rc := krc; clear krc; have hT := kT; clear kT; have saz := sa; obtain ⟨sa_1, sa_2, sa_3, sa_4, sa_5, sa_6, sa_7, sa_8⟩ := saz; (try simp only at sa_1 sa_2 sa_3 sa_4 sa_5 sa_6 sa_7); have paz := pa; obtain ⟨pa_1, pa_2, pa_3⟩ := paz; have laz := la; obtain ⟨la_1, la_2, la_3⟩ := laz; have uaz := ua; obtain ⟨ua_1, ua_2, ua_3⟩ := uaz; have zaz := za; obtain ⟨za_1, za_2, za_3⟩ := zaz; have zbz := zb; obtain ⟨zb_1, zb_2, zb_3⟩ := zbz; have taz := ta; obtain ⟨ta_1, ta_2, ta_3, ta_4, ta_5, ta_6, ta_7, ta_8⟩ := taz; (try simp only at ta_1 ta_2 ta_3 ta_4 ta_5 ta_6 ta_7); have zcz := zc; obtain ⟨zc_1, zc_2, zc_3⟩ := zcz; have rcz := rc; obtain ⟨rc_1, rc_2, rc_3⟩ := rcz) | (go_at_call 35; (with_reducible refine Calls.mono (H6.out _) ?_); rintro e w9 ⟨rfl, hS9⟩; have ksa := (sa.since hS9).alloc (.cells #[.int .i64 U, .int .i64 V] 23); have kpa := (pa.since hS9).alloc (.cells #[.int .i64 U, .int .i64 V] 23); have kla := (la.since hS9).alloc (.cells #[.int .i64 U, .int .i64 V] 23); have kua := (ua.since hS9).alloc (.cells #[.int .i64 U, .int .i64 V] 23); have kza := (za.since hS9).alloc (.cells #[.int .i64 U, .int .i64 V] 23); have kzb := (zb.since hS9).alloc (.cells #[.int .i64 U, .int .i64 V] 23); have kta := (ta.since hS9).alloc (.cells #[.int .i64 U, .int .i64 V] 23); have kzc := (zc.since hS9).alloc (.cells #[.int .i64 U, .int .i64 V] 23); have krc := (rc.since hS9).alloc (.cells #[.int .i64 U, .int .i64 V] 23); have kT := (hT.trans hS9).alloc (.cells #[.int .i64 U, .int .i64 V] 23); clear hS9 hT sa_1 sa_2 sa_3 sa_4 sa_5 sa_6 sa_7 sa_8 sa pa_1 pa_2 pa_3 pa la_1 la_2 la_3 la ua_1 ua_2 ua_3 ua za_1 za_2 za_3 za zb_1 zb_2 zb_3 zb ta_1 ta_2 ta_3 ta_4 ta_5 ta_6 ta_7 ta_8 ta zc_1 zc_2 zc_3 zc rc_1 rc_2 rc_3 rc; have krd := pt_new w9 _ rfl (U) (V) 23; have sa := ksa; clear ksa; have pa := kpa; clear kpa; have la := kla; clear kla; have ua := kua; clear kua; have za := kza; clear kza; have zb := kzb; clear kzb; have ta := kta; clear kta; have zc := kzc; clear kzc; have rc := krc; clear krc; have rd := krd; clear krd; have hT := kT; clear kT; have saz := sa; obtain ⟨sa_1, sa_2, sa_3, sa_4, sa_5, sa_6, sa_7, sa_8⟩ := saz; (try simp only at sa_1 sa_2 sa_3 sa_4 sa_5 sa_6 sa_7); have paz := pa; obtain ⟨pa_1, pa_2, pa_3⟩ := paz; have laz := la; obtain ⟨la_1, la_2, la_3⟩ := laz; have uaz := ua; obtain ⟨ua_1, ua_2, ua_3⟩ := uaz; have zaz := za; obtain ⟨za_1, za_2, za_3⟩ := zaz; have zbz := zb; obtain ⟨zb_1, zb_2, zb_3⟩ := zbz; have taz := ta; obtain ⟨ta_1, ta_2, ta_3, ta_4, ta_5, ta_6, ta_7, ta_8⟩ := taz; (try simp only at ta_1 ta_2 ta_3 ta_4 ta_5 ta_6 ta_7); have zcz := zc; obtain ⟨zc_1, zc_2, zc_3⟩ := zcz; have rcz := rc; obtain ⟨rc_1, rc_2, rc_3⟩ := rcz; have rdz := rd; obtain ⟨rd_1, rd_2, rd_3⟩ := rdz))
    go_ret
    exact ⟨by first | rfl | simp, hT⟩

theorem q_in {Q x : Int} (h : 1 ≤ Q ∧ Q ≤ 1048576) (k : -1048576 ≤ x ∧ x ≤ 1048576) : IntKind.i64.wrap (Q * x) = Q * x := by
  have := mul_in (x := x) (y := Q) (X := 1048576) (Y := 1048576) (by omega) (by omega) (by omega) (by omega)
  rw [Int.mul_comm x] at this
  exact IntWalk.i64_in _ (by omega)
theorem box_nr {k : Bool} {A B C : Int} (h1 : Nr A) (h2 : Nr B) (h3 : Nr C) : Nr (lo3 k A B C) ∧ Nr (hi3 k A B C) := by
  unfold Nr at *
  unfold lo3 hi3 mi ma
  cases k <;> simp <;> (repeat' split) <;> omega
theorem walk_quadhull (x : Pc) (h : x.wf) (N0 K0 : Int) (hn0 : 0 ≤ N0) (hn1 : N0 ≤ 255) (hk0 : 0 ≤ K0) (hk1 : K0 ≤ 65535) (w : World) :
    Calls Try.prog 13 #[x.v, .int .u16 K0, .int .u8 N0] w fun e w' => e = .returned (.bool true) ∧ Since w w' := by
  obtain ⟨m, hm⟩ : ∃ m : Int, m = N0 % 11 := ⟨_, rfl⟩
  have hm0 : 0 ≤ m ∧ m ≤ 10 := by omega
  have hp := two_pow hm0.1 hm0.2
  have hq := four_pow hm0.1 hm0.2
  obtain ⟨i, hi⟩ : ∃ i : Int, i = K0 % ((2 : Int) ^ m.toNat + 1) := ⟨_, rfl⟩
  have i0 : 0 ≤ i := by rw [hi]; exact Int.emod_nonneg _ (by omega)
  have i1 : i < (2 : Int) ^ m.toNat + 1 := by rw [hi]; exact Int.emod_lt_of_pos _ (by omega)
  have hnr := pc_nr h
  have hr := pc_inR h
  have hw := pc_swf h
  have hG := fun w => law_seg x h w
  generalize x.s = s at *
  have hr' : inR ⟨s.bx, s.bz, s.cx, s.cy, s.ax, s.ay, s.k⟩ = true := by
    unfold inR at hr ⊢
    simp only at hr ⊢
    rw [Bool.and_comm (goodB s.bx s.bz)]
    exact hr
  have hw' : Sg.wf ⟨s.bx, s.bz, s.cx, s.cy, s.ax, s.ay, s.k⟩ := ⟨hw.2.2, hw.2.1, hw.1⟩
  have a1 := arg_mk (k := i) (n := m) hm0.1 hm0.2 i0 (by omega)
  have o1 := ok_mk (k := i) (n := m) hr hm0.1 hm0.2 i0 (by omega)
  have o2 := ok_mk (k := 0) (n := m) hr hm0.1 hm0.2 (by omega) (by omega)
  have o3 := ok_mk (k := 2 ^ m.toNat) (n := m) hr hm0.1 hm0.2 (by omega) (by omega)
  have o4 := ok_mk (k := 2 ^ m.toNat - i) (n := m) hr' hm0.1 hm0.2 (by omega) (by omega)
  have q1 := fun w => qu_at_yes s hw i m (by unfold In64; omega) (by unfold In64; omega) o1 w
  have q2 := fun w => qu_at_yes s hw 0 m (by unfold In64; omega) (by unfold In64; omega) o2 w
  have q3 := fun w => qu_at_yes s hw (2 ^ m.toNat) m (by unfold In64; omega) (by unfold In64; omega) o3 w
  have q4 := fun w => qu_at_yes _ hw' (2 ^ m.toNat - i) m (by unfold In64; omega) (by unfold In64; omega) o4 w
  have q5 := fun w => qu_round_yes s hw i m (by unfold In64; omega) (by unfold In64; omega) o1 w
  have q6 := fun w => qu_round_yes _ hw' (2 ^ m.toNat - i) m (by unfold In64; omega) (by unfold In64; omega) o4 w
  have b1 : atX ⟨s.bx, s.bz, s.cx, s.cy, s.ax, s.ay, s.k⟩ (2 ^ m.toNat - i) m = atX s i m := at_back s _ s.ax s.cx s.bx i m rfl
  have b2 : atY ⟨s.bx, s.bz, s.cx, s.cy, s.ax, s.ay, s.k⟩ (2 ^ m.toNat - i) m = atY s i m := at_back s _ s.ay s.cy s.bz i m rfl
  have z1 : atX s 0 m = 2 ^ (2 * m).toNat * s.ax := at_zero s _ _ _ m hm0.1
  have z2 : atY s 0 m = 2 ^ (2 * m).toNat * s.ay := at_zero s _ _ _ m hm0.1
  have z3 : atX s (2 ^ m.toNat) m = 2 ^ (2 * m).toNat * s.bx := at_one s _ _ _ m hm0.1
  have z4 : atY s (2 ^ m.toNat) m = 2 ^ (2 * m).toNat * s.bz := at_one s _ _ _ m hm0.1
  rw [z1, z2] at q2
  rw [z3, z4] at q3
  rw [b1, b2] at q4 q6
  have h1 : 2 ^ (2 * m).toNat * lo3 s.k s.ax s.bx s.cx ≤ atX s i m ∧ atX s i m ≤ 2 ^ (2 * m).toNat * hi3 s.k s.ax s.bx s.cx := at_hull s s.ax s.cx s.bx i m a1
  have h2 : 2 ^ (2 * m).toNat * lo3 s.k s.ay s.bz s.cy ≤ atY s i m ∧ atY s i m ≤ 2 ^ (2 * m).toNat * hi3 s.k s.ay s.bz s.cy := at_hull s s.ay s.cy s.bz i m a1
  obtain ⟨n1, n2, n3, n4, n5, n6⟩ := hnr
  have v1 := box_nr (k := s.k) n1 n5 n3
  have v2 := box_nr (k := s.k) n2 n6 n4
  have hB := fun w => qu_box s w
  unfold boxV at hB
  have r1 := rnd_hull hm0.1 hm0.2 h1.1 h1.2
  have r2 := rnd_hull hm0.1 hm0.2 h2.1 h2.2
  exact hull_of x s.ax s.ay s.cx s.cy s.bx s.bz s.k N0 K0 m _ _ i _ _ _ _ _ _ _ _ hn0 hn1 hk0 hk1 hm rfl hp hi rfl hq w (q_in hq v1.1) (q_in hq v2.1) (q_in hq v1.2) (q_in hq v2.2) (q_in hq n1) (q_in hq n2) (q_in hq n5) (q_in hq n6)
    (decide_eq_true h1.1) (decide_eq_true h1.2) (decide_eq_true h2.1) (decide_eq_true h2.2) (decide_eq_true r1.1) (decide_eq_true r1.2) (decide_eq_true r2.1) (decide_eq_true r2.2) hG q1 hB q2 q3 q4 q5 q6
end Go.Proofs.Ytbbbojhncfdbdaa
