/-
  Layer 7: writeKnots, walked.
-/
import Derived.Test.YtpplnapfpoloiaaSiS
namespace Go.Proofs.Ytpplnapfpoloiaa
open Go.RowKit Go.ChangeShapes Go.WideShapes Go.Deep
set_option linter.unusedVariables false
set_option linter.unusedSimpArgs false

set_option maxRecDepth 1000000 in
set_option maxHeartbeats 32000000 in
theorem si_wknots (A : Option Addr) (c : Nat) (LL : List (List Kt)) (w : World) (h : RdOL w w.heap.size A LL) (hn : LL.length ≤ 1000000) (hs : LL.flatten.length ≤ 4096) (hok : OkK LL.flatten) :
    Calls Try.prog 82 #[.slice A LL.length c] w (WfPost (kn7 (xsK LL.flatten) (ysK LL.flatten) (osK LL.flatten)) w) := by
  obtain ⟨N, hN⟩ : ∃ N, N = LL.length := ⟨_, rfl⟩
  rw [← hN] at hn ⊢
  have HN := Lib.hid hN
  have HO := Lib.hid h
  have HOK := Lib.hid hok
  have HSZ := Lib.hid hs
  have hNI : (N : Int) ≤ 1000000 := by omega
  clear hN hok h hs
  go_enter Try.func82, Try.ntmps82
  go_wp2_with fail
  refine wp_named fun wl hwl => ?_
  obtain ⟨lb, hlb⟩ : ∃ lb, lb = w.heap.size := ⟨_, rfl⟩
  rw [← hlb]
  have hLl : Tri wl lb 0 0 false := by subst hwl; exact tri_new w lb hlb 0 0 false _
  have hlw : w.heap.size ≤ lb := by omega
  have hSl : Since w wl := by subst hwl; exact (Since.refl w).alloc _
  clear hwl hlb
  go_loopw [3, 4, 5, 19] (fun v1 v2 v3 y wq => ∃ (j : Nat), j ≤ N ∧ y = .int .i64 (j : Int) ∧ WkIn w v1 v2 v3 lb (LL.take j).flatten wq) (fun _ _ _ y _ => N - (intOf y).toNat)
  case atStart => exact ⟨0, by omega, rfl, ⟨OwnG.nil _ _ _ _ _, OwnG.nil _ _ _ _ _, OwnG.nil _ _ _ _ _, (fun k h => by cases h), ⟨false, hLl⟩, hSl⟩⟩
  case round =>
    obtain ⟨j, hj, rfl, HW⟩ := hrel
    clear hLl hSl
    by_cases hjn : j < N
    · have hjn' : (j : Int) < N := by omega
      have hjL : j < LL.length := by rw [← HN.out]; exact hjn
      have hL : LL[j]? = some LL[j] := List.getElem?_eq_getElem hjL
      have htk : (LL.take (j + 1)).flatten = (LL.take j).flatten ++ LL[j] := by rw [List.take_succ_eq_append_getElem hjL, List.flatten_append]; simp
      generalize LL[j] = L at *
      obtain ⟨b, o, A', c', rfl, hb, hcell, hK⟩ := HO.out.row hL
      have c1 := (HW.s.1 _ _ hb).trans hcell
      obtain ⟨n, hnl⟩ : ∃ n, n = L.length := ⟨_, rfl⟩
      have hml : L.length ≤ 4096 := by
        obtain ⟨R, hR⟩ := flat_pre (k := L.length) hL
        have := HSZ.out
        rw [hR, List.take_length] at this
        simp only [List.length_append] at this
        omega
      rw [← hnl] at hml c1
      have HNL := Lib.hid hnl
      have HK := Lib.hid hK
      have HTK := Lib.hid htk
      have HLJ := Lib.hid hL
      have hnI : (n : Int) ≤ 4096 := by omega
      clear hL hcell hjL hnl hK htk
      go_wp2_with fail
      go_loopw [3, 4, 5, 25] (fun v1 v2 v3 y wi => ∃ (k : Nat), k ≤ n ∧ y = .int .i64 (k : Int) ∧ WkIn w v1 v2 v3 lb ((LL.take j).flatten ++ L.take k) wi) (fun _ _ _ y _ => n - (intOf y).toNat)
      case atStart => exact ⟨0, by omega, rfl, by simpa using HW⟩
      case round =>
        obtain ⟨k, hk, rfl, HW'⟩ := hrel
        clear HW c1
        by_cases hkn : k < n
        · have hkn' : (k : Int) < n := by omega
          have hkL : k < L.length := by rw [← HNL.out]; exact hkn
          have hx : L[k]? = some L[k] := List.getElem?_eq_getElem hkL
          have htk2 : (LL.take j).flatten ++ L.take (k + 1) = (LL.take j).flatten ++ L.take k ++ [L[k]] := by rw [List.take_succ_eq_append_getElem hkL, List.append_assoc]
          obtain ⟨R, hR⟩ := flat_pre (k := k + 1) HLJ.out
          rw [htk2] at hR
          have hok := HOK.out
          have hsz := HSZ.out
          rw [hR] at hok hsz
          have hok2 := okK_left hok
          simp only [List.length_append] at hsz
          generalize L[k] = x at *
          obtain ⟨bk, ok, rfl, hbk, hck⟩ := HK.out (by omega)
          have d1 := (HW'.s.1 _ _ hbk).trans (hck k x hx 0 (by omega))
          have d2 := (HW'.s.1 _ _ hbk).trans (hck k x hx 1 (by omega))
          have d3 := (HW'.s.1 _ _ hbk).trans (hck k x hx 2 (by omega))
          simp only [knL, List.getD_cons_succ, List.getD_cons_zero, Nat.add_zero] at d1 d2 d3
          have u1 : IntKind.i64.wrap ((k : Int) + 1) = (k : Int) + 1 := IntWalk.i64_in _ (by omega)
          have HTK2 := Lib.hid htk2
          rw [← List.length_append] at hsz
          generalize (LL.take j).flatten ++ L.take k = S at *
          obtain ⟨hokS, hs1, hs2, hs3, hs4⟩ := (okK_snoc S x).1 hok2
          have hl := okK_last hokS
          have hfs := flK_snoc S x
          have hxs := sxK_snoc S x
          have hys := syK_snoc S x
          have hlf := flK_len S
          have hlx := sxK_le S
          have hly := syK_le S
          have hS4 : S.length ≤ 4096 := by omega
          have HLK := Lib.hid (lastK_snoc S x)
          obtain ⟨i1, i2, i3, i4, ⟨lo, i5⟩, i6⟩ := HW'
          generalize lastK S = lk at *
          obtain ⟨lx, ly, lz⟩ := lk
          obtain ⟨x1, x2, x3⟩ := x
          simp only at hs1 hs2 hs3 hs4 hl hfs hxs hys d1 d2 d3 i5
          have w1 : IntKind.i64.wrap (x1 - lx) = x1 - lx := by unfold Sh at hs1 hl; rw [IntKind.wrap_i64]; omega
          have w2 : IntKind.i64.wrap (x2 - ly) = x2 - ly := by unfold Sh at hs2 hl; rw [IntKind.wrap_i64]; omega
          have hC1 := Lib.hid (fun w2 => si_wstep2 (x1 - lx) w2 (by unfold Sh at hs3; omega))
          have hC2 := Lib.hid (fun w2 => si_wstep4 (x2 - ly) w2 (by unfold Sh at hs4; omega))
          have ho := or_fl7 x3 (x1 - lx) (x2 - ly)
          have hp1 := stp7_le (x1 - lx)
          have hp2 := stp7_le (x2 - ly)
          have HFS := Lib.hid hfs
          have HXS := Lib.hid hxs
          have HYS := Lib.hid hys
          have I5 := Lib.hid i5
          have hlb2 := i5.2.2.2.2.2.2
          have tokF : True := trivial
          have tokX : True := trivial
          have tokY : True := trivial
          have tok1 : True := trivial
          have tok2 : True := trivial
          clear hs1 hs2 hs3 hs4 hl hok hok2 hokS hfs hxs hys hR hsz hck hx htk2 hkL
          generalize sfl7 2 16 (x1 - lx) = fx at *
          generalize sfl7 4 32 (x2 - ly) = fy at *
          generalize stp7 (x1 - lx) = px at *
          generalize stp7 (x2 - ly) = py at *
          generalize fl7 x3 (x1 - lx) (x2 - ly) = fl at *
          generalize flK S = FS at *
          generalize sxK S = XS at *
          generalize syK S = YS at *
          have hTk := tri_new wr wr.heap.size rfl x1 x2 x3 76
          have hKn : Since wr (wr.alloc (.cells #[.int .i64 x1, .int .i64 x2, .bool x3] 76)) := (Since.refl wr).alloc _
          have HB3 := Lib.hid (fun q (hq : u3.ownBlock = some q) => (i1.lt hq))
          have HB4 := Lib.hid (fun q (hq : u4.ownBlock = some q) => (i2.lt hq))
          have HB5 := Lib.hid (fun q (hq : u5.ownBlock = some q) => (i3.lt hq))
          obtain ⟨y1, y2, y3, y4, y5, y6, y7⟩ := id i5
          have hlw1 : w.heap.size ≤ lb + 1 := by omega
          have hlf3 : FS.length ≤ 3000000 := by omega
          have hlx3 : XS.length + px.length ≤ 140737488355328 := by omega
          have hly3 : YS.length + py.length ≤ 140737488355328 := by omega
          cases x3
          all_goals
            simp only [if_true, if_false, Bool.false_eq_true] at ho
            go_upto_region 15 with (first | (go_at_call 104; have _t := tok1; (with_reducible refine (hC1.out _).mono ?_); rintro e w2 ⟨vx, rfl, hPx, hSx⟩; have hS2 := hKn.trans hSx; have hTk2 := hTk.since hSx; have hTl2 := I5.out.since hS2; have a1 := apart_new (i2.alloc _) hPx; obtain ⟨p1, p2, p3, p4, p5, p6, p7⟩ := id hTk2; obtain ⟨q1, q2, q3, q4, q5, q6, q7⟩ := id hTl2; clear tok1) | (go_at_call 104; have _t := tok2; (with_reducible refine (hC2.out _).mono ?_); rintro e w3 ⟨vy, rfl, hPy, hSy⟩; have hS3 := hS2.trans hSy; have HM : WkMid w lb wr.heap.size u3 u4 u5 vx vy FS XS YS px py x1 x2 _ lx ly lo w3 := ⟨i1.since hS3, i2.since hS3, i3.since hS3, ⟨_, hPx.since hSy⟩, ⟨_, hPy⟩, i4, a1, apart_new (i2.since hS2) hPy, apart_new (i3.since hS2) hPy, fun q hq => Nat.ne_of_lt (HB4.out q hq).2, fun q hq => Nat.ne_of_lt (HB5.out q hq).2, hTk2.since hSy, hTl2.since hSy, i6.trans hS3⟩; clear tok2 hTk2 hTl2 p1 p2 p3 p4 p5 p6 p7 q1 q2 q3 q4 q5 q6 q7))
            have hz3 : lb + 1 ≤ w3.heap.size := HM.tl.2.2.2.2.2.2
            have hk3 : ∀ q, u3.ownBlock = some q → q ≠ wr.heap.size := fun q hq => Nat.ne_of_lt (HB3.out q hq).2
            go_upto_region 16 with (first | (at_builtin; refine wpList_append_ib rfl _ _ rfl _ HM.s (lb + 1) hlw1 hz3 u3 FS rfl HM.f _ _ fl rfl rfl hlf3 ?_; intro v7 w7 hO7 hS7 hg7 hb7; have HM7 := (HM.alloc _).flag hO7 hg7 hS7 hk3))
            obtain ⟨bx, hx7⟩ := HM7.dx
            obtain ⟨Ax, cx, rfl, hcx, hrx⟩ := hx7.rd (by omega) byL_len
            obtain ⟨b_y, hy7⟩ := HM7.dy
            obtain ⟨Ay, cy, rfl, hcy, hry⟩ := hy7.rd (by omega) byL_len
            have hz7 : lb + 1 ≤ w7.heap.size := HM7.tl.2.2.2.2.2.2
            clear hy7 hx7 hg7 hcx hcy hry
            go_wp2_with (first | (at_builtin; have _t := tokX; refine wpList_append_bb rfl _ _ rfl hS7 (lb + 1) hlw1 hz7 u4 XS rfl HM7.x _ Ax _ cx px rfl rfl hrx hlx3 ?_; intro v8 w8 hO8 hS8 hg8 hw8 hb8; obtain ⟨⟨b_y, hy8⟩, f8, y8, a8, b8, k8, tk8, tl8⟩ := HM7.xs hO8 hg8 hw8 hS8; have hry8 := own_rdv (by omega) byL_len hy8; have hz8 : lb + 1 ≤ w8.heap.size := tl8.2.2.2.2.2.2; clear tokX) | (at_builtin; have _t := tokY; refine wpList_append_bb rfl _ _ rfl hS8 (lb + 1) hlw1 hz8 u5 YS rfl y8 _ Ay _ cy py rfl rfl hry8 hly3 ?_; intro v9 w9 hO9 hS9 hg9 hw9 hb9; have x9 := hO8.growA hg9 a8.symm; have f9 := f8.growA hg9 (apart_type y8 f8 (Ne.symm int_byte_ne)); have a9 := (a8.symm.grow hO8 hw9).symm; have tk9 := tk8.grown hg9 k8; have tl9 := tl8.grown hg9 (fun q hq => Ne.symm (Nat.ne_of_lt (Nat.lt_of_succ_le (hb9 q hq).1))); obtain ⟨p1, p2, p3, p4, p5, p6, p7⟩ := id tk9; obtain ⟨q1, q2, q3, q4, q5, q6, q7⟩ := id tl9; have TL9 := Lib.hid tl9; clear tokY tl8 tk8))
            go_roundw
            case rel =>
              refine ⟨k + 1, by omega, by go_num, ?_⟩
              rw [HTK2.out]
              refine ⟨?_, ?_, ?_, a9, ⟨_, by rw [HLK.out]; exact TL9.out.put x1 x2 _⟩, ((hS9.setCell (show w.heap.size ≤ (Addr.mk lb 0 none).block from hlw) _).setCell (show w.heap.size ≤ (Addr.mk lb 1 none).block from hlw) _).setCell (show w.heap.size ≤ (Addr.mk lb 2 none).block from hlw) _⟩
              · rw [HFS.out]; exact OwnG.but f9 ((((KeepBut.refl lb w9).set 0 _).set 1 _).set 2 _) (fun e => Nat.lt_irrefl _ (Nat.lt_of_succ_le (f9.lt e).1))
              · rw [HXS.out]; exact OwnG.but x9 ((((KeepBut.refl lb w9).set 0 _).set 1 _).set 2 _) (fun e => Nat.lt_irrefl _ (Nat.lt_of_succ_le (x9.lt e).1))
              · rw [HYS.out]; exact OwnG.but hO9 ((((KeepBut.refl lb w9).set 0 _).set 1 _).set 2 _) (fun e => Nat.lt_irrefl _ (Nat.lt_of_succ_le (hO9.lt e).1))
            case measure => simp [intOf]; omega
        · obtain rfl : k = n := by omega
          have e : L.take k = L := by rw [HNL.out]; exact List.take_length
          rw [e, ← HTK.out] at HW'
          have u1 : IntKind.i64.wrap ((j : Int) + 1) = (j : Int) + 1 := IntWalk.i64_in _ (by omega)
          clear e
          go_wp2_with fail
          go_roundw
          case rel => exact ⟨j + 1, by omega, by go_num, HW'⟩
          case measure => simp [intOf]; omega
    · obtain rfl : j = N := by omega
      have e : LL.take j = LL := by rw [HN.out]; exact List.take_length
      rw [e] at HW
      obtain ⟨i1, i2, i3, i4, _, i6⟩ := HW
      have hC := flK_ok LL.flatten
      have hlx := sxK_le LL.flatten
      have hly := syK_le LL.flatten
      have hlf := flK_len LL.flatten
      have hsz := HSZ.out
      have HKN := Lib.hid (show kn7 (xsK LL.flatten) (ysK LL.flatten) (osK LL.flatten) = rle7 (flK LL.flatten) ++ sxK LL.flatten ++ syK LL.flatten by unfold kn7; rw [List.append_assoc]; rfl)
      have hrl := rle7_len (flK LL.flatten)
      generalize flK LL.flatten = FS at *
      generalize sxK LL.flatten = XS at *
      generalize syK LL.flatten = YS at *
      obtain ⟨Af, cf, ef, hcf, hrf⟩ := i1.rd (by omega) inL_len
      subst ef
      obtain ⟨Ax, cx, ex, hcx, hrx⟩ := i2.rd (by omega) byL_len
      subst ex
      obtain ⟨Ay, cy, ey, hcy, hry⟩ := i3.rd (by omega) byL_len
      subst ey
      have hlf4 : FS.length ≤ 4096 := by omega
      have hCW := Lib.hid (fun d (w2 : World) (h2 : Rd w2 w2.heap.size Af FS.length (I64 (fnL FS))) => si_wflags Af FS.length d FS w2 h2 rfl hlf4 hC)
      have hR0 := rdi_rd' hrf (rfl : FS.length = FS.length)
      have tokX : True := trivial
      have tokY : True := trivial
      have hr1 : (rle7 FS).length + XS.length ≤ 140737488355328 := by have := hrl.1; omega
      have hr2 : (rle7 FS ++ XS).length + YS.length ≤ 140737488355328 := by rw [List.length_append]; have := hrl.1; omega
      clear hC hlx hly hlf hsz hrl e hcf hcx hcy hrf i1 i4
      go_wp2_with (first | (go_at_call 105; (with_reducible refine (hCW.out _ _ hR0).mono ?_); rintro e w2 ⟨v, rfl, hO2, hS2⟩; have hrx2 := hrx.on hS2; have hry2 := hry.on hS2; have a1 := apart_new i2 hO2; have a2 := apart_new i3 hO2; have hT2 := i6.trans hS2; have hO2' := hO2.low i6.below.size) | (at_builtin; have _t := tokX; refine wpList_append_bw rfl _ _ rfl hT2 v (rle7 FS) rfl hO2' _ Ax _ cx XS rfl rfl hrx2 hr1 ?_; intro v3 w3 hO3 hS3 hg3 hw3; have i33 := (i3.since hS2).growA hg3 a2.symm; have hry3 := own_rdv (by omega) byL_len i33; clear tokX) | (at_builtin; have _t := tokY; refine wpList_append_bw rfl _ _ rfl hS3 v3 (rle7 FS ++ XS) rfl hO3 _ Ay _ cy YS rfl rfl hry3 hr2 ?_; intro v4 w4 hO4 hS4 hg4 hw4; clear tokY))
      go_ret
      exact ⟨_, rfl, by rw [HKN.out]; exact hO4, hS4⟩
end Go.Proofs.Ytpplnapfpoloiaa
