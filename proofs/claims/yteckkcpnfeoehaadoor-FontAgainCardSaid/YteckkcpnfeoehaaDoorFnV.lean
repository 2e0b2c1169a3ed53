/-
  Layer 9: FontAgain walked.
-/
import Derived.Test.YteckkcpnfeoehaaDoorFnU
import Derived.Test.YteckkcpnfeoehaaDoorFnT
import Derived.Test.YteckkcpnfeoehaaDoorFnQ
namespace Go.Proofs.YteckkcpnfeoehaaDoor
set_option maxRecDepth 100000
open Go.RowKit Go.ChangeShapes Go.WideShapes Go.Deep
set_option linter.unusedVariables false
set_option linter.unusedSimpArgs false

theorem rd9_err {L : List Int} {E : Int} {F : Fn9} (h : rd9 L = (E, F)) (hE : E ≠ 0) : F = none9 := by
  unfold rd9 rdT9 at h
  (repeat' split at h) <;> (injection h with h1 h2; first | exact h2.symm | (exfalso; exact hE h1.symm))
def CV (x : Fh) (F : Fn9) (C : Array Value) : Prop := C = fnV x F
def FB (w : World) (b : Nat) (x : Fh) (F : Fn9) : Prop := BoxL w b (fnC x F.TT.length F.h F.m F.MM.length F.ct F.GG.length)
theorem FB.since {w w' : World} {b : Nat} {x : Fh} {F : Fn9} (h : FB w b x F) (k : Since w w') : FB w' b x F := BoxL.since h k
theorem fb_store {w : World} {b : Nat} {y : Fh} {F : Fn9} {C : Array Value} {ops : Array Oper} {rest : List Oper} {op : Oper} {a : Act} {Q : Exit → Act → World → Prop} (hgd : op.guard = none) (x z : Operand) (ho : op.op = .store 30 x z) (hx : a.eval x = .pointer (some ⟨b, 0, none⟩)) (hB : BoxL w b (fnC zX 0 zH zM 0 0 0)) (hC : CV y F C) (hz : a.eval z = .agg C) (hk : ∀ w', FB w' b y F → Nigh b w w' → wpList Tryd.prog ops Q rest (a.put op.dst undef) w') : wpList Tryd.prog ops Q (op :: rest) a w :=
  wp_fn_store hgd x z ho hx hB y F.TT.length F.h F.m F.MM.length F.ct F.GG.length (hz.trans (congrArg Value.agg hC)) hk
theorem fb_load {w : World} {b : Nat} {y : Fh} {F : Fn9} {C : Array Value} {ops : Array Oper} {rest : List Oper} {op : Oper} {a : Act} {Q : Exit → Act → World → Prop} (hgd : op.guard = none) (x : Operand) (ho : op.op = .load 30 x) (hx : a.eval x = .pointer (some ⟨b, 0, none⟩)) (hB : FB w b y F) (hC : CV y F C) (hk : wpList Tryd.prog ops Q rest (a.put op.dst (.agg C)) w) : wpList Tryd.prog ops Q (op :: rest) a w :=
  wp_fn_load hgd x ho hx hB (by have := hk; rw [hC] at this; exact this)
theorem fb_var {w : World} {b : Nat} {x : Fh} {F : Fn9} {C : Array Value} (hC : CV x F C) (hB : FB w b x F) : (loadVar 30 ⟨b, 0, none⟩).run Tryd.prog w = .ok (.agg C) w := by
  rw [hC]
  exact run_loadVar_mid w b 0 30 _ _ hB.1 Tryd.underlying30 rfl infoFn
theorem ag_read (A : Option Addr) (n c : Nat) (L : List Int) (E : Int) (F : Fn9) (w : World) (hT : Tabs w) (h : RdB w w.heap.size A L) (hn : n = L.length) (hb : Bytes L) (hx : n ≤ 140737488355328) (hnc : n ≤ c) (hEF : rd9 L = (E, F)) :
    Calls Tryd.prog 11 #[.slice A n c] w fun e w' => ∃ x C, e = .returned (.tuple #[.agg C, .int .i64 E]) ∧ CV x F C ∧ FnR w' w'.heap.size x F ∧ F.GG.length ≤ x.cg ∧ Since w w' := by
  refine (fn_read A n c L w hT h hn hb hx hnc).mono ?_
  rintro e w' ⟨x, rfl, hF, hg, hS⟩
  rw [hEF] at hF hg ⊢
  exact ⟨x, _, rfl, rfl, hF, hg, hS⟩
theorem ag_none (x : Fh) (C : Array Value) (hC : CV x none9 C) (w : World) (hR : FnR w w.heap.size x none9) :
    Calls Tryd.prog 14 #[.agg C, .agg #[.slice none 0 0, .int .i64 0, .int .i64 0, .int .i64 0, .int .i64 0, .int .i64 0, .bool false, .int .i64 0, .int .i64 0, .int .i64 0, .int .i64 0, .int .i64 0, .int .i64 0, .int .i64 0, .slice none 0 0, .int .i64 0, .slice none 0 0]] w fun e w' => e = .returned (.bool true) ∧ Since w w' :=
  rf_same9 x zX none9 _ _ hC rfl w hR ⟨RdTL.nil, Rd.zero, RdBL.nil⟩ (by show 0 ≤ maxLen; omega) (by show 0 ≤ maxLen; omega) (by show 0 ≤ maxLen; omega)
theorem ag_no (x : Fh) (F : Fn9) (C : Array Value) (hC : CV x F C) (w : World) (hT : Tabs w) (hR : FnR w w.heap.size x F) (hG : NoGr F) (hW : FnW F) (hgc : F.GG.length ≤ x.cg) (hr : ¬ right9 F) :
    Calls Tryd.prog 9 #[.agg C] w fun e w' => ∃ v, e = .returned (.tuple #[v, .int .i64 4]) ∧ Since w w' := by
  refine (fn_write x F _ hC w hT hR hG hW hgc).mono ?_
  rintro e w' ⟨v, rfl, hO, hS⟩
  exact ⟨v, by rw [if_neg (by rw [right9_no hr]; simp)], hS⟩
theorem ag_yes (x : Fh) (F : Fn9) (C : Array Value) (hC : CV x F C) (w : World) (hT : Tabs w) (hR : FnR w w.heap.size x F) (hG : NoGr F) (hW : FnW F) (hgc : F.GG.length ≤ x.cg) (hr : right9 F) :
    Calls Tryd.prog 9 #[.agg C] w fun e w' => ∃ A m c, e = .returned (.tuple #[.slice A m c, .int .i64 0]) ∧ Hid (m = (file4 (all9 F)).length) ∧ RdB w' w'.heap.size A (file4 (all9 F)) ∧ m ≤ c ∧ Since w w' := by
  refine (fn_write x F _ hC w hT hR hG hW hgc).mono ?_
  rintro e w' ⟨v, rfl, hO, hS⟩
  unfold file9 at hO
  rw [if_pos (right9_yes hr)] at hO
  obtain ⟨A, c, rfl, hc, hr2⟩ := OwnG.rd (by omega) byL_len hO
  exact ⟨A, _, c, by rw [if_pos (right9_yes hr)], Lib.hid rfl, hr2, hc, hS⟩
theorem ag_right (x : Fh) (F : Fn9) (C : Array Value) (hC : CV x F C) (w : World) (hT : Tabs w) (hR : FnR w w.heap.size x F) (hG : NoGr F) (hW : FnW F) (hgc : F.GG.length ≤ x.cg) (b : Bool) (hb : Right9 F = b) :
    Calls Tryd.prog 10 #[.agg C] w fun e w' => e = .returned (.bool b) ∧ Since w w' := by
  rw [← hb]
  exact fn_right x F _ hC w hT hR hG hW hgc
/-- What the walk of FontAgain wants of what was read. -/
structure AgF (F : Fn9) : Prop where
  num : FnW F
  bl : blank9 F = F
  tl : F.TT.length ≤ 64
  td : ∀ U, U ∈ F.TT → U.data.length ≤ 1048576 ∧ U.tag.size = 4
  gl : F.GG.length ≤ 1024
  ml : F.MM.length ≤ 1024
  gd : ∀ L, L ∈ F.GG → L.length ≤ 1048576
theorem AgF.of {L : List Int} {F : Fn9} (hb : Bytes L) (h : rd9 L = (0, F)) : AgF F := by
  obtain ⟨a, b, c, d, e, f, g⟩ := rd9_fnw hb h
  exact ⟨a, b, c, d, e, f, g⟩
theorem ag_great (x : Fh) (F : Fn9) (C : Array Value) (hC : CV x F C) (w : World) (hR : FnR w w.heap.size x F) (hA : AgF F) : Calls Tryd.prog 8 #[.agg C] w (GreatP9 F w) :=
  rf_great9 x F C hC w hR (by have := hA.tl; simp only [maxLen]; omega) (fun T hT => by have := hA.td T hT; simp only [maxLen]; omega) (by have := hA.ml; simp only [maxLen]; omega) (by have := hA.gl; simp only [maxLen]; omega) (fun L hL => by have := hA.gd L hL; simp only [maxLen]; omega)
theorem ag_same (x y : Fh) (F : Fn9) (C D : Array Value) (hC : CV x F C) (hD : CV y F D) (w : World) (hR : FnR w w.heap.size x F) (hQ : FnR w w.heap.size y F) (hA : AgF F) :
    Calls Tryd.prog 14 #[.agg C, .agg D] w fun e w' => e = .returned (.bool true) ∧ Since w w' :=
  rf_same9 x y F _ _ hC hD w hR hQ (by have := hA.tl; simp only [maxLen]; omega) (by have := hA.ml; simp only [maxLen]; omega) (by have := hA.gl; simp only [maxLen]; omega)
attribute [-go_sem] loadVar
set_option maxRecDepth 1000000 in
set_option maxHeartbeats 64000000 in
theorem walk_fontagain (A : Option Addr) (n c : Nat) (f : Nat → Int) (w : World) (hT : Tabs w) (h : Rd w w.heap.size A n (U8 f)) (hb : ∀ j, j < n → 0 ≤ f j ∧ f j ≤ 255) (hx : n ≤ 140737488355328) (hnc : n ≤ c) :
    Calls Tryd.prog 4 #[.slice A n c] w fun e w' => e = .returned (.bool true) ∧ Since w w' := by
  obtain ⟨L, hL⟩ : ∃ L, L = (List.range n).map f := ⟨_, rfl⟩
  have hn : n = L.length := by rw [hL]; simp
  have hr : RdB w w.heap.size A L := rdb_of h hn (fun j hj => by
    rw [hL]; unfold fnL
    rw [List.getD_eq_getElem?_getD, List.getElem?_map, List.getElem?_range hj]; rfl)
  have hbL : Bytes L := by rw [hL]; exact bytes_map hb
  obtain ⟨E, F, hEF⟩ : ∃ E F, rd9 L = (E, F) := ⟨_, _, rfl⟩
  have HA := Lib.hid (alive09 w hT)
  have HT := Lib.hid (fun (w2 : World) (h2 : Since w w2) => hT.since h2)
  have HRD := Lib.hid (fun (w2 : World) (h2 : Since w w2) => ag_read A n c L E F w2 (hT.since h2) (RdG.on hr h2) hn hbL hx hnc hEF)
  by_cases hlen : 200000 < n
  · have d1 : decide ((200000 : Int) < (n : Int)) = true := by simp; omega
    clear hL hn hr h hb hbL hT hx hnc hEF HRD hlen
    go_enter Tryd.func4, Tryd.ntmps4
    go_wp2_with (go_at_call 7; (with_reducible refine (HA.out).mono ?_); rintro e w1 ⟨rfl, hS1⟩)
    go_ret
    exact ⟨by first | rfl | simp, hS1⟩
  have d1 : decide ((200000 : Int) < (n : Int)) = false := by simp; omega
  by_cases hE : E = 0
  rotate_left
  · have hF := rd9_err hEF hE
    subst hF
    have dE : (E == 0) = false := by simpa using hE
    clear hL hn hr h hb hbL hT hx hnc hEF hlen hE
    go_enter Tryd.func4, Tryd.ntmps4
    go_wp2_with (first | (go_at_call 7; (with_reducible refine (HA.out).mono ?_); rintro e w1 ⟨rfl, hS1⟩) | (go_at_call 11; (with_reducible refine (HRD.out _ hS1).mono ?_); rintro e w2 ⟨x, C, rfl, hC, hR, _, hS2⟩; have hS12 := hS1.trans hS2) | (refine fb_store rfl _ _ rfl (by rfl) (by with_reducible exact new_fn w2 w2.heap.size rfl _) hC (by rfl) ?_; intro w3 hB3 hN3; have hS23 := hN3.2 w2 ((Since.refl w2).alloc _) (Nat.le_refl _); have hS13 := hS12.trans hS23; have hR3 := hR.on hS23) | (refine fb_load rfl _ rfl (by rfl) (by with_reducible exact hB3) hC ?_) | (go_at_call 14; (with_reducible refine (ag_none x C hC _ hR3).mono ?_); rintro e w4 ⟨rfl, hS4⟩; have hS14 := hS13.trans hS4))
    go_ret
    exact ⟨by first | rfl | simp, hS14⟩
  subst hE
  have hAG := AgF.of hbL hEF
  have HAG := Lib.hid hAG
  clear hL hn hr h hb hbL hT hx hnc hEF hlen hAG
  by_cases hrt : right9 F
  · have HY := Lib.hid hrt
    have HRT := Lib.hid (right9_yes hrt)
    have HBF := Lib.hid (bytes_file9 (all9_bytes HAG.out.num))
    have HLF := Lib.hid (show (file4 (all9 F)).length ≤ 140737488355328 by rw [file4_len hrt.2.2]; have := hrt.2.2.2.2.1; omega)
    have HEF := Lib.hid (show rd9 (file4 (all9 F)) = (0, F) from (rd9_file hrt).trans (by rw [HAG.out.bl]))
    clear hrt
    go_enter Tryd.func4, Tryd.ntmps4
    go_upto_region 10 with (first | (go_at_call 7; (with_reducible refine (HA.out).mono ?_); rintro e w1 ⟨rfl, hS1⟩) | (go_at_call 11; (with_reducible refine (HRD.out _ hS1).mono ?_); rintro e w2 ⟨x, C, rfl, hC, hR, hg2, hS2⟩; have hS12 := hS1.trans hS2) | (refine fb_store rfl _ _ rfl (by rfl) (by with_reducible exact new_fn w2 w2.heap.size rfl _) hC (by rfl) ?_; intro w3 hB3 hN3; have hS23 := hN3.2 w2 ((Since.refl w2).alloc _) (Nat.le_refl _); have hS13 := hS12.trans hS23; have hR3 := hR.on hS23) | (refine fb_load rfl _ rfl (by rfl) (by with_reducible exact hB3) hC ?_) | (go_at_call 8; (with_reducible refine (ag_great x F C hC _ hR3 HAG.out).mono ?_); rintro e w4 ⟨g, rfl, hng, hS4⟩; have hS14 := hS13.trans hS4; have hR4 := hR3.on hS4; have hB4 := hB3.since hS4; have HNG := Lib.hid hng; clear hng hR hR3 hB3 hN3 hS12 hS23 hS1 hS2; cases g))
    · have HNR := Lib.hid (HNG.out (by first | exact trivial | rfl))
      clear HNG
      go_wp2_with (first | (refine fb_load rfl _ rfl (by rfl) (by with_reducible exact hB4) hC ?_) | (go_at_call 9; (with_reducible refine (ag_yes x F C hC _ (HT.out _ hS14) hR4 HNR.out HAG.out.num hg2 HY.out).mono ?_); rintro e w5 ⟨A5, m5, c5, rfl, hm5, hr5, hmc5, hS5⟩; have hS15 := hS14.trans hS5; have hB5 := hB4.since hS5; have hR5 := hR4.on hS5; clear hB4 hR4) | (go_at_call 11; (with_reducible refine (ag_read A5 m5 c5 (file4 (all9 F)) 0 F _ (HT.out _ hS15) hr5 hm5.out HBF.out (by rw [hm5.out]; exact HLF.out) hmc5 HEF.out).mono ?_); rintro e w6 ⟨y, D, rfl, hD, hQ, _, hS6⟩; have hS16 := hS15.trans hS6; have hB6 := hB5.since hS6; have hR6 := hR5.on hS6; clear hB5 hR5) | (refine fb_store rfl _ _ rfl (by rfl) (by with_reducible exact new_fn w6 w6.heap.size rfl _) hD (by rfl) ?_; intro w7 hB7 hN7; have hS67 := hN7.2 w6 ((Since.refl w6).alloc _) (Nat.le_refl _); have hS17 := hS16.trans hS67; have hR7 := hR6.on hS67; have hQ7 := hQ.on hS67; have hB67 := hB6.since hS67; have hv7 := fb_var hC hB67; clear hR6 hQ hB6) | (go_at_call 10; (with_reducible refine (ag_right x F C hC _ (HT.out _ hS17) hR7 HNR.out HAG.out.num hg2 true HRT.out).mono ?_); rintro e w8 ⟨rfl, hS8⟩; have hS18 := hS17.trans hS8; have hR8 := hR7.on hS8; have hQ8 := hQ7.on hS8; have hv8 := fb_var hC (hB67.since hS8); have hu8 := fb_var hD (hB7.since hS8); clear hv7 hR7 hQ7) | (go_at_call 14; (with_reducible refine (ag_same y x F D C hD hC _ hQ8 hR8 HAG.out).mono ?_); rintro e w9 ⟨rfl, hS9⟩; have hS19 := hS18.trans hS9))
      go_ret
      exact ⟨by first | rfl | simp, hS19⟩
    · go_wp2_with fail
      go_ret
      exact ⟨by first | rfl | simp, hS14⟩
  · have HY := Lib.hid hrt
    have HRT := Lib.hid (right9_no hrt)
    clear hrt
    go_enter Tryd.func4, Tryd.ntmps4
    go_upto_region 10 with (first | (go_at_call 7; (with_reducible refine (HA.out).mono ?_); rintro e w1 ⟨rfl, hS1⟩) | (go_at_call 11; (with_reducible refine (HRD.out _ hS1).mono ?_); rintro e w2 ⟨x, C, rfl, hC, hR, hg2, hS2⟩; have hS12 := hS1.trans hS2) | (refine fb_store rfl _ _ rfl (by rfl) (by with_reducible exact new_fn w2 w2.heap.size rfl _) hC (by rfl) ?_; intro w3 hB3 hN3; have hS23 := hN3.2 w2 ((Since.refl w2).alloc _) (Nat.le_refl _); have hS13 := hS12.trans hS23; have hR3 := hR.on hS23) | (refine fb_load rfl _ rfl (by rfl) (by with_reducible exact hB3) hC ?_) | (go_at_call 8; (with_reducible refine (ag_great x F C hC _ hR3 HAG.out).mono ?_); rintro e w4 ⟨g, rfl, hng, hS4⟩; have hS14 := hS13.trans hS4; have hR4 := hR3.on hS4; have hB4 := hB3.since hS4; have HNG := Lib.hid hng; clear hng hR hR3 hB3 hN3 hS12 hS23 hS1 hS2; cases g))
    · have HNR := Lib.hid (HNG.out (by first | exact trivial | rfl))
      clear HNG
      go_wp2_with (first | (refine fb_load rfl _ rfl (by rfl) (by with_reducible exact hB4) hC ?_) | (go_at_call 9; (with_reducible refine (ag_no x F C hC _ (HT.out _ hS14) hR4 HNR.out HAG.out.num hg2 HY.out).mono ?_); rintro e w5 ⟨v5, rfl, hS5⟩; have hS15 := hS14.trans hS5; have hv5 := fb_var hC (hB4.since hS5); have hR5 := hR4.on hS5; clear hB4 hR4) | (go_at_call 10; (with_reducible refine (ag_right x F C hC _ (HT.out _ hS15) hR5 HNR.out HAG.out.num hg2 false HRT.out).mono ?_); rintro e w6 ⟨rfl, hS6⟩; have hS16 := hS15.trans hS6))
      go_ret
      exact ⟨by first | rfl | simp, hS16⟩
    · go_wp2_with fail
      go_ret
      exact ⟨by first | rfl | simp, hS14⟩
end Go.Proofs.YteckkcpnfeoehaaDoor
