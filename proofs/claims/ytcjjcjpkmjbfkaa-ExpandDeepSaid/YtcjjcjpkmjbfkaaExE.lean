/-
  Layer 12: the program's contours moved by a part, walked.
-/
import Derived.Test.YtcjjcjpkmjbfkaaExD
import Derived.Test.YtcjjcjpkmjbfkaaMhH
namespace Go.Proofs.Ytcjjcjpkmjbfkaa
open Go.RowKit Go.ChangeShapes Go.WideShapes Go.Deep
set_option linter.unusedVariables false
set_option linter.unusedSimpArgs false

theorem own_kn_cells {w : World} {base q n c : Nat} {L : List Kt} (h : OwnK w base (.slice (some ⟨q, 0, none⟩) n c) L) {i : Nat} (hi : i < L.length) : ∃ K : Kt, w.cell? ⟨q, i * 3, none⟩ = some (.int .i64 K.x) ∧ w.cell? ⟨q, i * 3 + 1, none⟩ = some (.int .i64 K.y) ∧ w.cell? ⟨q, i * 3 + 2, none⟩ = some (.bool K.o) ∧ w.frozen? ⟨q, i * 3, none⟩ = false ∧ w.frozen? ⟨q, i * 3 + 1, none⟩ = false ∧ w.frozen? ⟨q, i * 3 + 2, none⟩ = false := by
  have hor := h
  unfold OwnK OwnG at hor
  have hn : n = L.length := by
    obtain ⟨A2, c2, e2, _, _⟩ := OwnG.rd (by omega) knL_len h
    injection e2
  rw [← hn] at hor
  obtain ⟨A2, c2, e2, _, hr2⟩ := OwnG.rd (by omega) knL_len h
  injection e2 with e2 e2a e2b
  subst e2
  obtain ⟨b3, o3, e4, hb3, hc3⟩ := hr2 (by omega)
  injection e4 with e4
  injection e4 with e5 e6
  subst e5 e6
  have hgk := hc3 i _ (List.getElem?_eq_getElem hi)
  have p1 := hgk 0 (by omega)
  have p2 := hgk 1 (by omega)
  have p3 := hgk 2 (by omega)
  rw [Nat.zero_add] at p1 p2 p3
  exact ⟨L[i], p1, p2, p3, World.ownsRow.frozenAt hor (i * 3), World.ownsRow.frozenAt hor (i * 3 + 1), World.ownsRow.frozenAt hor (i * 3 + 2)⟩
theorem mv_fill (P : Pt8) (L : List Kt) (i : Nat) (hi : i < L.length) :
    ((L.take i).map (mvK P) ++ List.replicate (L.length - i) K0).set i (mvK P L[i]) = (L.take (i + 1)).map (mvK P) ++ List.replicate (L.length - (i + 1)) K0 := by
  have hl : ((L.take i).map (mvK P)).length = i := by simp; omega
  rw [List.set_append_right _ _ (by omega), hl, Nat.sub_self, List.take_succ_eq_append_getElem hi, List.map_append, List.append_assoc]
  congr 1
  obtain ⟨d, hd⟩ : ∃ d, L.length - i = d + 1 := ⟨L.length - i - 1, by omega⟩
  rw [hd, List.replicate_succ, show L.length - (i + 1) = d by omega]
  rfl
theorem mv_len (P : Pt8) (L : List Kt) (i : Nat) (hi : i ≤ L.length) : ((L.take i).map (mvK P) ++ List.replicate (L.length - i) K0).length = L.length := by simp; omega
/-- The walk's error behind some points. -/
def errM (E : Int) (b : Bool) : Int := if E ≠ 0 then E else if b = true then 0 else 6
theorem errM_true (E : Int) : errM E true = E := by unfold errM; split <;> simp_all
theorem goodL_snoc {P : Pt8} {L : List Kt} {i : Nat} (hi : i < L.length) : goodL P (L.take (i + 1)) = (goodL P (L.take i) && decide (goodK (mvK P L[i]))) := by
  unfold goodL
  rw [List.take_succ_eq_append_getElem hi, List.all_append]
  simp
theorem errM_next (E : Int) (b g : Bool) : (if errM E b = 0 then (if g = true then errM E b else 6) else errM E b) = errM E (b && g) := by
  unfold errM
  by_cases hE : E = 0 <;> cases b <;> cases g <;> simp [hE]
theorem mv_in {P : Pt8} {k : Kt} (hP : P8Ok P) (hk : goodK k) : InP (mvX P k.x k.y) (mvY P k.x k.y) := by
  obtain ⟨_, p1, p2, p3, p4, p5, p6⟩ := hP
  obtain ⟨k1, k2, k3, k4⟩ := hk
  unfold Sh at p1 p2 p3 p4 p5 p6
  have b0 := mul_in p3 ⟨k1, k2⟩
  have b1 := mul_in p4 ⟨k1, k2⟩
  have b2 := mul_in p5 ⟨k3, k4⟩
  have b3 := mul_in p6 ⟨k3, k4⟩
  unfold InP In64 mvX mvY
  omega
theorem goodB_K (P : Pt8) (k : Kt) : goodB (mvX P k.x k.y) (mvY P k.x k.y) = decide (goodK (mvK P k)) := rfl
def errX (g : Bool) (E : Int) : Int := if g = true then E else if E = 0 then 6 else E
theorem errX_next (E : Int) (b g : Bool) : errX g (errM E b) = errM E (b && g) := by
  unfold errX errM
  by_cases hE : E = 0 <;> cases b <;> cases g <;> simp [hE]
theorem errX_false (E : Int) : errX false E = if E = 0 then 6 else E := rfl
theorem errX_true (E : Int) : errX true E = E := rfl
def PrF (g x y m0 m1 m2 m3 : Int) (j : Nat) : Value := if j = 0 then .int .i64 g else if j = 1 then .int .i64 x else if j = 2 then .int .i64 y else if j = 3 then .int .i64 m0 else if j = 4 then .int .i64 m1 else if j = 5 then .int .i64 m2 else .int .i64 m3
theorem prt_new (w : World) (b : Nat) (hb : b = w.heap.size) (t : TypeId) (g x y m0 m1 m2 m3 : Int) : Row (w.alloc (.cells #[.int .i64 g, .int .i64 x, .int .i64 y, .int .i64 m0, .int .i64 m1, .int .i64 m2, .int .i64 m3] t)) b 7 (PrF g x y m0 m1 m2 m3) := by
  subst hb
  refine Row.of_cells fun j hj => ?_
  have h : j = 0 ∨ j = 1 ∨ j = 2 ∨ j = 3 ∨ j = 4 ∨ j = 5 ∨ j = 6 := by omega
  rcases h with rfl | rfl | rfl | rfl | rfl | rfl | rfl <;> rfl
theorem prt_cells {w : World} {b : Nat} {g x y m0 m1 m2 m3 : Int} (h : Row w b 7 (PrF g x y m0 m1 m2 m3)) : w.cell? ⟨b, 0, none⟩ = some (.int .i64 g) ∧ w.cell? ⟨b, 1, none⟩ = some (.int .i64 x) ∧ w.cell? ⟨b, 2, none⟩ = some (.int .i64 y) ∧ w.cell? ⟨b, 3, none⟩ = some (.int .i64 m0) ∧ w.cell? ⟨b, 4, none⟩ = some (.int .i64 m1) ∧ w.cell? ⟨b, 5, none⟩ = some (.int .i64 m2) ∧ w.cell? ⟨b, 6, none⟩ = some (.int .i64 m3) ∧ b < w.heap.size :=
  ⟨h.1 0 (by omega), h.1 1 (by omega), h.1 2 (by omega), h.1 3 (by omega), h.1 4 (by omega), h.1 5 (by omega), h.1 6 (by omega), h.2.2⟩
set_option maxRecDepth 1000000 in
set_option maxHeartbeats 32000000 in
theorem ex_mv (q : Nat) (A : Option Addr) (N c : Nat) (V E : Int) (P : Pt8) (A' : Option Addr) (n c' : Nat) (L : List Kt) (w : World) (hR : BoxX w q (RdrF A N c V E)) (hK : RdKl w w.heap.size A' L) (hbq : ∀ b o, A' = some ⟨b, o, none⟩ → b ≠ q) (hP : P8Ok P) (hg : ∀ k, k ∈ L → goodK k) (hn : n = L.length) (hx : n ≤ 1000000) :
    Calls Try.prog 44 #[.pointer (some ⟨q, 0, none⟩), .agg #[.int .i64 P.g, .int .i64 P.x, .int .i64 P.y, .int .i64 P.m0, .int .i64 P.m1, .int .i64 P.m2, .int .i64 P.m3], .slice A' n c'] w fun e w' => ∃ g, e = .returned (.slice (some ⟨g, 0, none⟩) n n) ∧ OwnK w' w.heap.size (.slice (some ⟨g, 0, none⟩) n n) (L.map (mvK P)) ∧ BoxX w' q (RdrF A N c V (errM E (goodL P L))) ∧ Nigh q w w' := by
  have HMV := Lib.hid (fun (k : Kt) (w2 : World) (h : goodK k) => ex_move P k.x k.y w2 hP ⟨h.1, h.2.1⟩ h.2.2)
  have HG := Lib.hid hg
  have HN := Lib.hid hn
  have hnI : (n : Int) ≤ 1000000 := by omega
  have hq := hR.lt
  have HFL := Lib.hid (fun (E' : Int) (w2 : World) (h2 : BoxX w2 q (RdrF A N c V E')) => ex_fail q A N c V E' 6 w2 h2)
  have HIN := Lib.hid (fun (k : Kt) (h : goodK k) => mv_in hP h)
  have HBQ := Lib.hid hbq
  clear hg hn hP hbq
  go_enter Try.func44, Try.ntmps44
  go_wp2_with (at_make; refine wpList_make_g rfl _ _ 64 62 rfl (by omega) knL_len 24 K0 Try.underlying64 infoKn2 n rfl rfl (by omega) (by simp only [maxLen]; omega) w.heap.size (by simp) ?_; intro w1 hO1 hg1)
  have hS0 : Since (w.alloc (.cells #[.int .i64 P.g, .int .i64 P.x, .int .i64 P.y, .int .i64 P.m0, .int .i64 P.m1, .int .i64 P.m2, .int .i64 P.m3] 44)) w1 := since_grown (Since.refl _) hg1 (fun q hq => by cases hq)
  have hS1 : Since w w1 := ((Since.refl w).alloc _).trans hS0
  have hB1 := (prt_new w w.heap.size rfl 44 P.g P.x P.y P.m0 P.m1 P.m2 P.m3).since hS0
  have hO2 : OwnK w1 w.heap.size (.slice (some ⟨(w.alloc (.cells #[.int .i64 P.g, .int .i64 P.x, .int .i64 P.y, .int .i64 P.m0, .int .i64 P.m1, .int .i64 P.m2, .int .i64 P.m3] 44)).heap.size, 0, none⟩) n n) ((L.take 0).map (mvK P) ++ List.replicate (n - 0) K0) := by simpa using hO1
  have hgl := (hO1.lt (g := (w.alloc (.cells #[.int .i64 P.g, .int .i64 P.x, .int .i64 P.y, .int .i64 P.m0, .int .i64 P.m1, .int .i64 P.m2, .int .i64 P.m3] 44)).heap.size) rfl).2
  rw [show (w.alloc (.cells #[.int .i64 P.g, .int .i64 P.x, .int .i64 P.y, .int .i64 P.m0, .int .i64 P.m1, .int .i64 P.m2, .int .i64 P.m3] 44)).heap.size = w.heap.size + 1 by simp] at hO2 hgl
  obtain ⟨g, hg⟩ : ∃ g, g = w.heap.size + 1 := ⟨_, rfl⟩
  obtain ⟨bp, hbp⟩ : ∃ bp, bp = w.heap.size := ⟨_, rfl⟩
  have hgw : w.heap.size ≤ g := by omega
  have hbg : bp < g := by omega
  have hqb : q < bp := by omega
  rw [← hg] at hO2 hgl ⊢
  rw [← hbp] at hB1 ⊢
  have hR1 := hR.since hS1
  have hN1 := (Nigh.refl q w).since hS1
  have HGW := Lib.hid hgw
  have HKR := Lib.hid hK
  have HQ := Lib.hid hq
  have HBG := Lib.hid hbg
  have HQB := Lib.hid hqb
  clear hO1 hg1 hS0 hg hbp hgw hR hK hq hgl
  go_loopw [16] (fun y wr => ∃ (i : Nat) (E' : Int), i ≤ n ∧ y = .int .i64 (i : Int) ∧ OwnK wr w.heap.size (.slice (some ⟨g, 0, none⟩) n n) ((L.take i).map (mvK P) ++ List.replicate (n - i) K0) ∧ BoxX wr q (RdrF A N c V E') ∧ Row wr bp 7 (PrF P.g P.x P.y P.m0 P.m1 P.m2 P.m3) ∧ Nigh q w wr ∧ Hid (E' = errM E (goodL P (L.take i)))) (fun y _ => n - (intOf y).toNat)
  case atStart => exact ⟨0, E, by omega, rfl, hO2, hR1, hB1, hN1, Lib.hid (errM_true E).symm⟩
  case round =>
    obtain ⟨i, E', hi, rfl, hO, hR, hB, hN, HE⟩ := hrel
    clear hO2 hR1 hB1 hN1 hS1
    by_cases hin : i < n
    · have hiI : (i : Int) < (n : Int) := by omega
      have hiL : i < L.length := by rw [← HN.out]; exact hin
      have hLi : L[i]? = some L[i] := List.getElem?_eq_getElem hiL
      have hgK := HG.out _ (List.getElem_mem hiL)
      have hfill := mv_fill P L i hiL
      have hlen := mv_len P L i (by omega)
      have hsn := goodL_snoc (P := P) hiL
      obtain ⟨b, o, rfl, hb, hc⟩ := HKR.out (by omega)
      have hbne := HBQ.out b o rfl
      have hcc : ∀ o', wr.cell? ⟨b, o', none⟩ = w.cell? ⟨b, o', none⟩ := fun o' => by
        have e := hN.1.2 b hb hbne
        simp only [World.cell?, e]
      have hbw := Nat.lt_of_lt_of_le hb hN.1.1
      have c1 := (hcc _).trans (hc i _ hLi 0 (by omega))
      have c2 := (hcc _).trans (hc i _ hLi 1 (by omega))
      have c3 := (hcc _).trans (hc i _ hLi 2 (by omega))
      have hInP := HIN.out _ hgK
      have hgdB := goodB_K P L[i]
      rw [← HN.out] at hfill hlen
      have HFI := Lib.hid hfill
      have HLE := Lib.hid hlen
      have HMJ := Lib.hid (fun (w2 : World) => HMV.out L[i] w2 hgK)
      have hqn : q < wr.heap.size := hR.lt
      obtain ⟨p1, p2, p3, p4, p5, p6, p7, p8⟩ := prt_cells hB
      clear hLi hcc hc hfill hlen
      generalize L[i] = K at *
      obtain ⟨x, y, kk⟩ := K
      simp only [knL, List.getD_cons_succ, List.getD_cons_zero, Nat.add_zero] at c1 c2 c3 HMJ hInP hgdB hsn
      have HSN := Lib.hid hsn
      have HMK := Lib.hid (show mvK P ⟨x, y, kk⟩ = ⟨mvX P x y, mvY P x y, kk⟩ from rfl)
      generalize mvX P x y = X at *
      generalize mvY P x y = Y at *
      rw [← hgdB] at HSN
      clear hiL hgK
      clear hsn hgdB
      have hne1 : ¬ wr.heap.size = q := by omega
      have hgq : ¬ g = q := by have := HBG.out; have := HQB.out; omega
      have hgr : g < wr.heap.size := (hO.lt (g := g) rfl).2
      have hkr := fun (w2 : World) (h2 : Since (wr.alloc (.cells #[.int .i64 x, .int .i64 y, .bool kk] 62)) w2) => (krow wr wr.heap.size rfl 62 x y kk).since h2
      have HKRW := Lib.hid hkr
      have hntq : ¬ wr.heap.size = q := by omega
      have htg : ¬ wr.heap.size = g := by omega
      clear hkr
      cases hgd : goodB X Y

      · rw [hgd] at HSN
        have HG1 := Lib.hid (fun (w2 : World) (b2 : Nat) (hb2 : b2 = w2.heap.size) (ty : TypeId) => good1 w2 b2 hb2 X Y ty hInP)
        rw [hgd] at HG1
        clear hgd hInP
        go_upto_region 8 with (first | (go_at_call 14; (with_reducible refine (HMJ.out _).mono ?_); rintro e w5 ⟨rfl, hS5⟩; have kT5 := HKRW.out _ hS5; have hX5 := ((Since.refl wr).alloc _).trans hS5; have hz5 := hX5.below.size) | (go_at_call 61; (with_reducible refine (HG1.out _ _ (by simp) _).mono ?_); rintro e w6 ⟨rfl, hS6⟩; have hP6 := ((two_new w5 w5.heap.size rfl (.int .i64 X) (.int .i64 Y) 47).since ((Since.refl _).alloc _)).since hS6; have hX6 := ((Since.refl w5).alloc _).trans (((Since.refl _).alloc _).trans hS6); have hX6 := hX5.trans hX6; have kT6 := kT5.since (((Since.refl w5).alloc _).trans (((Since.refl _).alloc _).trans hS6)); have hR6 := hR.since hX6; have hB6 := hB.since hX6; have hO6 := OwnG.since hO hX6; have hN6 := hN.since hX6) | (go_at_call 30; (with_reducible refine (HFL.out E' _ hR6).mono ?_); rintro e w7 ⟨rfl, hR7, hN7⟩; have hP7 := hP6.near hN7 (by omega); have kT7 := kT6.near hN7 (by omega); have hB7 := hB6.near hN7 (by have := HQB.out; omega); have hO7 := OwnG.near hO6 hN7 (fun e => hgq (by injection e)); have hN8 := hN6.trans hN7))
        obtain ⟨t1, t2, t3, t4⟩ := kcells kT7
        obtain ⟨s1, s2, s3, s4, s5⟩ := id hP7
        obtain ⟨KX, v1, v2, v3, v4, v5, v6⟩ := own_kn_cells hO7 (i := i) (by rw [HLE.out]; exact hin)
        have hgs := (hO7.lt (g := g) rfl).2
        have HO := Lib.hid (OwnK.put hO7 i X Y kk (by rw [HLE.out]; exact hin))
        rw [← HMK.out, HFI.out] at HO
        have HW := HGW.out
        have HNZ := Lib.hid (((hN8.setNew HGW.out (i * 3) (.int .i64 X)).setNew HGW.out (i * 3 + 1) (.int .i64 Y)).setNew HGW.out (i * 3 + 2) (.bool kk))
        rw [← errX_false E'] at hR7
        have HRZ := Lib.hid (((hR7.far (fun e => hgq e) (i * 3) (.int .i64 X)).far (fun e => hgq e) (i * 3 + 1) (.int .i64 Y)).far (fun e => hgq e) (i * 3 + 2) (.bool kk))
        have hgb : ¬ g = bp := by have := HBG.out; omega
        have HBZ := Lib.hid (((hB7.far (fun e => hgb e) (i * 3) (.int .i64 X)).far (fun e => hgb e) (i * 3 + 1) (.int .i64 Y)).far (fun e => hgb e) (i * 3 + 2) (.bool kk))
        have HEE := Lib.hid (show errX false E' = errM E (goodL P (L.take (i + 1))) by
          rw [HSN.out, HE.out]; exact errX_next E (goodL P (L.take i)) false)
        clear hO hR hB hN hO7 hR7 hB7 hN8 kT7 hP7 HE HSN HLE
        go_wp2_with fail
        go_roundw
        case rel => first | exact ⟨i + 1, _, by omega, by first | rfl | go_num | simp, HO.out, HRZ.out, HBZ.out, HNZ.out, HEE⟩ | ((repeat apply Exists.intro); refine ⟨?_, rfl⟩; exact ⟨i + 1, _, by omega, by first | rfl | go_num | simp, HO.out, HRZ.out, HBZ.out, HNZ.out, HEE⟩)
        case measure => simp [intOf]; omega

      · rw [hgd] at HSN
        have HG1 := Lib.hid (fun (w2 : World) (b2 : Nat) (hb2 : b2 = w2.heap.size) (ty : TypeId) => good1 w2 b2 hb2 X Y ty hInP)
        rw [hgd] at HG1
        clear hgd hInP
        go_upto_region 8 with (first | (go_at_call 14; (with_reducible refine (HMJ.out _).mono ?_); rintro e w5 ⟨rfl, hS5⟩; have kT5 := HKRW.out _ hS5; have hX5 := ((Since.refl wr).alloc _).trans hS5; have hz5 := hX5.below.size) | (go_at_call 61; (with_reducible refine (HG1.out _ _ (by simp) _).mono ?_); rintro e w6 ⟨rfl, hS6⟩; have hP6 := ((two_new w5 w5.heap.size rfl (.int .i64 X) (.int .i64 Y) 47).since ((Since.refl _).alloc _)).since hS6; have hX6 := ((Since.refl w5).alloc _).trans (((Since.refl _).alloc _).trans hS6); have hX6 := hX5.trans hX6; have kT6 := kT5.since (((Since.refl w5).alloc _).trans (((Since.refl _).alloc _).trans hS6)); have hR6 := hR.since hX6; have hB6 := hB.since hX6; have hO6 := OwnG.since hO hX6; have hN6 := hN.since hX6) | (go_at_call 30; (with_reducible refine (HFL.out E' _ hR6).mono ?_); rintro e w7 ⟨rfl, hR7, hN7⟩; have hP7 := hP6.near hN7 (by omega); have kT7 := kT6.near hN7 (by omega); have hB7 := hB6.near hN7 (by have := HQB.out; omega); have hO7 := OwnG.near hO6 hN7 (fun e => hgq (by injection e)); have hN8 := hN6.trans hN7))
        obtain ⟨t1, t2, t3, t4⟩ := kcells kT6
        obtain ⟨s1, s2, s3, s4, s5⟩ := id hP6
        obtain ⟨KX, v1, v2, v3, v4, v5, v6⟩ := own_kn_cells hO6 (i := i) (by rw [HLE.out]; exact hin)
        have hgs := (hO6.lt (g := g) rfl).2
        have HO := Lib.hid (OwnK.put hO6 i X Y kk (by rw [HLE.out]; exact hin))
        rw [← HMK.out, HFI.out] at HO
        have HW := HGW.out
        have HNZ := Lib.hid (((hN6.setNew HGW.out (i * 3) (.int .i64 X)).setNew HGW.out (i * 3 + 1) (.int .i64 Y)).setNew HGW.out (i * 3 + 2) (.bool kk))
        rw [← errX_true E'] at hR6
        have HRZ := Lib.hid (((hR6.far (fun e => hgq e) (i * 3) (.int .i64 X)).far (fun e => hgq e) (i * 3 + 1) (.int .i64 Y)).far (fun e => hgq e) (i * 3 + 2) (.bool kk))
        have hgb : ¬ g = bp := by have := HBG.out; omega
        have HBZ := Lib.hid (((hB6.far (fun e => hgb e) (i * 3) (.int .i64 X)).far (fun e => hgb e) (i * 3 + 1) (.int .i64 Y)).far (fun e => hgb e) (i * 3 + 2) (.bool kk))
        have HEE := Lib.hid (show errX true E' = errM E (goodL P (L.take (i + 1))) by
          rw [HSN.out, HE.out]; exact errX_next E (goodL P (L.take i)) true)
        clear hO hR hB hN hO6 hR6 hB6 hN6 kT6 hP6 HE HSN HLE
        go_wp2_with fail
        go_roundw
        case rel => first | exact ⟨i + 1, _, by omega, by first | rfl | go_num | simp, HO.out, HRZ.out, HBZ.out, HNZ.out, HEE⟩ | ((repeat apply Exists.intro); refine ⟨?_, rfl⟩; exact ⟨i + 1, _, by omega, by first | rfl | go_num | simp, HO.out, HRZ.out, HBZ.out, HNZ.out, HEE⟩)
        case measure => simp [intOf]; omega

    · obtain rfl : n = i := by omega
      have hiI : ¬ (n : Int) < (n : Int) := by omega
      have e1 : L.take n = L := by rw [HN.out, List.take_length]
      have e2 := HE.out
      rw [e1] at e2
      rw [e1, Nat.sub_self, List.replicate_zero, List.append_nil] at hO
      have HEE := Lib.hid e2
      clear e1 e2 HE
      go_wp2_with fail
      go_ret
      rw [← HEE.out]
      exact ⟨g, rfl, hO, hR, hN⟩
end Go.Proofs.Ytcjjcjpkmjbfkaa
