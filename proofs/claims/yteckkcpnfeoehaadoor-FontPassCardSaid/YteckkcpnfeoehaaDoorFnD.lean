/-
  Layer 9: what the tables head, maxp and hhea tell (fields); agrees.
-/
import Derived.Test.YteckkcpnfeoehaaDoorFnC
namespace Go.Proofs.YteckkcpnfeoehaaDoor
set_option maxRecDepth 100000
open Go.RowKit Go.ChangeShapes Go.WideShapes Go.Deep
set_option linter.unusedVariables false
set_option linter.unusedSimpArgs false


theorem fn_head (A : Option Addr) (c : Nat) (L : List Int) (w : World) (hT : TabB w) (h : RdB w w.heap.size A L) (hb : Bytes L) (hn : L.length ≤ 140737488355328) :
    Calls Tryd.prog 69 #[.slice A L.length c] w fun e w' => e = .returned (.tuple #[.agg (hdC (ofL hd9 L)).toArray, .int .i64 (ofL hdE L)]) ∧ Since w w' :=
  hd_head A L.length c (fnL L) w hT (rdb_rd h) (bytes_fn hb) hn


theorem fn_maxp (A : Option Addr) (c : Nat) (L : List Int) (w : World) (hT : Tabs w) (h : RdB w w.heap.size A L) (hb : Bytes L) (hn : L.length ≤ 140737488355328) :
    Calls Tryd.prog 70 #[.slice A L.length c] w fun e w' => e = .returned (.tuple #[.agg (mxC (ofL mx9 L)).toArray, .int .i64 (ofL mxE L)]) ∧ Since w w' :=
  hd_maxp A L.length c (fnL L) w hT (rdb_rd h) (bytes_fn hb) hn

theorem fn_count (A : Option Addr) (c : Nat) (L : List Int) (w : World) (h : RdB w w.heap.size A L) (hb : Bytes L) (hn : L.length ≤ 140737488355328) :
    Calls Tryd.prog 71 #[.slice A L.length c] w fun e w' => e = .returned (.tuple #[.int .i64 (ofL ctN L), .int .i64 (ofL ctE L)]) ∧ Since w w' :=
  hd_count A L.length c (fnL L) w (rdb_rd h) (bytes_fn hb) hn
section
variable {P : Program} {fn : Func} {R : Ending → World → Prop} {a : Act} {w : World}
/-- The end of a function whose results are two structs in memory and two values. -/
theorem ret_agg22 {p q r s ty ty' : Nat} {b b' : Nat} {cs cs' : List Value} {d d' : TypeDesc} {x y : Value} (hf : fn.results = #[.cell p ty, .cell q ty', .tmp r, .tmp s]) (hp : a.tmps.getD p undef = .pointer (some ⟨b, 0, none⟩)) (hq : a.tmps.getD q undef = .pointer (some ⟨b', 0, none⟩)) (hr : a.tmps.getD r undef = x) (hs : a.tmps.getD s undef = y) (hc : BoxL w b cs) (hc' : BoxL w b' cs')
    (hu : P.underlying ty = some d) (hd : d.isRow = true) (hi : (P.info? ty).map (·.size) = some cs.length) (hu' : P.underlying ty' = some d') (hd' : d'.isRow = true) (hi' : (P.info? ty').map (·.size) = some cs'.length) (hdf : a.defers = []) (hR : R (.returned (.tuple #[.agg cs.toArray, .agg cs'.toArray, x, y])) w) : bodyPost P fn R .ret a w := by
  refine bodyPost_ret (v := .tuple #[.agg cs.toArray, .agg cs'.toArray, x, y]) ?_ hdf hR
  simp only [results, hf]
  have hl := run_loadVar_mid (P := P) w b 0 ty cs d hc.1 hu hd hi
  have hl' := run_loadVar_mid (P := P) w b' 0 ty' cs' d' hc'.1 hu' hd' hi'
  have hp' : a.tmps[p]?.getD undef = .pointer (some ⟨b, 0, none⟩) := by simpa using hp
  have hq' : a.tmps[q]?.getD undef = .pointer (some ⟨b', 0, none⟩) := by simpa using hq
  have hr' : a.tmps[r]?.getD undef = x := by simpa using hr
  have hs' : a.tmps[s]?.getD undef = y := by simpa using hs
  simp [hp', hq', hr', hs', asAddr, hl, hl']
end
def zH : Hd9 := ⟨0, 0, 0, 0, 0, false⟩
def zM : Mx9 := ⟨0, 0, 0, 0, 0, 0, 0⟩
theorem infoHd : (Tryd.prog.info? 24).map (·.size) = some 6 := by kernel_rfl
theorem infoMx : (Tryd.prog.info? 26).map (·.size) = some 7 := by kernel_rfl
theorem hdC_ones (h : Hd9) : ∀ v ∈ hdC h, v.oneCell' = true := (by
  intro v hv
  simp only [hdC, List.mem_cons, List.not_mem_nil, or_false] at hv
  rcases hv with rfl | rfl | rfl | rfl | rfl | rfl <;> rfl)
theorem hdC_one (h : Hd9) : (hdC h).toArray.all (·.oneCell') = true := all_oneCell_toArray (hdC_ones h)
theorem mxC_ones (h : Mx9) : ∀ v ∈ mxC h, v.oneCell' = true := (by
  intro v hv
  simp only [mxC, List.mem_cons, List.not_mem_nil, or_false] at hv
  rcases hv with rfl | rfl | rfl | rfl | rfl | rfl | rfl <;> rfl)
theorem mxC_one (h : Mx9) : (mxC h).toArray.all (·.oneCell') = true := all_oneCell_toArray (mxC_ones h)
section
variable {w : World} {b : Nat} {h h' : Hd9} {m m' : Mx9}
theorem BoxL.hd (hB : BoxL w b (hdC h)) (h' : Hd9) : BoxL (w.setCells b 0 (hdC h')) b (hdC h') := hB.setAll rfl
theorem BoxL.mx (hB : BoxL w b (mxC m)) (m' : Mx9) : BoxL (w.setCells b 0 (mxC m')) b (mxC m') := hB.setAll rfl
end
theorem RdBL.ofOwn {w : World} {base n c : Nat} {A : Option Addr} {GG : List (List Int)} (h : OwnBL w base (.slice A n c) GG) : RdBL w w.heap.size A GG := by
  obtain ⟨A', c', e, _, hr⟩ := h.rd
  injection e with e1
  rw [e1]; exact hr
section
variable {ops : Array Oper} {rest : List Oper} {op : Oper} {a : Act} {Q : Exit → Act → World → Prop} {w : World} {b : Nat} {h : Hd9} {m : Mx9}
theorem wp_hd_store (hgd : op.guard = none) (x y : Operand) (ho : op.op = .store 24 x y) (hx : a.eval x = .pointer (some ⟨b, 0, none⟩)) (hB : BoxL w b (hdC h)) (h' : Hd9) (hy : a.eval y = .agg (hdC h').toArray) (hk : ∀ w', BoxL w' b (hdC h') → Nigh b w w' → wpList Tryd.prog ops Q rest (a.put op.dst undef) w') : wpList Tryd.prog ops Q (op :: rest) a w :=
  wpList_store_box hgd _ x y ho hx hB (hdC h') hy rfl infoHd (hdC_one h') hk
theorem wp_mx_store (hgd : op.guard = none) (x y : Operand) (ho : op.op = .store 26 x y) (hx : a.eval x = .pointer (some ⟨b, 0, none⟩)) (hB : BoxL w b (mxC m)) (m' : Mx9) (hy : a.eval y = .agg (mxC m').toArray) (hk : ∀ w', BoxL w' b (mxC m') → Nigh b w w' → wpList Tryd.prog ops Q rest (a.put op.dst undef) w') : wpList Tryd.prog ops Q (op :: rest) a w :=
  wpList_store_box hgd _ x y ho hx hB (mxC m') hy rfl infoMx (mxC_one m') hk
end
/-- Three rows of bytes, cell by cell. -/
theorem rows3 {w : World} {B : Nat} {A : Option Addr} {L0 L1 L2 : List Int} (h : RdBL w B A [L0, L1, L2]) : ∃ b o A0 c0 A1 c1 A2 c2, A = some ⟨b, o, none⟩ ∧ b < B ∧ w.cell? ⟨b, o, none⟩ = some (.slice A0 L0.length c0) ∧ w.cell? ⟨b, o + 1, none⟩ = some (.slice A1 L1.length c1) ∧ w.cell? ⟨b, o + 2, none⟩ = some (.slice A2 L2.length c2) ∧ RdB w B A0 L0 ∧ RdB w B A1 L1 ∧ RdB w B A2 L2 := by
  obtain ⟨b, o, A0, c0, e, hb, h0, _, k0⟩ := h.row (j := 0) (L := L0) rfl
  obtain ⟨b', o', A1, c1, e', _, h1, _, k1⟩ := h.row (j := 1) (L := L1) rfl
  obtain ⟨b'', o'', A2, c2, e'', _, h2, _, k2⟩ := h.row (j := 2) (L := L2) rfl
  subst e
  injection e' with e'
  injection e' with e1 e2
  injection e'' with e''
  injection e'' with e3 e4
  subst e1 e2 e3 e4
  exact ⟨b, o, A0, c0, A1, c1, A2, c2, rfl, hb, h0, h1, h2, k0, k1, k2⟩
theorem OwnBL.nigh {w w' : World} {base q : Nat} {v : Value} {GG : List (List Int)} (h : OwnBL w base v GG) (k : Nigh q w w') (hq : q < base) : OwnBL w' base v GG := h.keepB fun x hx hl => k.1.2 x hl (by omega)
theorem rows3a {w : World} {base b o c : Nat} {L0 L1 L2 : List Int} (h : OwnBL w base (.slice (some ⟨b, o, none⟩) 3 c) [L0, L1, L2]) : ∃ A0 c0 A1 c1 A2 c2, w.cell? ⟨b, o, none⟩ = some (.slice A0 L0.length c0) ∧ w.cell? ⟨b, o + 1, none⟩ = some (.slice A1 L1.length c1) ∧ w.cell? ⟨b, o + 2, none⟩ = some (.slice A2 L2.length c2) ∧ RdB w w.heap.size A0 L0 ∧ RdB w w.heap.size A1 L1 ∧ RdB w w.heap.size A2 L2 := by
  obtain ⟨b', o', A0, c0, A1, c1, A2, c2, e, _, r⟩ := rows3 (RdBL.ofOwn h)
  injection e with e
  injection e with e1 e2
  subst e1 e2
  exact ⟨A0, c0, A1, c1, A2, c2, r⟩
theorem hd_six {w : World} {b : Nat} {H : Hd9} (hB : BoxL w b (hdC H)) : BoxL ((((((w.setCell ⟨b, 0, none⟩ (.int .i64 H.em)).setCell ⟨b, 1, none⟩ (.int .i64 H.a)).setCell ⟨b, 2, none⟩ (.int .i64 H.b)).setCell ⟨b, 3, none⟩ (.int .i64 H.c)).setCell ⟨b, 4, none⟩ (.int .i64 H.d)).setCell ⟨b, 5, none⟩ (.bool H.l)) b (hdC H) := ((((((hB.set 0 _).set 1 _).set 2 _).set 3 _).set 4 _).set 5 _)
theorem mx_six {w : World} {b : Nat} {M : Mx9} (hB : BoxL w b (mxC M)) : BoxL (((((((w.setCell ⟨b, 0, none⟩ (.int .i64 M.g)).setCell ⟨b, 1, none⟩ (.int .i64 M.p)).setCell ⟨b, 2, none⟩ (.int .i64 M.c)).setCell ⟨b, 3, none⟩ (.int .i64 M.q)).setCell ⟨b, 4, none⟩ (.int .i64 M.r)).setCell ⟨b, 5, none⟩ (.int .i64 M.e)).setCell ⟨b, 6, none⟩ (.int .i64 M.d)) b (mxC M) := (((((((hB.set 0 _).set 1 _).set 2 _).set 3 _).set 4 _).set 5 _).set 6 _)
theorem hd_far {w : World} {b b' : Nat} {H : Hd9} {cs : List Value} (hb : b' ≠ b) (hB : BoxL w b cs) : BoxL ((((((w.setCell ⟨b', 0, none⟩ (.int .i64 H.em)).setCell ⟨b', 1, none⟩ (.int .i64 H.a)).setCell ⟨b', 2, none⟩ (.int .i64 H.b)).setCell ⟨b', 3, none⟩ (.int .i64 H.c)).setCell ⟨b', 4, none⟩ (.int .i64 H.d)).setCell ⟨b', 5, none⟩ (.bool H.l)) b cs := ((((((hB.far (hb) 0 _).far (hb) 1 _).far (hb) 2 _).far (hb) 3 _).far (hb) 4 _).far (hb) 5 _)
theorem mx_far {w : World} {b b' : Nat} {M : Mx9} {cs : List Value} (hb : b' ≠ b) (hB : BoxL w b cs) : BoxL (((((((w.setCell ⟨b', 0, none⟩ (.int .i64 M.g)).setCell ⟨b', 1, none⟩ (.int .i64 M.p)).setCell ⟨b', 2, none⟩ (.int .i64 M.c)).setCell ⟨b', 3, none⟩ (.int .i64 M.q)).setCell ⟨b', 4, none⟩ (.int .i64 M.r)).setCell ⟨b', 5, none⟩ (.int .i64 M.e)).setCell ⟨b', 6, none⟩ (.int .i64 M.d)) b cs := (((((((hB.far hb 0 _).far hb 1 _).far hb 2 _).far hb 3 _).far hb 4 _).far hb 5 _).far hb 6 _)
theorem hd_sinc {w w0 : World} {b : Nat} {H : Hd9} (hb : w0.heap.size ≤ b) (hS : Since w0 w) : Since w0 ((((((w.setCell ⟨b, 0, none⟩ (.int .i64 H.em)).setCell ⟨b, 1, none⟩ (.int .i64 H.a)).setCell ⟨b, 2, none⟩ (.int .i64 H.b)).setCell ⟨b, 3, none⟩ (.int .i64 H.c)).setCell ⟨b, 4, none⟩ (.int .i64 H.d)).setCell ⟨b, 5, none⟩ (.bool H.l)) := (nigh_setCells b (hdC H) 0 (Nigh.refl b w)).2 w0 hS hb
theorem mx_sinc {w w0 : World} {b : Nat} {M : Mx9} (hb : w0.heap.size ≤ b) (hS : Since w0 w) : Since w0 (((((((w.setCell ⟨b, 0, none⟩ (.int .i64 M.g)).setCell ⟨b, 1, none⟩ (.int .i64 M.p)).setCell ⟨b, 2, none⟩ (.int .i64 M.c)).setCell ⟨b, 3, none⟩ (.int .i64 M.q)).setCell ⟨b, 4, none⟩ (.int .i64 M.r)).setCell ⟨b, 5, none⟩ (.int .i64 M.e)).setCell ⟨b, 6, none⟩ (.int .i64 M.d)) := (nigh_setCells b (mxC M) 0 (Nigh.refl b w)).2 w0 hS hb
theorem look3 (TT : List Tb) (s0 s1 s2 : ByteArray) (A : Option Addr) (N c b : Nat) (w0 w : World) (hR : RdTL w0 w0.heap.size A TT) (hL : N = TT.length) (hn : N ≤ maxLen) (hm : ∀ T, T ∈ TT → T.data.length ≤ 140737488355328) (hS : Since w0 w) (ty : TypeId) (hb : b = w.heap.size) :
    Calls Tryd.prog 31 #[.slice A N c, .slice (some ⟨b, 0, none⟩) 3 3] (w.alloc (.cells #[.string s0, .string s1, .string s2] ty)) fun e w' => ∃ A2 c2, e = .returned (.tuple #[.slice A2 3 c2, .int .i64 (lookE TT [s0, s1, s2])]) ∧ OwnBL w' w.heap.size (.slice A2 3 c2) [dat9 TT s0, dat9 TT s1, dat9 TT s2] ∧ Since w w' := by
  have hk := (Since.refl w).alloc (.cells #[.string s0, .string s1, .string s2] ty)
  refine (fn_look TT [s0, s1, s2] A (some ⟨b, 0, none⟩) N c 3 3 _ (hR.on (hS.trans hk)) hL hn hm (rdG_lit hb _ (fun j s hj i hi => ?_)) rfl (by omega)).mono ?_
  · obtain rfl : i = 0 := by omega
    rcases j with _ | _ | _ | j
    · simp only [List.getElem?_cons_zero, Option.some.injEq] at hj; subst hj; rfl
    · simp only [List.getElem?_cons_succ, List.getElem?_cons_zero, Option.some.injEq] at hj; subst hj; rfl
    · simp only [List.getElem?_cons_succ, List.getElem?_cons_zero, Option.some.injEq] at hj; subst hj; rfl
    · simp at hj
  · rintro e w' ⟨A2, c2, rfl, hO, hX⟩
    exact ⟨A2, c2, rfl, OwnBL.low hO hk.below.size, hk.trans hX⟩
theorem look3E (TT : List Tb) (s0 s1 s2 : ByteArray) : lookE TT [s0, s1, s2] = if (has9 TT s0 && has9 TT s1 && has9 TT s2) = true then 0 else 8 := by
  unfold lookE; simp [Bool.and_assoc]
def FldP (TT : List Tb) (w : World) (e : Ending) (w' : World) : Prop := e = .returned (.tuple #[.agg (hdC (fldH TT)).toArray, .agg (mxC (fldM TT)).toArray, .int .i64 (fldC TT), .int .i64 (fldE TT)]) ∧ Since w w'
theorem fld_no {TT : List Tb} {w w' : World} {x : Int} (hx : fldE TT = x) (h0 : x ≠ 0) (hS : Since w w') : FldP TT w (.returned (.tuple #[.agg (hdC zH).toArray, .agg (mxC zM).toArray, .int .i64 0, .int .i64 x])) w' := by
  have h1 : ¬ fldE TT = 0 := by rw [hx]; exact h0
  refine ⟨?_, hS⟩
  unfold fldH fldM fldC
  rw [if_neg h1, if_neg h1, if_neg h1, hx]; rfl
theorem fld_yes {TT : List Tb} {w w' : World} (hx : fldE TT = 0) (hS : Since w w') : FldP TT w (.returned (.tuple #[.agg (hdC (ofL hd9 (dat9 TT tgHead))).toArray, .agg (mxC (ofL mx9 (dat9 TT tgMaxp))).toArray, .int .i64 (ofL ctN (dat9 TT tgHhea)), .int .i64 0])) w' := by
  refine ⟨?_, hS⟩
  unfold fldH fldM fldC
  rw [if_pos hx, if_pos hx, if_pos hx, hx]
set_option maxRecDepth 1000000 in
set_option maxHeartbeats 32000000 in
theorem fn_fields (TT : List Tb) (A : Option Addr) (N c : Nat) (w : World) (hT : Tabs w) (hR : RdTL w w.heap.size A TT) (hL : N = TT.length) (hn : N ≤ maxLen) (hm : ∀ T, T ∈ TT → T.data.length ≤ 140737488355328) (hby : ∀ T, T ∈ TT → Bytes T.data) :
    Calls Tryd.prog 32 #[.slice A N c] w (FldP TT w) := by
  have HLK := Lib.hid (fun b w2 (h2 : Since w w2) ty hb => look3 TT tgHead tgMaxp tgHhea A N c b w w2 hR hL hn hm h2 ty hb)
  have HT := Lib.hid hT
  have HB0 := Lib.hid (dat9_cases (P := Bytes) (TT := TT) (fun v hv => by cases hv) hby)
  have HL0 := Lib.hid (dat9_cases (P := fun L => L.length ≤ 140737488355328) (TT := TT) (by simp) hm)
  rw [look3E] at HLK
  clear hR hL hm hby hT
  cases h3 : three9 TT
  · have hE := Lib.hid (show fldE TT = 8 by unfold fldE; rw [if_pos h3])
    unfold three9 at h3
    rw [h3] at HLK
    simp only [Bool.false_eq_true, if_false] at HLK
    clear h3
    go_enter Tryd.func32, Tryd.ntmps32
    go_upto_region 1 with fail
    refine wp_named fun w1 hw1 => ?_
    have hS1 : Since w w1 := by subst hw1; (repeat (first | with_reducible (exact Since.refl _) | with_reducible assumption | with_reducible (refine Since.drew ?_) | with_reducible (refine Since.drewN ?_ _) | with_reducible (refine Since.alloc ?_ _) | (with_reducible (refine Since.setCell ?_ ?_ _); rotate_left; focus (first | (simp; done) | (simp; omega) | omega)) | (with_reducible (refine Since.trans ?_ (by with_reducible assumption)))))
    have hb1 : BoxL w1 w.heap.size (hdC zH) := by subst hw1; exact (BoxL.new w _ rfl _ _).alloc _
    have hb2 : BoxL w1 (w.heap.size + 1) (mxC zM) := by subst hw1; exact BoxL.new _ _ (by simp) _ _
    have hq1 : w.heap.size ≤ w.heap.size := Nat.le_refl _
    have hne : w.heap.size + 1 ≠ w.heap.size := by omega
    clear hw1
    go_wp2_with (first | (go_at_call 31; (with_reducible refine (HLK.out _ _ hS1 _ rfl).mono ?_); rintro e w2 ⟨A2, c2, rfl, hO2, hS2⟩; obtain ⟨bq, oq, B0, k0, B1, k1, B2, k2, rfl, hbq, d0, d1, d2, r0, r1, r2⟩ := rows3 (RdBL.ofOwn hO2); have hS12 := hS1.trans hS2; have hb21 := hb1.since hS2; have hb22 := hb2.since hS2) | (refine wp_hd_store rfl _ _ rfl (by rfl) (by with_reducible exact hb21) zH (by rfl) ?_; intro wy hz1 hNy; have hz2 := hb22.nigh hNy hne; have hSz := hNy.2 w hS12 (Nat.le_refl _)) | (refine wp_mx_store rfl _ _ rfl (by rfl) (by with_reducible exact hz2) zM (by rfl) ?_; intro wz hy2 hNz; have hy1 := hz1.nigh hNz (Ne.symm hne); have hSy := hNz.2 w hSz (Nat.le_succ _)))
    refine ret_agg22 (P := Tryd.prog) Tryd.results32 (by rfl) (by rfl) (by rfl) (by rfl) hy1 hy2 Tryd.underlying24 rfl infoHd Tryd.underlying26 rfl infoMx rfl (fld_no hE.out (by omega) hSy)
  · have h3' := h3
    unfold three9 at h3'
    rw [h3'] at HLK
    simp only [if_true] at HLK
    clear h3'
    have hEE := fldE.eq_1 TT
    rw [h3, if_neg (by simp)] at hEE
    have hYES := Lib.hid (fun (w' : World) (hx : fldE TT = 0) (hS : Since w w') => fld_yes hx hS)
    obtain ⟨L0, hL0⟩ : ∃ L, L = dat9 TT tgHead := ⟨_, rfl⟩
    obtain ⟨L1, hL1⟩ : ∃ L, L = dat9 TT tgMaxp := ⟨_, rfl⟩
    obtain ⟨L2, hL2⟩ : ∃ L, L = dat9 TT tgHhea := ⟨_, rfl⟩
    have y0 : Bytes L0 := by rw [hL0]; exact HB0.out _
    have y1 : Bytes L1 := by rw [hL1]; exact HB0.out _
    have y2 : Bytes L2 := by rw [hL2]; exact HB0.out _
    have n0 : L0.length ≤ 140737488355328 := by rw [hL0]; exact HL0.out _
    have n1 : L1.length ≤ 140737488355328 := by rw [hL1]; exact HL0.out _
    have n2 : L2.length ≤ 140737488355328 := by rw [hL2]; exact HL0.out _
    rw [← hL0, ← hL1, ← hL2] at HLK hYES
    rw [← hL0, ← hL1, ← hL2] at hEE
    have C0 := Lib.hid (fun A c w2 hT h => fn_head A c L0 w2 hT h y0 n0)
    have C1 := Lib.hid (fun A c w2 hT h => fn_maxp A c L1 w2 hT h y1 n1)
    have C2 := Lib.hid (fun A c w2 h => fn_count A c L2 w2 h y2 n2)
    clear hL0 hL1 hL2 h3 HB0 HL0 y0 y1 y2 n0 n1 n2
    generalize ofL hdE L0 = x0 at *
    generalize ofL mxE L1 = x1 at *
    generalize ofL ctE L2 = x2 at *
    generalize ofL hd9 L0 = H at *
    generalize ofL mx9 L1 = M at *
    generalize ofL ctN L2 = K at *
    by_cases hx0 : x0 = 0
    · subst hx0
      rw [if_neg (by simp)] at hEE
      by_cases hx1 : x1 = 0
      · subst hx1
        rw [if_neg (by simp)] at hEE
        by_cases hx2 : x2 = 0
        · subst hx2
          have hE := Lib.hid hEE
          clear hEE
          go_enter Tryd.func32, Tryd.ntmps32
          go_upto_region 1 with fail
          refine wp_named fun w1 hw1 => ?_
          have hS1 : Since w w1 := by subst hw1; (repeat (first | with_reducible (exact Since.refl _) | with_reducible assumption | with_reducible (refine Since.drew ?_) | with_reducible (refine Since.drewN ?_ _) | with_reducible (refine Since.alloc ?_ _) | (with_reducible (refine Since.setCell ?_ ?_ _); rotate_left; focus (first | (simp; done) | (simp; omega) | omega)) | (with_reducible (refine Since.trans ?_ (by with_reducible assumption)))))
          have hb1 : BoxL w1 w.heap.size (hdC zH) := by subst hw1; exact (BoxL.new w _ rfl _ _).alloc _
          have hb2 : BoxL w1 (w.heap.size + 1) (mxC zM) := by subst hw1; exact BoxL.new _ _ (by simp) _ _
          have hq1 : w.heap.size ≤ w.heap.size := Nat.le_refl _
          have hne : w.heap.size + 1 ≠ w.heap.size := by omega
          clear hw1
          go_upto_region 13 with (first | (go_at_call 31; (with_reducible refine (HLK.out _ _ hS1 _ rfl).mono ?_); rintro e w2 ⟨A2, c2, rfl, hO2, hS2⟩; obtain ⟨bq, oq, B0, k0, B1, k1, B2, k2, rfl, hbq, d0, d1, d2, r0, r1, r2⟩ := rows3 (RdBL.ofOwn hO2); have hS12 := hS1.trans hS2; have hb21 := hb1.since hS2; have hb22 := hb2.since hS2) | (go_at_call 69; (with_reducible refine (C0.out _ _ _ (HT.out.since hS12).b r0).mono ?_); rintro e w3 ⟨rfl, hS3⟩; have hS13 := hS12.trans hS3; have hb31 := hb21.since hS3; have hb32 := hb22.since hS3; skip) | (go_at_call 70; (with_reducible refine (C1.out _ _ _ (HT.out.since hS14) p1).mono ?_); rintro e w5 ⟨rfl, hS5⟩; have hS15 := hS14.trans hS5; have hb51 := hb41.since hS5; have hb52 := hb42.since hS5) | (go_at_call 71; (with_reducible refine (C2.out _ _ _ t2).mono ?_); rintro e w7 ⟨rfl, hS7⟩; have hS17 := hS16.trans hS7; have hb71 := hb61.since hS7; have hb72 := hb62.since hS7) | (refine wp_hd_store rfl _ _ rfl (by rfl) (by with_reducible exact hb31) H (by rfl) ?_; intro w4 hb41 hN4; have hb42 := hb32.nigh hN4 hne; have hS14 := hN4.2 w hS13 (Nat.le_refl _); have hO4 := (hO2.since hS3).nigh hN4 hb1.lt; obtain ⟨P0, a0, P1, a1, P2, a2, e0, e1, e2, p0, p1, p2⟩ := rows3a hO4) | (refine wp_mx_store rfl _ _ rfl (by rfl) (by with_reducible exact hb52) M (by rfl) ?_; intro w6 hb62 hN6; have hb61 := hb51.nigh hN6 (Ne.symm hne); have hS16 := hN6.2 w hS15 (Nat.le_succ _); have hO6 := (hO4.since hS5).nigh hN6 hb2.lt; obtain ⟨S0, i0, S1, i1, S2, i2, g0, g1, g2, t0, t1, t2⟩ := rows3a hO6))
          have q0 := hb71.cell 0 (v := .int .i64 H.em) rfl
          have q1 := hb71.cell 1 (v := .int .i64 H.a) rfl
          have q2 := hb71.cell 2 (v := .int .i64 H.b) rfl
          have q3 := hb71.cell 3 (v := .int .i64 H.c) rfl
          have q4 := hb71.cell 4 (v := .int .i64 H.d) rfl
          have q5 := hb71.cell 5 (v := .bool H.l) rfl
          have u0 := hb72.cell 0 (v := .int .i64 M.g) rfl
          have u1 := hb72.cell 1 (v := .int .i64 M.p) rfl
          have u2 := hb72.cell 2 (v := .int .i64 M.c) rfl
          have u3 := hb72.cell 3 (v := .int .i64 M.q) rfl
          have u4 := hb72.cell 4 (v := .int .i64 M.r) rfl
          have u5 := hb72.cell 5 (v := .int .i64 M.e) rfl
          have u6 := hb72.cell 6 (v := .int .i64 M.d) rfl
          have fz1 := fun j => hb71.frz j
          have fz2 := fun j => hb72.frz j
          have lz1 := hb71.lt
          have lz2 := hb72.lt
          have hne' : ¬ w.heap.size = w.heap.size + 1 := by omega
          clear d0 d1 d2 e0 e1 e2 g0 g1 g2
          go_region
          go_wp2_with fail
          refine ret_agg22 (P := Tryd.prog) Tryd.results32 (by rfl) (by rfl) (by rfl) (by rfl) (mx_far hne (hd_six hb71)).drew (mx_six (hd_far (Ne.symm hne) hb72)).drew Tryd.underlying24 rfl infoHd Tryd.underlying26 rfl infoMx rfl (hYES.out _ hE.out (Since.drew (mx_sinc (Nat.le_succ _) (hd_sinc (Nat.le_refl _) hS17))))
        · have dx : (x2 == 0) = false := by simpa using hx2
          have hE := Lib.hid hEE
          have HX := Lib.hid hx2
          clear hEE hYES hx2
          go_enter Tryd.func32, Tryd.ntmps32
          go_upto_region 1 with fail
          refine wp_named fun w1 hw1 => ?_
          have hS1 : Since w w1 := by subst hw1; (repeat (first | with_reducible (exact Since.refl _) | with_reducible assumption | with_reducible (refine Since.drew ?_) | with_reducible (refine Since.drewN ?_ _) | with_reducible (refine Since.alloc ?_ _) | (with_reducible (refine Since.setCell ?_ ?_ _); rotate_left; focus (first | (simp; done) | (simp; omega) | omega)) | (with_reducible (refine Since.trans ?_ (by with_reducible assumption)))))
          have hb1 : BoxL w1 w.heap.size (hdC zH) := by subst hw1; exact (BoxL.new w _ rfl _ _).alloc _
          have hb2 : BoxL w1 (w.heap.size + 1) (mxC zM) := by subst hw1; exact BoxL.new _ _ (by simp) _ _
          have hq1 : w.heap.size ≤ w.heap.size := Nat.le_refl _
          have hne : w.heap.size + 1 ≠ w.heap.size := by omega
          clear hw1
          go_wp2_with (first | (go_at_call 31; (with_reducible refine (HLK.out _ _ hS1 _ rfl).mono ?_); rintro e w2 ⟨A2, c2, rfl, hO2, hS2⟩; obtain ⟨bq, oq, B0, k0, B1, k1, B2, k2, rfl, hbq, d0, d1, d2, r0, r1, r2⟩ := rows3 (RdBL.ofOwn hO2); have hS12 := hS1.trans hS2; have hb21 := hb1.since hS2; have hb22 := hb2.since hS2) | (go_at_call 69; (with_reducible refine (C0.out _ _ _ (HT.out.since hS12).b r0).mono ?_); rintro e w3 ⟨rfl, hS3⟩; have hS13 := hS12.trans hS3; have hb31 := hb21.since hS3; have hb32 := hb22.since hS3; skip) | (go_at_call 70; (with_reducible refine (C1.out _ _ _ (HT.out.since hS14) p1).mono ?_); rintro e w5 ⟨rfl, hS5⟩; have hS15 := hS14.trans hS5; have hb51 := hb41.since hS5; have hb52 := hb42.since hS5) | (go_at_call 71; (with_reducible refine (C2.out _ _ _ t2).mono ?_); rintro e w7 ⟨rfl, hS7⟩; have hS17 := hS16.trans hS7; have hb71 := hb61.since hS7; have hb72 := hb62.since hS7) | (refine wp_hd_store rfl _ _ rfl (by rfl) (by with_reducible exact hb71) zH (by rfl) ?_; intro wy hz1 hNy; have hz2 := hb72.nigh hNy hne; have hSz := hNy.2 w hS17 (Nat.le_refl _)) | (refine wp_mx_store rfl _ _ rfl (by rfl) (by with_reducible exact hz2) zM (by rfl) ?_; intro wz hy2 hNz; have hy1 := hz1.nigh hNz (Ne.symm hne); have hSy := hNz.2 w hSz (Nat.le_succ _)) | (refine wp_hd_store rfl _ _ rfl (by rfl) (by with_reducible exact hb31) H (by rfl) ?_; intro w4 hb41 hN4; have hb42 := hb32.nigh hN4 hne; have hS14 := hN4.2 w hS13 (Nat.le_refl _); have hO4 := (hO2.since hS3).nigh hN4 hb1.lt; obtain ⟨P0, a0, P1, a1, P2, a2, e0, e1, e2, p0, p1, p2⟩ := rows3a hO4) | (refine wp_mx_store rfl _ _ rfl (by rfl) (by with_reducible exact hb52) M (by rfl) ?_; intro w6 hb62 hN6; have hb61 := hb51.nigh hN6 (Ne.symm hne); have hS16 := hN6.2 w hS15 (Nat.le_succ _); have hO6 := (hO4.since hS5).nigh hN6 hb2.lt; obtain ⟨S0, i0, S1, i1, S2, i2, g0, g1, g2, t0, t1, t2⟩ := rows3a hO6))
          refine ret_agg22 (P := Tryd.prog) Tryd.results32 (by rfl) (by rfl) (by rfl) (by rfl) hy1 hy2 Tryd.underlying24 rfl infoHd Tryd.underlying26 rfl infoMx rfl (fld_no hE.out HX.out hSy)
      · have dx : (x1 == 0) = false := by simpa using hx1
        rw [if_pos hx1] at hEE
        have hE := Lib.hid hEE
        have HX := Lib.hid hx1
        clear hEE hYES hx1
        go_enter Tryd.func32, Tryd.ntmps32
        go_upto_region 1 with fail
        refine wp_named fun w1 hw1 => ?_
        have hS1 : Since w w1 := by subst hw1; (repeat (first | with_reducible (exact Since.refl _) | with_reducible assumption | with_reducible (refine Since.drew ?_) | with_reducible (refine Since.drewN ?_ _) | with_reducible (refine Since.alloc ?_ _) | (with_reducible (refine Since.setCell ?_ ?_ _); rotate_left; focus (first | (simp; done) | (simp; omega) | omega)) | (with_reducible (refine Since.trans ?_ (by with_reducible assumption)))))
        have hb1 : BoxL w1 w.heap.size (hdC zH) := by subst hw1; exact (BoxL.new w _ rfl _ _).alloc _
        have hb2 : BoxL w1 (w.heap.size + 1) (mxC zM) := by subst hw1; exact BoxL.new _ _ (by simp) _ _
        have hq1 : w.heap.size ≤ w.heap.size := Nat.le_refl _
        have hne : w.heap.size + 1 ≠ w.heap.size := by omega
        clear hw1
        go_wp2_with (first | (go_at_call 31; (with_reducible refine (HLK.out _ _ hS1 _ rfl).mono ?_); rintro e w2 ⟨A2, c2, rfl, hO2, hS2⟩; obtain ⟨bq, oq, B0, k0, B1, k1, B2, k2, rfl, hbq, d0, d1, d2, r0, r1, r2⟩ := rows3 (RdBL.ofOwn hO2); have hS12 := hS1.trans hS2; have hb21 := hb1.since hS2; have hb22 := hb2.since hS2) | (go_at_call 69; (with_reducible refine (C0.out _ _ _ (HT.out.since hS12).b r0).mono ?_); rintro e w3 ⟨rfl, hS3⟩; have hS13 := hS12.trans hS3; have hb31 := hb21.since hS3; have hb32 := hb22.since hS3; skip) | (go_at_call 70; (with_reducible refine (C1.out _ _ _ (HT.out.since hS14) p1).mono ?_); rintro e w5 ⟨rfl, hS5⟩; have hS15 := hS14.trans hS5; have hb51 := hb41.since hS5; have hb52 := hb42.since hS5) | (refine wp_hd_store rfl _ _ rfl (by rfl) (by with_reducible exact hb61) zH (by rfl) ?_; intro wy hz1 hNy; have hz2 := hb62.nigh hNy hne; have hSz := hNy.2 w hS16 (Nat.le_refl _)) | (refine wp_mx_store rfl _ _ rfl (by rfl) (by with_reducible exact hz2) zM (by rfl) ?_; intro wz hy2 hNz; have hy1 := hz1.nigh hNz (Ne.symm hne); have hSy := hNz.2 w hSz (Nat.le_succ _)) | (refine wp_hd_store rfl _ _ rfl (by rfl) (by with_reducible exact hb31) H (by rfl) ?_; intro w4 hb41 hN4; have hb42 := hb32.nigh hN4 hne; have hS14 := hN4.2 w hS13 (Nat.le_refl _); have hO4 := (hO2.since hS3).nigh hN4 hb1.lt; obtain ⟨P0, a0, P1, a1, P2, a2, e0, e1, e2, p0, p1, p2⟩ := rows3a hO4) | (refine wp_mx_store rfl _ _ rfl (by rfl) (by with_reducible exact hb52) M (by rfl) ?_; intro w6 hb62 hN6; have hb61 := hb51.nigh hN6 (Ne.symm hne); have hS16 := hN6.2 w hS15 (Nat.le_succ _); have hO6 := (hO4.since hS5).nigh hN6 hb2.lt; obtain ⟨S0, i0, S1, i1, S2, i2, g0, g1, g2, t0, t1, t2⟩ := rows3a hO6))
        refine ret_agg22 (P := Tryd.prog) Tryd.results32 (by rfl) (by rfl) (by rfl) (by rfl) hy1 hy2 Tryd.underlying24 rfl infoHd Tryd.underlying26 rfl infoMx rfl (fld_no hE.out HX.out hSy)
    · have dx : (x0 == 0) = false := by simpa using hx0
      rw [if_pos hx0] at hEE
      have hE := Lib.hid hEE
      have HX := Lib.hid hx0
      clear hEE hYES hx0
      go_enter Tryd.func32, Tryd.ntmps32
      go_upto_region 1 with fail
      refine wp_named fun w1 hw1 => ?_
      have hS1 : Since w w1 := by subst hw1; (repeat (first | with_reducible (exact Since.refl _) | with_reducible assumption | with_reducible (refine Since.drew ?_) | with_reducible (refine Since.drewN ?_ _) | with_reducible (refine Since.alloc ?_ _) | (with_reducible (refine Since.setCell ?_ ?_ _); rotate_left; focus (first | (simp; done) | (simp; omega) | omega)) | (with_reducible (refine Since.trans ?_ (by with_reducible assumption)))))
      have hb1 : BoxL w1 w.heap.size (hdC zH) := by subst hw1; exact (BoxL.new w _ rfl _ _).alloc _
      have hb2 : BoxL w1 (w.heap.size + 1) (mxC zM) := by subst hw1; exact BoxL.new _ _ (by simp) _ _
      have hq1 : w.heap.size ≤ w.heap.size := Nat.le_refl _
      have hne : w.heap.size + 1 ≠ w.heap.size := by omega
      clear hw1
      go_wp2_with (first | (go_at_call 31; (with_reducible refine (HLK.out _ _ hS1 _ rfl).mono ?_); rintro e w2 ⟨A2, c2, rfl, hO2, hS2⟩; obtain ⟨bq, oq, B0, k0, B1, k1, B2, k2, rfl, hbq, d0, d1, d2, r0, r1, r2⟩ := rows3 (RdBL.ofOwn hO2); have hS12 := hS1.trans hS2; have hb21 := hb1.since hS2; have hb22 := hb2.since hS2) | (go_at_call 69; (with_reducible refine (C0.out _ _ _ (HT.out.since hS12).b r0).mono ?_); rintro e w3 ⟨rfl, hS3⟩; have hS13 := hS12.trans hS3; have hb31 := hb21.since hS3; have hb32 := hb22.since hS3; skip) | (refine wp_hd_store rfl _ _ rfl (by rfl) (by with_reducible exact hb41) zH (by rfl) ?_; intro wy hz1 hNy; have hz2 := hb42.nigh hNy hne; have hSz := hNy.2 w hS14 (Nat.le_refl _)) | (refine wp_mx_store rfl _ _ rfl (by rfl) (by with_reducible exact hz2) zM (by rfl) ?_; intro wz hy2 hNz; have hy1 := hz1.nigh hNz (Ne.symm hne); have hSy := hNz.2 w hSz (Nat.le_succ _)) | (refine wp_hd_store rfl _ _ rfl (by rfl) (by with_reducible exact hb31) H (by rfl) ?_; intro w4 hb41 hN4; have hb42 := hb32.nigh hN4 hne; have hS14 := hN4.2 w hS13 (Nat.le_refl _); have hO4 := (hO2.since hS3).nigh hN4 hb1.lt; obtain ⟨P0, a0, P1, a1, P2, a2, e0, e1, e2, p0, p1, p2⟩ := rows3a hO4))
      refine ret_agg22 (P := Tryd.prog) Tryd.results32 (by rfl) (by rfl) (by rfl) (by rfl) hy1 hy2 Tryd.underlying24 rfl infoHd Tryd.underlying26 rfl infoMx rfl (fld_no hE.out HX.out hSy)
end Go.Proofs.YteckkcpnfeoehaaDoor
