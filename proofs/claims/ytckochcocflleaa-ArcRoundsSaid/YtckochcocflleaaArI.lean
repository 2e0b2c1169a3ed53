/-
  Layer 22: a round's points as a list; a side of it (the function in 'Disc'), walked.
-/
import Derived.Test.YtckochcocflleaaArH
import Derived.Test.YtckochcocflleaaKitPq
import Derived.Test.YtckochcocflleaaGaE
import Derived.Deep.CutBlock
import Derived.Deep.DeepCutAuto
namespace Go.Proofs.Ytckochcocflleaa
open Go.RowKit Go.ChangeShapes Go.WideShapes Go.Deep
set_option linter.unusedVariables false

/-- A corner's direction. -/
def dirD (m s i : Nat) : Int × Int := qu (m : Int) ((i : Int) - m) s
noncomputable def ptD (cx cy r : Int) (m s i : Nat) : Pq := ⟨cx + alX (dirD m s i).1 (dirD m s i).2 r, cy + alY (dirD m s i).1 (dirD m s i).2 r⟩
noncomputable def sideD (cx cy r : Int) (m s : Nat) (L : List Pq) : Nat → List Pq
  | 0 => L
  | i + 1 => addP (sideD cx cy r m s L i) (ptD cx cy r m s i)
noncomputable def rawD (cx cy r : Int) (m : Nat) : Nat → List Pq
  | 0 => []
  | s + 1 => sideD cx cy r m s (rawD cx cy r m s) (2 * m)
theorem sideD_len (cx cy r : Int) (m s : Nat) (L : List Pq) : ∀ i, (sideD cx cy r m s L i).length ≤ L.length + i
  | 0 => by simp [sideD]
  | i + 1 => by have := sideD_len cx cy r m s L i; have := addP_len (sideD cx cy r m s L i) (ptD cx cy r m s i); simp only [sideD]; omega
theorem rawD_len (cx cy r : Int) (m : Nat) : ∀ s, (rawD cx cy r m s).length ≤ s * (2 * m)
  | 0 => by simp [rawD]
  | s + 1 => by
    have := rawD_len cx cy r m s
    have := sideD_len cx cy r m s (rawD cx cy r m s) (2 * m)
    have e : (s + 1) * (2 * m) = s * (2 * m) + 2 * m := Nat.succ_mul s (2 * m)
    rw [e]
    simp only [rawD]
    omega
theorem qu_mul (x y : Int) (s : Nat) : (qu x y s).1 = x * (qu 1 0 s).1 - y * (qu 1 0 s).2 ∧ (qu x y s).2 = x * (qu 1 0 s).2 + y * (qu 1 0 s).1 := by
  induction s with
  | zero => simp [qu]
  | succ s ih =>
    obtain ⟨h1, h2⟩ := ih
    simp only [qu]
    rw [h1, h2]
    constructor <;> grind
theorem dirD_in {m s i : Nat} (hm : m ≤ 27) (hi : i < 2 * m) : (-27 ≤ (dirD m s i).1 ∧ (dirD m s i).1 ≤ 27) ∧ (-27 ≤ (dirD m s i).2 ∧ (dirD m s i).2 ≤ 27) := qu_near (by omega) (by omega) s
theorem qu_nz (x y : Int) (h : ¬ (x = 0 ∧ y = 0)) : ∀ s, ¬ ((qu x y s).1 = 0 ∧ (qu x y s).2 = 0)
  | 0 => h
  | s + 1 => by
    have := qu_nz x y h s
    simp only [qu]
    omega
theorem dirD_ok {m s i : Nat} {r : Int} (hr : lenB r = true) (h1 : 1 ≤ m) (hm : m ≤ 27) (hi : i < 2 * m) : alE (dirD m s i).1 (dirD m s i).2 r = 0 := by
  have h := dirD_in (s := s) hm hi
  refine alE_ok hr (qu_nz _ _ (by omega) s) (wayB_iff.2 ?_)
  omega
/-- What is left behind a point more, stored back into its variable. -/
theorem capP_append {w0 w2 wa w7 : World} {bl : Nat} {L : List Pq} {p : Pq} {A : Option Addr} {c : Nat} {v7 : Value} (hwa : wa = w2.alloc (.cells #[.int .i64 p.x, .int .i64 p.y] 34)) (h2 : w2.heap[bl]? = some (Obj.cells #[.slice A L.length c] 49 (0, 0)))
    (hO2 : OwnG 34 2 ptL w2 (bl + 1) (.slice A L.length c) L) (hS : Since w0 w2) (hb : w0.heap.size ≤ bl) (hg7 : wa.grownBy w7 (Value.slice A L.length c).ownBlock) (hb7 : ∀ q1, (Value.slice A L.length c).ownBlock = some q1 → bl + 1 ≤ q1) (hO7 : OwnG 34 2 ptL w7 (bl + 1) v7 (L ++ [p])) :
    CapP w0 (w7.setCell ⟨bl, 0, none⟩ v7) bl (L ++ [p]) ∧ ∀ (b : Nat) (cs : Array Value) (t : TypeId), t ≠ 34 → b ≠ bl → w2.heap[b]? = some (Obj.cells cs t (0, 0)) → (w7.setCell ⟨bl, 0, none⟩ v7).heap[b]? = some (Obj.cells cs t (0, 0)) := by
  subst hwa
  have hbl2 : bl < w2.heap.size := by
    rcases Nat.lt_or_ge bl w2.heap.size with h | h
    · exact h
    · rw [Array.getElem?_eq_none h] at h2; cases h2
  have hk2 : ∀ b, b < w2.heap.size → (Value.slice A L.length c).ownBlock ≠ some b → w7.heap[b]? = w2.heap[b]? := fun b hb1 hb2 =>
    (hg7.block b (by simp; omega) (fun e => hb2 e.symm)).trans (((Since.refl w2).alloc (.cells #[.int .i64 p.x, .int .i64 p.y] 34)).below.block b hb1)
  have hnb : (Value.slice A L.length c).ownBlock ≠ some bl := fun e => by have := hb7 _ e; omega
  have h7 := (hk2 bl hbl2 hnb).trans h2
  refine ⟨⟨_, heap_setCell_same w7 bl 0 _ _ _ h7, ?_, ?_, hb⟩, fun b cs t ht hbn hbc => ?_⟩
  · exact hO7.keep (fun b hb1 hb2 => heap_setCell_other _ _ _ _ (by simp only; omega))
  · refine Since.setCell (since_grown (hS.alloc _) hg7 (fun k e => by have := hb7 k e; omega)) (by simp only; omega) _
  · have hlt : b < w2.heap.size := by
      rcases Nat.lt_or_ge b w2.heap.size with h | h
      · exact h
      · rw [Array.getElem?_eq_none h] at hbc; cases hbc
    refine (heap_setCell_other _ _ _ _ (by simp only; omega)).trans ((hk2 b hlt ?_).trans hbc)
    exact hO2.ne (fun e => ht e.symm) hbc
set_option maxRecDepth 100000 in
set_option maxHeartbeats 8000000 in
theorem ar_side (w0 : World) (bl bm br bc : Nat) (cx cy r : Int) (m s re im : Nat) (L : List Pq) (w : World) (h : CapP w0 w bl L) (hbm : w.heap[bm]? = some (Obj.cells #[.int .i64 (m : Int)] 3 (0, 0))) (hr : w0.cell? ⟨br, 0, none⟩ = some (.int .i64 r)) (hbr : br < w0.heap.size) (hc : PtAt w0 bc cx cy)
    (hg : goodB cx cy = true) (hlen : lenB r = true) (m0 : 1 ≤ m) (m1 : m ≤ 27) (H1 : Stands re (qu 1 0 s).1) (H2 : Stands im (qu 1 0 s).2) (hL : L.length ≤ 1000) :
    Calls Try.prog 76 #[.complex .f64 re im, .pointer (some ⟨bm, 0, none⟩), .pointer (some ⟨br, 0, none⟩), .pointer (some ⟨bc, 0, none⟩), .pointer (some ⟨bl, 0, none⟩)] w fun e w2 => (∃ v, e = .returned v) ∧ CapP w0 w2 bl (sideD cx cy r m s L (2 * m)) ∧ w2.heap[bm]? = some (Obj.cells #[.int .i64 (m : Int)] 3 (0, 0)) := by
  have hq := qu_near (x := 1) (y := 0) (B := 1) (by omega) (by omega) s
  have hlenD := fun i => sideD_len cx cy r m s L i
  have hgi := goodB_iff.1 hg
  obtain ⟨r0, r1⟩ := lenB_iff.1 hlen
  have hty : 3 ≠ 34 := by decide
  have hty2 : 3 ≠ 49 := by decide
  have u0 : IntKind.i64.wrap (2 * (m : Int)) = 2 * (m : Int) := IntWalk.i64_in _ (by omega)
  have cm : w.cell? ⟨bm, 0, none⟩ = some (.int .i64 (m : Int)) := by simp [World.cell?, hbm]
  have HBM := Lib.hid hbm
  have HC := Lib.hid h
  have HPT := Lib.hid hc
  have HRR := Lib.hid hr
  clear h hbm hc hr
  go_enter Try.func76, Try.ntmps76
  go_wp2_with fail
  go_loopw [13] (fun y wr => ∃ i : Nat, i ≤ 2 * m ∧ y = .int .i64 (i : Int) ∧ CapP w0 wr bl (sideD cx cy r m s L i) ∧ wr.heap[bm]? = some (Obj.cells #[.int .i64 (m : Int)] 3 (0, 0))) (fun y _ => 2 * m - (intOf y).toNat)
  case atStart => exact ⟨0, by omega, rfl, HC.out, HBM.out⟩
  case round =>
    clear cm HC HBM
    obtain ⟨i, hi, rfl, hcap, hbm⟩ := hrel
    by_cases him : i < 2 * m
    · have him' : (i : Int) < 2 * (m : Int) := by omega
      have u1 : IntKind.i64.wrap ((i : Int) - (m : Int)) = (i : Int) - (m : Int) := IntWalk.i64_in _ (by omega)
      have u2 : IntKind.i64.wrap ((i : Int) + 1) = (i : Int) + 1 := IntWalk.i64_in _ (by omega)
      have cm : wr.cell? ⟨bm, 0, none⟩ = some (.int .i64 (m : Int)) := by simp [World.cell?, hbm]
      obtain ⟨v, h1, hO, hS, hb⟩ := hcap
      have cr : wr.cell? ⟨br, 0, none⟩ = some (.int .i64 r) := (hS.1 br 0 hbr).trans HRR.out
      obtain ⟨cc1, cc2, cc3⟩ := HPT.out.since hS
      obtain ⟨re1, im1, e1, t1, t2⟩ := mul_stands (stands_int (m : Int) (by omega)) (stands_int ((i : Int) - (m : Int)) (by omega)) H1 H2 (by unfold Near; omega) (by unfold Near; omega) (by unfold Near; omega) (by unfold Near; omega)
      have hmul := fun t w => run_complex_mul (P := Try.prog) w t _ _ re im _ _ e1
      rw [← (qu_mul (m : Int) ((i : Int) - m) s).1] at t1
      rw [← (qu_mul (m : Int) ((i : Int) - m) s).2] at t2
      change Stands re1 (dirD m s i).1 at t1
      change Stands im1 (dirD m s i).2 at t2
      have hd := dirD_in (s := s) m1 him
      have hc1 := toInt_run t1 (by omega)
      have hc2 := toInt_run t2 (by omega)
      have hok := dirD_ok (s := s) hlen m0 m1 him
      have hA := fun w => ar_along_ok _ _ r hok w
      have hin := al_in (qu_nz (m : Int) ((i : Int) - m) (by omega) s) r0
      change (_ ≤ alX (dirD m s i).1 (dirD m s i).2 r ∧ alX (dirD m s i).1 (dirD m s i).2 r ≤ _) ∧ (_ ≤ alY (dirD m s i).1 (dirD m s i).2 r ∧ alY (dirD m s i).1 (dirD m s i).2 r ≤ _) at hin
      have hpt : sideD cx cy r m s L (i + 1) = addP (sideD cx cy r m s L i) ⟨cx + alX (dirD m s i).1 (dirD m s i).2 r, cy + alY (dirD m s i).1 (dirD m s i).2 r⟩ := rfl
      have hll := hlenD i
      unfold Pt at hA
      generalize alX (dirD m s i).1 (dirD m s i).2 r = ax at *
      generalize alY (dirD m s i).1 (dirD m s i).2 r = ay at *
      generalize (dirD m s i).1 = dx at *
      generalize (dirD m s i).2 = dy at *
      generalize hL2 : sideD cx cy r m s L (i + 1) = L2 at *
      have HL2 := Lib.hid hL2
      clear hL2
      generalize sideD cx cy r m s L i = L1 at *
      have u3 : IntKind.i64.wrap (cx + ax) = cx + ax := IntWalk.i64_in _ (by omega)
      have u4 : IntKind.i64.wrap (cy + ay) = cy + ay := IntWalk.i64_in _ (by omega)
      generalize hx : cx + ax = x at *
      generalize hy : cy + ay = y at *
      have HA := Lib.hid hA
      have HPTQ := Lib.hid hpt
      have HH1 := Lib.hid h1
      have HO := Lib.hid hO
      have HS := Lib.hid hS
      have HBM := Lib.hid hbm
      have hll' : L1.length ≤ 1100 := by omega
      clear hA hpt h1 hO hS hbm e1 t1 t2 hd hok hin hll hlenD hq H1 H2 hgi
      have cbl : bl < wr.heap.size := by
        rcases Nat.lt_or_ge bl wr.heap.size with h | h
        · exact h
        · have := HH1.out; rw [Array.getElem?_eq_none h] at this; cases this
      have cbm : bm < wr.heap.size := by
        rcases Nat.lt_or_ge bm wr.heap.size with h | h
        · exact h
        · have := HBM.out; rw [Array.getElem?_eq_none h] at this; cases this
      go_upto_region 6 with (go_at_call 32; (with_reducible refine (HA.out _).mono ?_); rintro e w3 ⟨rfl, hS3⟩; have d1 := (hS3.1 bc 0 cc3).trans cc1; have d2 := (hS3.1 bc 1 cc3).trans cc2; have d3 := hS3.2.2.1 bc cc3)
      refine wp_named fun w5 hw5 => ?_
      have hS5 : Since wr w5 := by subst hw5; exact (hS3.alloc _).alloc _
      have rB : Row w5 (w3.heap.size + 1) 2 (Pf x y) := by subst hw5; exact prow _ (w3.heap.size + 1) (by simp) _ _ _
      have hr3 : wr.heap.size ≤ w3.heap.size := hS3.below.size
      clear hw5 hS3 d1 d2 d3 cc1 cc2 cc3 cr cm hc1 hc2 hmul u1 u3 u4
      obtain ⟨q, hq⟩ : ∃ q, q = w3.heap.size + 1 := ⟨_, rfl⟩
      rw [← hq] at rB ⊢
      have hbq : bl ≠ q := by omega
      clear hq hr3
      have h2 := (hS5.below.block bl cbl).trans HH1.out
      have hm2 := Lib.hid ((hS5.below.block bm cbm).trans HBM.out)
      have hO2 := HO.out.since hS5
      have hbl2 := hS5.2.2.1 _ cbl
      have hS2 := Lib.hid (HS.out.trans hS5)
      clear HO HH1 HBM hS5 HS
      obtain ⟨A, c, rfl, hc, hr⟩ := hO2.rd (by omega) ptL_len
      obtain ⟨b1, b2, b3⟩ := pcells rB
      have cB : w5.cell? ⟨bl, 0, none⟩ = some (.slice A L1.length c) := by simp [World.cell?, h2]
      have fB : w5.frozen? ⟨bl, 0, none⟩ = false := by simp [World.frozen?, h2]
      go_cut [60] (fun z wx => z = .bool (lastNe L1 ⟨x, y⟩) ∧ wx = w5.drew)
      case first =>
        cases hg : L1.getLast? with
        | none =>
          obtain rfl : L1 = [] := by simpa using hg
          have e0 : lastNe [] ⟨x, y⟩ = true := rfl
          have E0 := Lib.hid e0
          clear e0 hr hO2 h2
          go_region
          all_goals (go_wp2_with fail)
          all_goals go_meet
          all_goals exact ⟨by rw [E0.out], rfl⟩
        | some l =>
          have hm : 0 < L1.length := by cases L1 with | nil => simp at hg | cons a r => simp
          have hget : L1[L1.length - 1]? = some l := by rw [← List.getLast?_eq_getElem?]; exact hg
          have e0 : lastNe L1 ⟨x, y⟩ = !(l.x == x && l.y == y) := by unfold lastNe; rw [hg]
          have E0 := Lib.hid e0
          obtain ⟨g, go', rfl, hgb, hcell⟩ := hr hm
          have l1 := hcell _ _ hget 0 (by omega)
          have l2 := hcell _ _ hget 1 (by omega)
          simp only [ptL, List.getD_cons_succ, List.getD_cons_zero, Nat.add_zero] at l1 l2
          obtain ⟨lx, ly⟩ := l
          simp only at l1 l2 E0
          obtain ⟨k, hk⟩ : ∃ k, k = L1.length := ⟨_, rfl⟩
          rw [← hk] at hm l1 l2 cB hll'
          have q1 : IntKind.i64.wrap ((k : Int) - 1) = (k : Int) - 1 := IntWalk.i64_in _ (by omega)
          have q2 : (0 : Int) ≤ (k : Int) - 1 := by omega
          have q3 : ((k : Int) - 1).toNat = k - 1 := by omega
          have q4 : (k : Int) - 1 < (k : Int) := by omega
          have q5 : (1 : Int) ≤ (k : Int) := by omega
          have q6 : ((k : Int) == 0) = false := by simp; omega
          clear e0 hcell hget hg hr hO2 h2 hk
          by_cases e1 : lx = x
          · by_cases e2 : ly = y
            · subst e1 e2
              go_region
              all_goals (go_wp2_with fail)
              all_goals go_meet
              all_goals exact ⟨by rw [E0.out]; simp, rfl⟩
            · subst e1
              have e3 : (ly == y) = false := by simp [e2]
              go_region
              all_goals (go_wp2_with fail)
              all_goals go_meet
              all_goals exact ⟨by rw [E0.out]; simp [e3], rfl⟩
          · have e3 : (lx == x) = false := by simp [e1]
            go_region
            all_goals (go_wp2_with fail)
            all_goals go_meet
            all_goals exact ⟨by rw [E0.out]; simp [e3], rfl⟩
      obtain ⟨hz, hw⟩ := hcut
      subst hz hw
      cases hln : lastNe L1 ⟨x, y⟩
      · have he : L2 = L1 := by rw [HPTQ.out, addP_eq, hln]; rfl
        have HE := Lib.hid he
        have H2 := Lib.hid h2
        clear he h2
        go_wp2_with fail
        go_roundw
        case rel => exact ⟨i + 1, by omega, by go_num, by rw [HL2.out, HE.out]; exact ⟨_, H2.out, hO2, hS2.out.drew, hb⟩, hm2.out⟩
        case measure => simp [intOf]; omega
      · have he : L2 = L1 ++ [⟨x, y⟩] := by rw [HPTQ.out, addP_eq, hln]; rfl
        have HE := Lib.hid he
        clear he
        have h2' := Lib.hid h2
        have hO2' := Lib.hid hO2
        clear h2
        have cB' : w5.drew.cell? ⟨bl, 0, none⟩ = some (.slice A L1.length c) := cB
        go_wp2_with (at_builtin; refine wpList_append_g rfl _ _ 49 34 rfl (by omega) ptL_len ptL_one 16 Try.underlying49 infoPt (bl + 1) _ L1 rfl (OwnG.alloc (show OwnG 34 2 ptL w5.drew (bl + 1) (.slice A L1.length c) L1 from hO2'.out) _) _ _ 1 [⟨x, y⟩] rfl (pt_one w5.drew _ rfl _ ⟨x, y⟩) (by simp only [List.length_cons, List.length_nil]; omega) (by simp only [List.length_cons, List.length_nil, maxLen]; omega) (by simp; omega) ?_; intro v7 w7 hO7 hg7 hb7; have c7 := cell_grown (show (w5.drew.alloc (.cells #[.int .i64 x, .int .i64 y] 34)).cell? ⟨bl, 0, none⟩ = some (.slice A L1.length c) from (World.cell?_alloc_lt w5.drew _ ⟨bl, 0, none⟩ hbl2).trans cB) (by simp; omega) hg7 (fun e => by have := (hb7 _ e).1; omega); have f7 : w7.frozen? ⟨bl, 0, none⟩ = false := (by rw [← fB]; exact World.frozen?_of_block ((hg7.block bl (by simp; omega) (fun e => by have := (hb7 _ e.symm).1; omega)).trans (((Since.refl w5.drew).alloc _).below.block bl hbl2))); obtain ⟨A7, c7, rfl, hc7, hr7⟩ := hO7.rd (by omega) ptL_len)
        simp only [List.length_append, List.length_cons, List.length_nil] at hO7
        obtain ⟨k1, k2⟩ := capP_append (p := ⟨x, y⟩) (w0 := w0) (w2 := w5.drew) rfl h2'.out hO2'.out hS2.out.drew hb hg7 (fun q1 e => (hb7 q1 e).1) hO7
        have K1 := Lib.hid k1
        have K2 := Lib.hid (k2 bm _ _ hty (fun e => by have a := h2'.out; have b := hm2.out; rw [e] at b; rw [b] at a; simp at a) hm2.out)
        clear k1 k2 hO7 hg7 hb7 hr7
        go_roundw
        case rel => exact ⟨i + 1, by omega, by go_num, by rw [HL2.out, HE.out]; exact K1.out, K2.out⟩
        case measure => simp [intOf]; omega
    · obtain rfl : i = 2 * m := by omega
      go_wp2_with fail
      refine bodyPost_end (results_none rfl _ _ _) rfl ?_
      exact ⟨⟨_, rfl⟩, hcap, hbm⟩
end Go.Proofs.Ytckochcocflleaa
