/-
  Layer 17: the search in the tree, walked: at any level.
-/
import Derived.Test.YtcfghkphkmoikaaGreatSnS
import Derived.Deep.CutBlock
namespace Go.Proofs.YtcfghkphkmoikaaGreat
set_option maxRecDepth 100000
open Go.RowKit Go.Sort
set_option linter.unusedVariables false
/-- The search of place i of level k does what it should. -/
def FindP (l : Ln) (w : World) (bt : Nat) (P : List Pq) (k : Nat) : Prop := ∀ (i : Nat), i < cntBx P k → ∀ (W : World) (F : List Pq), NS w bt l F W → F.Sublist (P.take (8 ^ k * i)) →
    Calls Tryz.prog 71 #[.int .i64 (k : Int), .int .i64 (i : Int), .pointer (some ⟨w.heap.size, 0, none⟩), .pointer (some ⟨w.heap.size + 1, 0, none⟩), .pointer (some ⟨w.heap.size + 2, 0, none⟩), .pointer (some ⟨w.heap.size + 3, 0, none⟩)] W fun e W' => (∃ u, e = .returned u) ∧ NS w bt l (F ++ srL l P k i) W'
def segS (l : Ln) (P : List Pq) (k i j : Nat) : List Pq := (List.range j).flatMap (fun j => srL l P k (8 * i + j))
theorem segS_succ (l : Ln) (P : List Pq) (k i j : Nat) : segS l P k i (j + 1) = segS l P k i j ++ srL l P k (8 * i + j) := by
  unfold segS
  rw [List.range_succ, List.flatMap_append]
  simp
theorem segS_sub {l : Ln} {P F : List Pq} {k i : Nat} (h : F.Sublist (P.take (8 ^ (k + 1) * i))) : ∀ j, (F ++ segS l P k i j).Sublist (P.take (8 ^ k * (8 * i + j)))
  | 0 => by
    rw [show 8 ^ k * (8 * i + 0) = 8 ^ (k + 1) * i by rw [Nat.pow_succ]; grind]
    simpa [segS] using h
  | j + 1 => by
    rw [segS_succ, ← List.append_assoc]
    exact sub_more (segS_sub h j)
theorem segS_end {l : Ln} {P : List Pq} {k i j : Nat} (hj : j ≤ 8) (h : j = 8 ∨ cntBx P k ≤ 8 * i + j) : segS l P k i j = segS l P k i 8 := by
  rcases h with rfl | h
  · rfl
  · have hd : ∀ d, segS l P k i j = segS l P k i (j + d) := fun d => by
      induction d with
      | zero => rfl
      | succ d ih => rw [← Nat.add_assoc, segS_succ, ← ih, srL_none l P (by omega), List.append_nil]
    rw [hd (8 - j), show j + (8 - j) = 8 by omega]
theorem srL_all {l : Ln} {P : List Pq} {k i : Nat} {b : Bx} (h : (lvl P k)[i]? = some b) (ht : tch l b = true) : srL l P (k + 1) i = segS l P k i 8 := by
  rw [srL_succ h, if_pos ht]; rfl
theorem srL_not {l : Ln} {P : List Pq} {k i : Nat} {b : Bx} (h : (lvl P k)[i]? = some b) (ht : tch l b = false) : srL l P (k + 1) i = [] := by
  rw [srL_succ h, ht]; rfl
/-- A level's boxes in the tree, as they lie. -/
theorem tree_level {w W : World} {bt m : Nat} {P : List Pq} (hT : TreeR w w.heap.size bt P m) (hS : Since w W) {k : Nat} (hk : k < m) :
    ∃ (bl ol c : Nat) (A : Option Addr) (d : Nat), bt < W.heap.size ∧ W.cell? ⟨bt, 1, none⟩ = some (.slice (some ⟨bl, ol, none⟩) m c) ∧ bl < W.heap.size ∧ W.cell? ⟨bl, ol + k, none⟩ = some (.slice A (lvl P k).length d) ∧ RdG 4 bxE W W.heap.size A (lvl P k) ∧ (∀ j, j < m → ∃ A' d', W.cell? ⟨bl, ol + j, none⟩ = some (.slice A' (lvl P j).length d')) := by
  obtain ⟨h0, _, A, c, hs, h3, h4, h5, h6⟩ := hT.on hS
  obtain ⟨bl, ol, rfl, hbl, hc⟩ := h5 (by omega)
  have hall : ∀ j, j < m → ∃ x, hs[j]? = some x ∧ W.cell? ⟨bl, ol + j, none⟩ = some (.slice x.A x.n x.c) := fun j hj => by
    obtain ⟨x, hx⟩ : ∃ x, hs[j]? = some x := ⟨_, List.getElem?_eq_getElem (by omega)⟩
    have h := hc j x hx 0 (by omega)
    rw [Nat.mul_one, Nat.add_zero] at h
    exact ⟨x, hx, h⟩
  obtain ⟨x, hx, hcx⟩ := hall k hk
  obtain ⟨e, hr⟩ := h6 k x hx
  refine ⟨bl, ol, c, x.A, x.c, h0, h3, hbl, by rw [← e]; exact hcx, hr, fun j hj => ?_⟩
  obtain ⟨y, hy, hcy⟩ := hall j hj
  exact ⟨y.A, y.c, by rw [← (h6 j y hy).1]; exact hcy⟩
set_option maxRecDepth 100000 in
set_option maxHeartbeats 8000000 in
theorem sn_find1 (l : Ln) (hg : (goodB l.ax l.ay && goodB l.bx l.bz) = true) (w : World) (bt m : Nat) (P : List Pq) (hT : TreeR w w.heap.size bt P m) (hP : ∀ p ∈ P, PixOk p) (hm : m ≤ 100000000) (k : Nat) (hk : k < m) (hk8 : cntBx P k ≤ 100000000) (i : Nat) (hi : i < (lvl P k).length) (hi8 : i ≤ 100000000) (ih : FindP l w bt P k)
    (W : World) (F : List Pq) (h : NS w bt l F W) (hF : F.Sublist (P.take (8 ^ (k + 1) * i))) :
    Calls Tryz.prog 71 #[.int .i64 ((k : Int) + 1), .int .i64 (i : Int), .pointer (some ⟨w.heap.size, 0, none⟩), .pointer (some ⟨w.heap.size + 1, 0, none⟩), .pointer (some ⟨w.heap.size + 2, 0, none⟩), .pointer (some ⟨w.heap.size + 3, 0, none⟩)] W fun e W' => (∃ u, e = .returned u) ∧ NS w bt l (F ++ srL l P (k + 1) i) W' := by
  obtain ⟨b0, hb0⟩ : ∃ s, (lvl P k)[i]? = some s := ⟨_, List.getElem?_eq_getElem hi⟩
  have hTo := fun W => sn_touches l b0 (lvl_ok hP k b0 (List.mem_of_getElem? hb0)) hg W
  obtain ⟨bl, ol, cl, A, dl, z0, t1, z1, t2, hR, _⟩ := tree_level hT h.sn hk
  obtain ⟨bb, ob, rfl, z2, hcell⟩ := hR (by omega)
  have c0 := hcell i b0 hb0 0 (by omega)
  have c1 := hcell i b0 hb0 1 (by omega)
  have c2 := hcell i b0 hb0 2 (by omega)
  have c3 := hcell i b0 hb0 3 (by omega)
  simp only [bxE, List.getD_cons_succ, List.getD_cons_zero, Nat.add_zero] at c0 c1 c2 c3
  have c4 := h.t
  have hz := h.sz
  obtain ⟨l1, l2, l3, l4, l5⟩ := h.ln
  have q0 : w.heap.size < W.heap.size := by omega
  have e1 : IntKind.i64.wrap ((k : Int) + 1 - 1) = (k : Int) := by rw [Int.add_sub_cancel]; exact wrap64_in (by omega)
  have e2 : IntKind.i64.wrap (k : Int) = (k : Int) := wrap64_in (by omega)
  have n1 : (k : Int) < (m : Int) := by omega
  have n2 : (i : Int) < ((lvl P k).length : Int) := by omega
  have n3 : ¬ ((k : Int) + 1 = 0) := by omega
  have n4 : ((k : Int) + 1 == 0) = false := by simp; omega
  unfold Bx.v Ln.v at hTo
  have HB0 := Lib.hid hb0
  obtain ⟨N, hN⟩ : ∃ N, N = (lvl P k).length := ⟨_, rfl⟩
  rw [← hN] at t2 n2
  have HH := Lib.hid h; have HF := Lib.hid hF; have HI := Lib.hid ih; have HT := Lib.hid hT
  clear h hF ih hT hR hcell hb0 hN hP
  cases hb1 : tch l b0
  · rw [hb1] at hTo
    have HTO := Lib.hid hTo
    rw [srL_not HB0.out hb1, List.append_nil]
    clear hTo hb1
    go_enter Tryz.func71, Tryz.ntmps71
    go_upto_region 3 with fail
    (refine wp_named fun wr3 hwr3 => ?_; go_region_held3 (fun w' => (∀ b o, b < wr3.heap.size → w'.cell? ⟨b, o, none⟩ = wr3.cell? ⟨b, o, none⟩) ∧ (∀ b o, b < wr3.heap.size → w'.frozen? ⟨b, o, none⟩ = wr3.frozen? ⟨b, o, none⟩) ∧ (∀ k, k < wr3.heap.size → k < w'.heap.size) ∧ Below wr3.heap.size wr3 w') ((subst hwr3; (repeat (with_reducible (refine since_put ?_ ?_ _); rotate_left; focus (first | (simp; done) | (simp; omega) | omega))); first | with_reducible assumption | (refine since_step (by with_reducible assumption) ?_; first | with_reducible assumption | ((repeat (first | with_reducible (exact Since.refl _) | with_reducible assumption | with_reducible (refine Since.drew ?_) | with_reducible (refine Since.drewN ?_ _) | with_reducible (refine Since.alloc ?_ _) | (with_reducible (refine Since.setCell ?_ ?_ _); rotate_left; focus (first | (simp; done) | (simp; omega) | omega)))); done)) | (refine since_step (Since.refl _) ?_; first | with_reducible assumption | ((repeat (first | with_reducible (exact Since.refl _) | with_reducible assumption | with_reducible (refine Since.drew ?_) | with_reducible (refine Since.drewN ?_ _) | with_reducible (refine Since.alloc ?_ _) | (with_reducible (refine Since.setCell ?_ ?_ _); rotate_left; focus (first | (simp; done) | (simp; omega) | omega)) | (with_reducible (refine Since.trans ?_ (by with_reducible assumption))))); done)))) ((go_at_call 72; refine (HTO.out _).mono ?_; rintro e w1 ⟨rfl, hS⟩; have hZ := hS.below.size; (try simp at hZ))); all_goals (rename_i hHeld; have hR3 : Since wr3 _ := hHeld; obtain ⟨hcR3, hfR3, hzR3, hbR3⟩ := hHeld; subst hwr3))
    all_goals go_wp2
    all_goals refine bodyPost_ret (results_none rfl _ _ _) rfl ⟨⟨_, rfl⟩, HH.out.since ?_⟩
    all_goals (repeat (first | with_reducible (exact Since.refl _) | with_reducible assumption | with_reducible (refine Since.drew ?_) | with_reducible (refine Since.drewN ?_ _) | with_reducible (refine Since.alloc ?_ _) | (with_reducible (refine Since.setCell ?_ ?_ _); rotate_left; focus (first | (simp; done) | (simp; omega) | omega)) | (with_reducible (refine Since.trans ?_ (by with_reducible assumption)))))
  · rw [hb1] at hTo
    have HTO := Lib.hid hTo
    have HALL := Lib.hid (srL_all HB0.out hb1)
    clear hTo hb1
    go_enter Tryz.func71, Tryz.ntmps71
    go_upto_region 3 with fail
    (refine wp_named fun wr3 hwr3 => ?_; go_region_held3 (fun w' => (∀ b o, b < wr3.heap.size → w'.cell? ⟨b, o, none⟩ = wr3.cell? ⟨b, o, none⟩) ∧ (∀ b o, b < wr3.heap.size → w'.frozen? ⟨b, o, none⟩ = wr3.frozen? ⟨b, o, none⟩) ∧ (∀ k, k < wr3.heap.size → k < w'.heap.size) ∧ Below wr3.heap.size wr3 w') ((subst hwr3; (repeat (with_reducible (refine since_put ?_ ?_ _); rotate_left; focus (first | (simp; done) | (simp; omega) | omega))); first | with_reducible assumption | (refine since_step (by with_reducible assumption) ?_; first | with_reducible assumption | ((repeat (first | with_reducible (exact Since.refl _) | with_reducible assumption | with_reducible (refine Since.drew ?_) | with_reducible (refine Since.drewN ?_ _) | with_reducible (refine Since.alloc ?_ _) | (with_reducible (refine Since.setCell ?_ ?_ _); rotate_left; focus (first | (simp; done) | (simp; omega) | omega)))); done)) | (refine since_step (Since.refl _) ?_; first | with_reducible assumption | ((repeat (first | with_reducible (exact Since.refl _) | with_reducible assumption | with_reducible (refine Since.drew ?_) | with_reducible (refine Since.drewN ?_ _) | with_reducible (refine Since.alloc ?_ _) | (with_reducible (refine Since.setCell ?_ ?_ _); rotate_left; focus (first | (simp; done) | (simp; omega) | omega)) | (with_reducible (refine Since.trans ?_ (by with_reducible assumption))))); done)))) ((go_at_call 72; refine (HTO.out _).mono ?_; rintro e w1 ⟨rfl, hS⟩; have hZ := hS.below.size; (try simp at hZ))); all_goals (rename_i hHeld; have hR3 : Since wr3 _ := hHeld; obtain ⟨hcR3, hfR3, hzR3, hbR3⟩ := hHeld; subst hwr3))
    go_upto_region 4 with fail
    refine wp_named fun wa hwa => ?_
    have hSa : Since wr3 wa := by subst hwa; (repeat (first | with_reducible (exact Since.refl _) | with_reducible assumption | with_reducible (refine Since.drew ?_) | with_reducible (refine Since.drewN ?_ _) | with_reducible (refine Since.alloc ?_ _) | (with_reducible (refine Since.setCell ?_ ?_ _); rotate_left; focus (first | (simp; done) | (simp; omega) | omega)) | (with_reducible (refine Since.trans ?_ (by with_reducible assumption)))))
    have HNA := Lib.hid (HH.out.since hSa)
    clear hwa hSa hcR3 hfR3 hzR3 hbR3 hR3 l1 l2 l3 l4 l5 hz c0 c1 c2 c3 c4 t1 t2 z0 z1 z2 q0 HH HB0
    obtain ⟨bl, ol, cl, _, _, z0, t1, z1, _, _, hlev⟩ := tree_level HT.out HNA.out.sn hk
    obtain ⟨_, ⟨AP, cP, tp, _⟩, _⟩ := HT.out.on HNA.out.sn
    have c4 := HNA.out.t
    obtain ⟨M, hM⟩ : ∃ M, M = cntBx P k := ⟨_, rfl⟩
    rw [← hM] at hk8
    have HM := Lib.hid hM
    have hmin := min2_run
    rcases Nat.eq_zero_or_pos k with hk0 | hk0
    · have n5 : ¬ (1 : Int) < (k : Int) + 1 := by omega
      have n6 : k = 0 := hk0
      rw [show P.length = M by rw [hM, n6]; rfl] at tp
      have HK0 := Lib.hid n6
      clear hk0 n6 hM
      go_upto_region 7 with fail
      have HNB := HNA
      clear tp t1 z0 z1 hlev c4
      go_wp2
      go_loopw [9] (fun y wr => ∃ j : Nat, j ≤ 8 ∧ y = .int .i64 (8 * (i : Int) + (j : Int)) ∧ NS w bt l (F ++ segS l P k i j) wr) (fun y _ => 8 * i + 9 - (intOf y).toNat)
      case atStart => exact ⟨0, by omega, by simp, by simpa [segS] using HNB.out⟩
      case round =>
        obtain ⟨j, hj, rfl, hNS⟩ := hrel
        have c5 := hNS.s
        have e4 : IntKind.i64.wrap ((i : Int) + 1) = (i : Int) + 1 := wrap64_in (by omega)
        have e5 : IntKind.i64.wrap (8 * ((i : Int) + 1)) = 8 * ((i : Int) + 1) := wrap64_in (by omega)
        have e6 : IntKind.i64.wrap (8 * (i : Int) + (j : Int) + 1) = 8 * (i : Int) + ((j + 1 : Nat) : Int) := (wrap64_in (by omega)).trans (by omega)
        by_cases hlt : 8 * (i : Int) + (j : Int) < lo2 (8 * ((i : Int) + 1)) (M : Int)
        · have hlt2 : j < 8 ∧ 8 * i + j < M := by unfold lo2 at hlt; split at hlt <;> omega
          have hI := HI.out (8 * i + j) (by rw [← HM.out]; exact hlt2.2) wr _ hNS (segS_sub HF.out j)
          rw [show ((8 * i + j : Nat) : Int) = 8 * (i : Int) + (j : Int) by omega] at hI
          have HI2 := Lib.hid hI
          have HSG := Lib.hid (segS_succ l P k i j)
          clear hI hNS
          go_wp2_with (go_at_call 71; (with_reducible refine HI2.out.mono ?_); rintro e w6 ⟨⟨u6, rfl⟩, hN6⟩)
          rw [List.append_assoc, ← HSG.out] at hN6
          go_roundw
          case rel => exact ⟨j + 1, by omega, rfl, hN6⟩
          case measure => (simp only [intOf]; omega)
        · have hend : j = 8 ∨ cntBx P k ≤ 8 * i + j := by rw [← HM.out]; unfold lo2 at hlt; split at hlt <;> omega
          have hse := segS_end (l := l) hj hend
          rw [hse] at hNS
          have HNS := Lib.hid hNS
          clear hNS hse
          go_wp2
          go_end0
          exact ⟨⟨_, rfl⟩, by rw [HALL.out]; exact HNS.out⟩
    · obtain ⟨A2, d2, t2⟩ := hlev (k - 1) (by omega)
      have e3 : IntKind.i64.wrap ((k : Int) + 1 - 2) = ((k - 1 : Nat) : Int) := (wrap64_in (by omega)).trans (by omega)
      have n5 : (1 : Int) < (k : Int) + 1 := by omega
      have n6 : ((k - 1 : Nat) : Int) < (m : Int) := by omega
      rw [show (lvl P (k - 1)).length = M by rw [hM]; obtain ⟨r, rfl⟩ : ∃ r, k = r + 1 := ⟨k - 1, by omega⟩; rfl] at t2
      clear hM
      go_upto_region 7 with fail
      clear t2
      have HNB := HNA
      clear tp t1 z0 z1 hlev c4
      go_wp2
      go_loopw [9] (fun y wr => ∃ j : Nat, j ≤ 8 ∧ y = .int .i64 (8 * (i : Int) + (j : Int)) ∧ NS w bt l (F ++ segS l P k i j) wr) (fun y _ => 8 * i + 9 - (intOf y).toNat)
      case atStart => exact ⟨0, by omega, by simp, by simpa [segS] using HNB.out⟩
      case round =>
        obtain ⟨j, hj, rfl, hNS⟩ := hrel
        have c5 := hNS.s
        have e4 : IntKind.i64.wrap ((i : Int) + 1) = (i : Int) + 1 := wrap64_in (by omega)
        have e5 : IntKind.i64.wrap (8 * ((i : Int) + 1)) = 8 * ((i : Int) + 1) := wrap64_in (by omega)
        have e6 : IntKind.i64.wrap (8 * (i : Int) + (j : Int) + 1) = 8 * (i : Int) + ((j + 1 : Nat) : Int) := (wrap64_in (by omega)).trans (by omega)
        by_cases hlt : 8 * (i : Int) + (j : Int) < lo2 (8 * ((i : Int) + 1)) (M : Int)
        · have hlt2 : j < 8 ∧ 8 * i + j < M := by unfold lo2 at hlt; split at hlt <;> omega
          have hI := HI.out (8 * i + j) (by rw [← HM.out]; exact hlt2.2) wr _ hNS (segS_sub HF.out j)
          rw [show ((8 * i + j : Nat) : Int) = 8 * (i : Int) + (j : Int) by omega] at hI
          have HI2 := Lib.hid hI
          have HSG := Lib.hid (segS_succ l P k i j)
          clear hI hNS
          go_wp2_with (go_at_call 71; (with_reducible refine HI2.out.mono ?_); rintro e w6 ⟨⟨u6, rfl⟩, hN6⟩)
          rw [List.append_assoc, ← HSG.out] at hN6
          go_roundw
          case rel => exact ⟨j + 1, by omega, rfl, hN6⟩
          case measure => (simp only [intOf]; omega)
        · have hend : j = 8 ∨ cntBx P k ≤ 8 * i + j := by rw [← HM.out]; unfold lo2 at hlt; split at hlt <;> omega
          have hse := segS_end (l := l) hj hend
          rw [hse] at hNS
          have HNS := Lib.hid hNS
          clear hNS hse
          go_wp2
          go_end0
          exact ⟨⟨_, rfl⟩, by rw [HALL.out]; exact HNS.out⟩
/-- The whole search. -/
theorem sn_find (l : Ln) (hg : (goodB l.ax l.ay && goodB l.bx l.bz) = true) (w : World) (bt m : Nat) (P : List Pq) (hT : TreeR w w.heap.size bt P m) (hP : ∀ p ∈ P, PixOk p) (hPl : P.length ≤ 100000000) (hm : m ≤ 100000000) : ∀ k, k ≤ m → FindP l w bt P k
  | 0, _, i, hi, W, F, h, hF => by
    have hfl := hF.length_le
    have := List.length_take_le (8 ^ 0 * i) P
    have h2 : (P.take (8 ^ 0 * i)).length ≤ P.length := by rw [List.length_take]; omega
    exact sn_find0 l hg w bt m P hT hP hPl i hi W F h (by omega)
  | k + 1, hk, i, hi, W, F, h, hF => by
    have hle : ∀ k, (lvl P k).length ≤ P.length := fun k => by
      induction k with
      | zero => rw [lvl_len]; simp; omega
      | succ k ih => rw [lvl_len]; simp; omega
    have hc : cntBx P k ≤ P.length := by
      cases k with
      | zero => exact Nat.le_refl _
      | succ k => exact hle k
    have hi' : i < (lvl P k).length := hi
    have := hle k
    exact sn_find1 l hg w bt m P hT hP hm k (by omega) (by omega) i hi (by omega) (sn_find l hg w bt m P hT hP hPl hm k (by omega)) W F h hF
end Go.Proofs.YtcfghkphkmoikaaGreat
