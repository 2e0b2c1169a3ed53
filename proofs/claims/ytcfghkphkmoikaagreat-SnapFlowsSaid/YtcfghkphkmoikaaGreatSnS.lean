/-
  Layer 17: the search in the tree (the closure of 'near'), walked: at a pixel.
-/
import Derived.Test.YtcfghkphkmoikaaGreatMqO
import Derived.Test.YtcfghkphkmoikaaGreatMqH
import Derived.Laws.EntriesVeiled
namespace Go.Proofs.YtcfghkphkmoikaaGreat
set_option maxRecDepth 100000
open Go.RowKit Go.Sort
set_option linter.unusedVariables false
theorem cell_alloc9 {w : World} {o : Obj} {b p : Nat} (h : b < w.heap.size) : (w.alloc o).cell? ⟨b, p, none⟩ = w.cell? ⟨b, p, none⟩ := World.cell?_alloc_lt w o ⟨b, p, none⟩ h
theorem cell_drew9 (w : World) (p : Addr) : w.drew.cell? p = w.cell? p := rfl
/-- How many things there are at a level. -/
def cntBx (P : List Pq) : Nat → Nat
  | 0 => P.length
  | k + 1 => (lvl P k).length
/-- What is found below place i of level k. -/
def srL (l : Ln) (P : List Pq) (k i : Nat) : List Pq := srch (fun p => tch l (ptB p)) (tch l) P (lvl P) k i
theorem srL_none (l : Ln) (P : List Pq) {k i : Nat} (h : cntBx P k ≤ i) : srL l P k i = [] := by
  unfold srL
  cases k with
  | zero => unfold srch; rw [List.getElem?_eq_none (by exact h)]
  | succ k => unfold srch; rw [List.getElem?_eq_none (by exact h)]
theorem srL_zero {l : Ln} {P : List Pq} {i : Nat} {p : Pq} (h : P[i]? = some p) : srL l P 0 i = if tch l (ptB p) then [p] else [] := by
  unfold srL srch; rw [h]
theorem srL_succ {l : Ln} {P : List Pq} {k i : Nat} {b : Bx} (h : (lvl P k)[i]? = some b) : srL l P (k + 1) i = if tch l b then (List.range 8).flatMap (fun j => srL l P k (8 * i + j)) else [] := by
  unfold srL
  rw [srch, h]
theorem srL_sub (l : Ln) (P : List Pq) (k i : Nat) : (srL l P k i).Sublist ((P.drop (8 ^ k * i)).take (8 ^ k)) := srch_sub _ _ _ _ k i
/-- One thing more is searched. -/
theorem sub_more {l : Ln} {P F : List Pq} {k i : Nat} (h : F.Sublist (P.take (8 ^ k * i))) : (F ++ srL l P k i).Sublist (P.take (8 ^ k * (i + 1))) := by
  rw [Nat.mul_succ, List.take_add]
  exact h.append (srL_sub l P k i)
/-- What the search finds its variables to be: the tree, the line, what was found, itself. -/
structure NS (w : World) (bt : Nat) (l : Ln) (F : List Pq) (W : World) : Prop where
  t : W.cell? ⟨w.heap.size, 0, none⟩ = some (.pointer (some ⟨bt, 0, none⟩))
  ln : LnAt W (w.heap.size + 1) l
  f : ∃ v, W.heap[w.heap.size + 2]? = some (Obj.cells #[v] 28 (0, 0)) ∧ OwnG 23 2 ptL W (w.heap.size + 4) v F
  s : W.cell? ⟨w.heap.size + 3, 0, none⟩ = some (.func (.func 71) #[] #[.pointer (some ⟨w.heap.size, 0, none⟩), .pointer (some ⟨w.heap.size + 1, 0, none⟩), .pointer (some ⟨w.heap.size + 2, 0, none⟩), .pointer (some ⟨w.heap.size + 3, 0, none⟩)])
  sn : Since w W
  sz : w.heap.size + 4 ≤ W.heap.size
theorem NS.since {w : World} {bt : Nat} {l : Ln} {F : List Pq} {W W' : World} (h : NS w bt l F W) (k : Since W W') : NS w bt l F W' := by
  have hz := h.sz
  obtain ⟨v, h1, h2⟩ := h.f
  exact ⟨(k.1 _ _ (by omega)).trans h.t, h.ln.since k, ⟨v, (k.below.block _ (by omega)).trans h1, h2.since k⟩, (k.1 _ _ (by omega)).trans h.s, h.sn.trans k, Nat.le_trans hz k.below.size⟩
/-- A pixel more is found. -/
theorem NS.more0 {w : World} {bt : Nat} {l : Ln} {F : List Pq} {W w7 : World} {v v7 : Value} {p : Pq} (h : NS w bt l F W) (hv : W.heap[w.heap.size + 2]? = some (Obj.cells #[v] 28 (0, 0))) (hO : OwnG 23 2 ptL W (w.heap.size + 4) v F)
    (hO7 : OwnG 23 2 ptL w7 (w.heap.size + 4) v7 (F ++ [p])) (hg : W.grownBy w7 v.ownBlock) :
    w7.heap[w.heap.size + 2]? = some (Obj.cells #[v] 28 (0, 0)) ∧ (∀ b o, b < w.heap.size + 4 → w7.cell? ⟨b, o, none⟩ = W.cell? ⟨b, o, none⟩) ∧ NS w bt l (F ++ [p]) (w7.setCell ⟨w.heap.size + 2, 0, none⟩ v7) := by
  have hz := h.sz
  have hne : ∀ b, b < w.heap.size + 4 → v.ownBlock ≠ some b := fun b hb e => by
    have := (hO.lt e).1; omega
  have hb : ∀ b, b < w.heap.size + 4 → w7.heap[b]? = W.heap[b]? := fun b hb => hg.block b (by omega) (fun e => hne b hb e.symm)
  have h7 := (hb (w.heap.size + 2) (by omega)).trans hv
  have hs7 : ∀ b, b < w.heap.size + 4 → b ≠ w.heap.size + 2 → (w7.setCell ⟨w.heap.size + 2, 0, none⟩ v7).heap[b]? = W.heap[b]? := fun b h1 h2 => (Below.heap_setCell w7 _ _ b h2).trans (hb b h1)
  have hc : ∀ b o, b < w.heap.size + 4 → b ≠ w.heap.size + 2 → (w7.setCell ⟨w.heap.size + 2, 0, none⟩ v7).cell? ⟨b, o, none⟩ = W.cell? ⟨b, o, none⟩ := fun b o h1 h2 => by simp only [World.cell?, hs7 b h1 h2]
  have hz7 : W.heap.size ≤ (w7.setCell ⟨w.heap.size + 2, 0, none⟩ v7).heap.size := by
    have := hg.size
    simpa [World.setCell] using this
  obtain ⟨l1, l2, l3, l4, l5⟩ := h.ln
  have s7 : Since w w7 := since_grown h.sn hg (fun k hk => by have := (hO.lt hk).1; omega)
  refine ⟨h7, fun b o h => by simp only [World.cell?, hb b h], (hc _ _ (by omega) (by omega)).trans h.t, ⟨(hc _ _ (by omega) (by omega)).trans l1, (hc _ _ (by omega) (by omega)).trans l2, (hc _ _ (by omega) (by omega)).trans l3, (hc _ _ (by omega) (by omega)).trans l4, by omega⟩, ⟨v7, ?_, ?_⟩, (hc _ _ (by omega) (by omega)).trans h.s, s7.setCell (p := ⟨w.heap.size + 2, 0, none⟩) (by show w.heap.size ≤ w.heap.size + 2; omega) _, by omega⟩
  · exact Boxed.set v7 h7
  · exact hO7.but ((KeepBut.refl _ _).set _ _) (fun e => by have := (hO7.lt e).1; omega)
theorem NS.more {w : World} {bt : Nat} {l : Ln} {F : List Pq} {W w1 w7 : World} {v v7 : Value} {p : Pq} (h : NS w bt l F W) (hv : W.heap[w.heap.size + 2]? = some (Obj.cells #[v] 28 (0, 0))) (hO : OwnG 23 2 ptL W (w.heap.size + 4) v F) (hS : Since W w1)
    (hO7 : OwnG 23 2 ptL w7 (w.heap.size + 4) v7 (F ++ [p])) (hg : w1.grownBy w7 v.ownBlock) :
    w7.heap[w.heap.size + 2]? = some (Obj.cells #[v] 28 (0, 0)) ∧ (∀ b o, b < w.heap.size + 4 → w7.cell? ⟨b, o, none⟩ = W.cell? ⟨b, o, none⟩) ∧ NS w bt l (F ++ [p]) (w7.setCell ⟨w.heap.size + 2, 0, none⟩ v7) := by
  have hz := h.sz
  obtain ⟨r1, r2, r3⟩ := NS.more0 (h.since hS) ((hS.below.block _ (by omega)).trans hv) (hO.since hS) hO7 hg
  exact ⟨r1, fun b o hb => (r2 b o hb).trans (hS.1 b o (by omega)), r3⟩
set_option maxRecDepth 100000 in
set_option maxHeartbeats 8000000 in
theorem sn_find0 (l : Ln) (hg : (goodB l.ax l.ay && goodB l.bx l.bz) = true) (w : World) (bt m : Nat) (P : List Pq) (hT : TreeR w w.heap.size bt P m) (hP : ∀ p ∈ P, PixOk p) (hPl : P.length ≤ 100000000) (i : Nat) (hi : i < P.length) (W : World) (F : List Pq) (h : NS w bt l F W) (hF : F.length ≤ 100000000) :
    Calls Tryz.prog 71 #[.int .i64 0, .int .i64 (i : Int), .pointer (some ⟨w.heap.size, 0, none⟩), .pointer (some ⟨w.heap.size + 1, 0, none⟩), .pointer (some ⟨w.heap.size + 2, 0, none⟩), .pointer (some ⟨w.heap.size + 3, 0, none⟩)] W fun e W' => (∃ u, e = .returned u) ∧ NS w bt l (F ++ srL l P 0 i) W' := by
  obtain ⟨s, hs⟩ : ∃ s, P[i]? = some s := ⟨_, List.getElem?_eq_getElem hi⟩
  have hps := hP s (List.mem_of_getElem? hs)
  have hTo := fun W => sn_touches l (ptB s) (ptB_ok hps) hg W
  rw [srL_zero hs]
  obtain ⟨hbt0, ⟨A, c, t1, hR⟩, _⟩ := hT
  obtain ⟨b, o, rfl, hb0, hcell⟩ := hR (by omega)
  have hsn := h.sn
  have c1 := (hsn.1 _ _ hb0).trans (hcell i s hs 0 (by omega))
  have c2 := (hsn.1 _ _ hb0).trans (hcell i s hs 1 (by omega))
  have t1 := (hsn.1 _ _ hbt0).trans t1
  have hbt := hsn.2.2.1 _ hbt0
  have hb := hsn.2.2.1 _ hb0
  simp only [ptL, List.getD_cons_succ, List.getD_cons_zero, Nat.add_zero] at c1 c2
  have c0 := h.t
  have hz := h.sz
  obtain ⟨l1, l2, l3, l4, l5⟩ := h.ln
  obtain ⟨v, hv, hO⟩ := h.f
  have k1 := Boxed.cell hv
  have k2 := Boxed.frozen hv
  have q0 : w.heap.size < W.heap.size := by omega
  have q1 : w.heap.size + 2 < W.heap.size := by omega
  have hn : (i : Int) < (P.length : Int) := by omega
  unfold Bx.v ptB Ln.v at hTo
  obtain ⟨x, y⟩ := s
  simp only at c1 c2 hTo
  generalize hPN : P.length = N at *
  have HH := Lib.hid h; have HV := Lib.hid hv; have HO := Lib.hid hO
  clear h hv hO hcell hR hs hps hP hPN hsn
  cases hb1 : tch l (ptB ⟨x, y⟩)
  · unfold ptB at hb1
    rw [hb1] at hTo
    have HT := Lib.hid hTo
    clear hTo hb1
    go_enter Tryz.func71, Tryz.ntmps71
    go_upto_region 1 with fail
    (refine wp_named fun wr1 hwr1 => ?_; go_region_held3 (fun w' => (∀ b o, b < wr1.heap.size → w'.cell? ⟨b, o, none⟩ = wr1.cell? ⟨b, o, none⟩) ∧ (∀ b o, b < wr1.heap.size → w'.frozen? ⟨b, o, none⟩ = wr1.frozen? ⟨b, o, none⟩) ∧ (∀ k, k < wr1.heap.size → k < w'.heap.size) ∧ Below wr1.heap.size wr1 w') ((subst hwr1; (repeat (with_reducible (refine since_put ?_ ?_ _); rotate_left; focus (first | (simp; done) | (simp; omega) | omega))); first | with_reducible assumption | (refine since_step (by with_reducible assumption) ?_; first | with_reducible assumption | ((repeat (first | with_reducible (exact Since.refl _) | with_reducible assumption | with_reducible (refine Since.drew ?_) | with_reducible (refine Since.drewN ?_ _) | with_reducible (refine Since.alloc ?_ _) | (with_reducible (refine Since.setCell ?_ ?_ _); rotate_left; focus (first | (simp; done) | (simp; omega) | omega)))); done)) | (refine since_step (Since.refl _) ?_; first | with_reducible assumption | ((repeat (first | with_reducible (exact Since.refl _) | with_reducible assumption | with_reducible (refine Since.drew ?_) | with_reducible (refine Since.drewN ?_ _) | with_reducible (refine Since.alloc ?_ _) | (with_reducible (refine Since.setCell ?_ ?_ _); rotate_left; focus (first | (simp; done) | (simp; omega) | omega)) | (with_reducible (refine Since.trans ?_ (by with_reducible assumption))))); done)))) ((go_at_call 72; refine (HT.out _).mono ?_; rintro e w1 ⟨rfl, hS⟩; have hZ := hS.below.size; (try simp at hZ))); all_goals (rename_i hHeld; have hR1 : Since wr1 _ := hHeld; obtain ⟨hcR1, hfR1, hzR1, hbR1⟩ := hHeld; subst hwr1))
    all_goals go_wp2
    all_goals refine bodyPost_ret (results_none rfl _ _ _) rfl ⟨⟨_, rfl⟩, HH.out.since ?_⟩
    all_goals (repeat (first | with_reducible (exact Since.refl _) | with_reducible assumption | with_reducible (refine Since.drew ?_) | with_reducible (refine Since.drewN ?_ _) | with_reducible (refine Since.alloc ?_ _) | (with_reducible (refine Since.setCell ?_ ?_ _); rotate_left; focus (first | (simp; done) | (simp; omega) | omega)) | (with_reducible (refine Since.trans ?_ (by with_reducible assumption)))))
  · unfold ptB at hb1
    rw [hb1] at hTo
    have HT := Lib.hid hTo
    clear hTo hb1
    go_enter Tryz.func71, Tryz.ntmps71
    go_upto_region 1 with fail
    (refine wp_named fun wr1 hwr1 => ?_; go_region_held3 (fun w' => (∀ b o, b < wr1.heap.size → w'.cell? ⟨b, o, none⟩ = wr1.cell? ⟨b, o, none⟩) ∧ (∀ b o, b < wr1.heap.size → w'.frozen? ⟨b, o, none⟩ = wr1.frozen? ⟨b, o, none⟩) ∧ (∀ k, k < wr1.heap.size → k < w'.heap.size) ∧ Below wr1.heap.size wr1 w') ((subst hwr1; (repeat (with_reducible (refine since_put ?_ ?_ _); rotate_left; focus (first | (simp; done) | (simp; omega) | omega))); first | with_reducible assumption | (refine since_step (by with_reducible assumption) ?_; first | with_reducible assumption | ((repeat (first | with_reducible (exact Since.refl _) | with_reducible assumption | with_reducible (refine Since.drew ?_) | with_reducible (refine Since.drewN ?_ _) | with_reducible (refine Since.alloc ?_ _) | (with_reducible (refine Since.setCell ?_ ?_ _); rotate_left; focus (first | (simp; done) | (simp; omega) | omega)))); done)) | (refine since_step (Since.refl _) ?_; first | with_reducible assumption | ((repeat (first | with_reducible (exact Since.refl _) | with_reducible assumption | with_reducible (refine Since.drew ?_) | with_reducible (refine Since.drewN ?_ _) | with_reducible (refine Since.alloc ?_ _) | (with_reducible (refine Since.setCell ?_ ?_ _); rotate_left; focus (first | (simp; done) | (simp; omega) | omega)) | (with_reducible (refine Since.trans ?_ (by with_reducible assumption))))); done)))) ((go_at_call 72; refine (HT.out _).mono ?_; rintro e w1 ⟨rfl, hS⟩; have hZ := hS.below.size; (try simp at hZ))); all_goals (rename_i hHeld; have hR1 : Since wr1 _ := hHeld; obtain ⟨hcR1, hfR1, hzR1, hbR1⟩ := hHeld; subst hwr1))
    all_goals go_upto_region 2 with fail
    refine wp_named fun wa hwa => ?_
    have hSa : Since wr1 wa := by subst hwa; (repeat (first | with_reducible (exact Since.refl _) | with_reducible assumption | with_reducible (refine Since.drew ?_) | with_reducible (refine Since.drewN ?_ _) | with_reducible (refine Since.alloc ?_ _) | (with_reducible (refine Since.setCell ?_ ?_ _); rotate_left; focus (first | (simp; done) | (simp; omega) | omega)) | (with_reducible (refine Since.trans ?_ (by with_reducible assumption)))))
    have hNa := HH.out.since hSa
    have hva := (hSa.below.block _ q1).trans HV.out
    have hOa := HO.out.since hSa
    have c1 := (hSa.1 _ _ hb).trans c1
    have c2 := (hSa.1 _ _ hb).trans c2
    have t1 := (hSa.1 _ _ hbt).trans t1
    have c0 := (hSa.1 _ _ q0).trans c0
    have k1 := Boxed.cell hva
    have k2 := Boxed.frozen hva
    have hbt := hSa.2.2.1 _ hbt
    have hb := hSa.2.2.1 _ hb
    have q0 := hSa.2.2.1 _ q0
    have q1 := hSa.2.2.1 _ q1
    have hza := hNa.sz
    clear hwa hSa hcR1 hfR1 hzR1 hbR1 hR1 l1 l2 l3 l4 l5 hz
    have HNA := Lib.hid hNa; have HVA := Lib.hid hva; have HOA := Lib.hid hOa
    clear hNa hva hOa HH HV HO
    go_region_law ((rw [if_pos (by rfl)]; refine oper_append_g (.tmp 29) (.tmp 37) 28 23 (by rfl) (by omega) ptL_len ptL_one 16 Tryz.underlying28 infoPt (w.heap.size + 4) v F (by rfl) (show OwnG 23 2 ptL (wa.alloc _) _ _ _ from OwnG.alloc HOA.out _) _ _ 1 _ [⟨x, y⟩] rfl (by rfl) (show RdG 2 ptL (wa.alloc _) _ _ _ from pt_one wa _ rfl _ ⟨x, y⟩) ?_ ?_ ?_ ?_; (focus (simp only [List.length_cons, List.length_nil]; omega)); (focus (simp only [List.length_cons, List.length_nil, maxLen]; omega)); (focus (simp; omega)); intro v7 w7 hO7 hg7 hb7; obtain ⟨A7, c7, hv7, _, _⟩ := OwnG.rd (by omega) ptL_len hO7; obtain ⟨n7, hn7⟩ : ∃ n7, n7 = (F ++ [(⟨x, y⟩ : Pq)]).length := ⟨_, rfl⟩; rw [← hn7] at hv7; subst hv7; clear hn7; obtain ⟨r1, r2, r3⟩ := NS.more HNA.out HVA.out HOA.out (show Since wa _ from by (repeat (first | with_reducible (exact Since.refl _) | with_reducible assumption | with_reducible (refine Since.drew ?_) | with_reducible (refine Since.drewN ?_ _) | with_reducible (refine Since.alloc ?_ _) | (with_reducible (refine Since.setCell ?_ ?_ _); rotate_left; focus (first | (simp; done) | (simp; omega) | omega)) | (with_reducible (refine Since.trans ?_ (by with_reducible assumption)))))) hO7 hg7; have g0 := (r2 _ _ (by omega)).trans c0; have g1 := (r2 _ _ (by omega)).trans t1; have g2 := (r2 _ _ (by omega)).trans c1; have g3 := (r2 _ _ (by omega)).trans c2; have g4 := (r2 _ _ (by omega)).trans k1; have g5 := Boxed.frozen r1; have HR := Lib.hid r3; clear r1 r2 r3 hO7 hg7 hb7 c0 t1 c1 c2 k1 k2; have c0 := g0; have t1 := g1; have c1 := g2; have c2 := g3; have k1 := g4; clear g0 g1 g2 g3 g4))
    all_goals go_wp2
    all_goals refine bodyPost_ret (results_none rfl _ _ _) rfl ⟨⟨_, rfl⟩, ?_⟩
    all_goals (first | with_reducible exact HR.out | (simp only [if_true]; with_reducible exact HR.out))
end Go.Proofs.YtcfghkphkmoikaaGreat
