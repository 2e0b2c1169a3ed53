/-
  Layer 17: the law SnapFlows, walked.
-/
import Derived.Test.YtcfghkphkmoikaaGreatMqB
import Derived.Test.YtcfghkphkmoikaaGreatMqO
import Derived.Test.YtcfghkphkmoikaaGreatFaM
namespace Go.Proofs.YtcfghkphkmoikaaGreat
set_option maxRecDepth 100000
open Go.RowKit
set_option linter.unusedVariables false
set_option linter.unusedSimpArgs false
def lqOf (l : Ln) : Lq := ⟨l.ax, l.ay, l.bx, l.bz⟩
theorem rdG_lq {w : World} {B : Nat} {A : Option Addr} {L : List Ln} (h : RdG 4 lnE w B A L) : RdG 4 lnL w B A (L.map lqOf) := fun hn => by
  obtain ⟨b, o, e, hb, hc⟩ := h (by simpa using hn)
  refine ⟨b, o, e, hb, fun j s hj i hi => ?_⟩
  rw [List.getElem?_map] at hj
  cases hx : L[j]? with
  | none => rw [hx] at hj; cases hj
  | some x =>
    rw [hx] at hj
    obtain rfl : lqOf x = s := by simpa using hj
    exact hc j x hx i hi
theorem cntJ_map (L : List Ln) (p : Pq) : ∀ k : Nat, cntJ (L.map lqOf) p k = (((L.take k).map (fun l => (⟨l.ax, l.ay⟩ : Pq))).count p : Int) - (((L.take k).map (fun l => (⟨l.bx, l.bz⟩ : Pq))).count p : Int)
  | 0 => by simp [cntJ]
  | k + 1 => by
    have ih := cntJ_map L p k
    cases hx : L[k]? with
    | none =>
      have e : cntJ (L.map lqOf) p (k + 1) = cntJ (L.map lqOf) p k := by simp only [cntJ, List.getElem?_map, hx, Option.map_none]
      rw [e, ih, List.take_add_one, hx]
      simp
    | some x =>
      have e := cntJ_step (L.map lqOf) p k (lqOf x) (by rw [List.getElem?_map, hx]; rfl)
      rw [e, ih, List.take_add_one, hx]
      simp only [Option.toList_some, List.map_append, List.map_cons, List.map_nil, List.count_append, List.count_singleton, lqOf, beq_iff_eq]
      have e1 : ((⟨x.ax, x.ay⟩ : Pq) = p) ↔ (x.ax = p.x ∧ x.ay = p.y) := by cases p; simp
      have e2 : ((⟨x.bx, x.bz⟩ : Pq) = p) ↔ (x.bx = p.x ∧ x.bz = p.y) := by cases p; simp
      simp only [e1, e2]
      by_cases k1 : x.ax = p.x ∧ x.ay = p.y <;> by_cases k2 : x.bx = p.x ∧ x.bz = p.y <;> simp only [k1, k2, if_true, if_false, and_self] <;> omega
theorem closed_cnt {L : List Ln} (h : closedB (L.map lqOf) = true) (p : Pq) : (L.map (fun l => (⟨l.ax, l.ay⟩ : Pq))).count p = (L.map (fun l => (⟨l.bx, l.bz⟩ : Pq))).count p := by
  have hk := cntJ_map L p L.length
  rw [List.take_of_length_le (Nat.le_refl _)] at hk
  have hz : ∀ x ∈ L, cntL (L.map lqOf) ⟨x.ax, x.ay⟩ = 0 ∧ cntL (L.map lqOf) ⟨x.bx, x.bz⟩ = 0 := fun x hx => by
    unfold closedB at h
    rw [List.all_eq_true] at h
    have := h (lqOf x) (List.mem_map_of_mem hx)
    unfold chkL at this
    simpa [lqOf] using this
  have hcl : cntL (L.map lqOf) p = cntJ (L.map lqOf) p L.length := by unfold cntL; rw [List.length_map]
  by_cases h1 : p ∈ L.map (fun l => (⟨l.ax, l.ay⟩ : Pq))
  · obtain ⟨x, hx, rfl⟩ := List.mem_map.1 h1
    have := (hz x hx).1
    rw [hcl, hk] at this
    omega
  · by_cases h2 : p ∈ L.map (fun l => (⟨l.bx, l.bz⟩ : Pq))
    · obtain ⟨x, hx, rfl⟩ := List.mem_map.1 h2
      have := (hz x hx).2
      rw [hcl, hk] at this
      omega
    · rw [List.count_eq_zero.2 h1, List.count_eq_zero.2 h2]
/-- What the law sums up, its sums wrapped. -/
def flJ (E : List Eg) (g : Eg → Int) (p : Pq) : Nat → Int
  | 0 => 0
  | k + 1 => match E[k]? with
    | some y => if y.b = p then IntKind.i64.wrap ((if y.a = p then IntKind.i64.wrap (flJ E g p k + g y) else flJ E g p k) - g y) else (if y.a = p then IntKind.i64.wrap (flJ E g p k + g y) else flJ E g p k)
    | none => flJ E g p k
theorem flJ_step (E : List Eg) (g : Eg → Int) (p : Pq) (k : Nat) (y : Eg) (h : E[k]? = some y) : flJ E g p (k + 1) = if y.b = p then IntKind.i64.wrap ((if y.a = p then IntKind.i64.wrap (flJ E g p k + g y) else flJ E g p k) - g y) else (if y.a = p then IntKind.i64.wrap (flJ E g p k + g y) else flJ E g p k) := by simp only [flJ, h]
theorem wr64 (x : Int) : IntKind.i64.wrap x = wrap64 x := IntWalk.i64_left x
theorem fl_sum (E : List Eg) (g : Eg → Int) (p : Pq) : ∀ k : Nat, flJ E g p k = IntKind.i64.wrap (smL (fun e => g e * (atP p e.a - atP p e.b)) (E.take k))
  | 0 => by simp [flJ, wr64, smL, wrap64]
  | k + 1 => by
    have ih := fl_sum E g p k
    cases hx : E[k]? with
    | none =>
      have e : flJ E g p (k + 1) = flJ E g p k := by simp only [flJ, hx]
      rw [e, ih, List.take_add_one, hx]
      simp
    | some y =>
      rw [flJ_step E g p k y hx, ih, List.take_add_one, hx]
      simp only [Option.toList_some]
      rw [sm_app, sm_cons, show smL (fun e => g e * (atP p e.a - atP p e.b)) [] = 0 from rfl]
      generalize smL (fun e => g e * (atP p e.a - atP p e.b)) (E.take k) = s
      generalize g y = m
      simp only [wr64]
      unfold atP
      by_cases h1 : y.a = p <;> by_cases h2 : y.b = p
      · simp only [h1, h2, if_true]
        rw [show m * (1 - 1) = 0 by simp]
        unfold wrap64; omega
      · simp only [h1, h2, if_true, if_false]
        rw [show m * (1 - 0) = m by simp]
        unfold wrap64; omega
      · simp only [h1, h2, if_true, if_false]
        rw [show m * (0 - 1) = -m by omega]
        unfold wrap64; omega
      · simp only [h1, h2, if_false]
        rw [show m * (0 - 0) = 0 by simp]
        unfold wrap64; omega
def mk17 (k : Int) (e : Eg) : Int := if k = 0 then e.m else e.n
theorem flow_k {A B : List Ln} {E : List Eg} (h : EdgesL A B E) (hg : ∀ l ∈ A ++ B, lnG l = true) (k : Int) (hcl : closedB ((if k = 0 then A else B).map lqOf) = true) (p : Pq) : flJ E (mk17 k) p E.length = 0 := by
  obtain ⟨H, hH, ch, hc, hE⟩ := h
  rw [fl_sum, List.take_of_length_le (Nat.le_refl _)]
  have hend : ∀ l ∈ A ++ B, (⟨pxI l.ax, pxI l.ay⟩ : Pq) ∈ H ∧ (⟨pxI l.bx, pxI l.bz⟩ : Pq) ∈ H := fun l hl => ⟨(hH.2 _).2 (.inl ⟨l, hl, .inl rfl⟩), (hH.2 _).2 (.inl ⟨l, hl, .inr rfl⟩)⟩
  have hgd : ∀ l ∈ A ++ B, goodB l.ax l.ay = true ∧ goodB l.bx l.bz = true := fun l hl => Bool.and_eq_true_iff.1 (hg l hl)
  have hA : ∀ l ∈ A, l ∈ A ++ B := fun l hl => List.mem_append.2 (.inl hl)
  have hB : ∀ l ∈ B, l ∈ A ++ B := fun l hl => List.mem_append.2 (.inr hl)
  obtain ⟨e1, e2⟩ := edge_flow (α := Unit) hE (steps_ne (fun l hl => hc l (hA l hl))) (steps_ne (fun l hl => hc l (hB l hl))) p
  by_cases hk : k = 0
  · rw [if_pos hk] at hcl
    have e3 := edges_flow (fun l hl => hc l (hA l hl)) (fun l hl => hgd l (hA l hl)) (fun l hl => hend l (hA l hl)) (closed_cnt hcl) p
    have e4 : (fun e : Eg => mk17 k e * (atP p e.a - atP p e.b)) = fun e => e.m * (atP p e.a - atP p e.b) := by funext e; unfold mk17; rw [if_pos hk]
    rw [e4, e1, e3]; rfl
  · rw [if_neg hk] at hcl
    have e3 := edges_flow (fun l hl => hc l (hB l hl)) (fun l hl => hgd l (hB l hl)) (fun l hl => hend l (hB l hl)) (closed_cnt hcl) p
    have e4 : (fun e : Eg => mk17 k e * (atP p e.a - atP p e.b)) = fun e => e.n * (atP p e.a - atP p e.b) := by funext e; unfold mk17; rw [if_neg hk]
    rw [e4, e2, e3]; rfl
theorem own_max17 {α : Type} {enc : α → List Value} {t : TypeId} {k base : Nat} {w : World} {v : Value} {L : List α} (h : OwnG t k enc w base v L) : L.length ≤ 9223372036854775807 := by
  rcases h.2 with ⟨_, h0⟩ | ⟨g, cap, cur, _, _, _, h1, h2, _⟩
  · have h0 : L.length = 0 := h0
    rw [h0]; exact Nat.zero_le _
  · exact Nat.le_trans h1 h2
/-- At most eighty lines: an error, or edges. -/
theorem sn_edges_80 (A B : Option Addr) (n m c d : Nat) (L M : List Ln) (w : World) (hn : n = L.length) (hm : m = M.length) (h : n + m ≤ 80) (hL : RdG 4 lnE w w.heap.size A L) (hM : RdG 4 lnE w w.heap.size B M) (hwf : ∀ l ∈ L ++ M, l.wf) :
    Calls Tryz.prog 15 #[.slice A n c, .slice B m d] w fun e w' => (e = .returned (.tuple #[.slice none 0 0, .int .i64 6]) ∧ Hid (∃ l ∈ L ++ M, lnG l = false) ∧ Since w w') ∨ (∃ D k cD E, e = .returned (.tuple #[.slice D k cD, .int .i64 0]) ∧ Hid (k = E.length) ∧ k ≤ 9223372036854775807 ∧ Hid (RdG 6 egL w' w'.heap.size D E) ∧ Hid (∀ l ∈ L ++ M, lnG l = true) ∧ Hid (EdgesL L M E) ∧ Since w w') := by
  by_cases hg : ∀ l ∈ L ++ M, lnG l = true
  · refine (sn_edges_ok A B n m c d L M w hn hm hL hM hwf (by omega) hg).mono ?_
    rintro e w' ⟨hS, (⟨k, _⟩ | ⟨_, ⟨l, hl, k⟩, _⟩ | ⟨_, _, v, E, rfl, hO, hE⟩)⟩
    · omega
    · rw [hg l hl] at k; cases k
    · have hd := own_max17 hO
      obtain ⟨D, k, rfl, _, hr⟩ := OwnG.rd (by omega) egL_len hO
      exact .inr ⟨D, E.length, k, E, rfl, Lib.hid rfl, hd, Lib.hid hr, Lib.hid hg, Lib.hid hE, hS⟩
  · have hb : ∃ l ∈ L ++ M, lnG l = false := by
      refine Decidable.byContradiction fun hno => hg fun l hl => ?_
      cases hx : lnG l
      · exact absurd ⟨l, hl, hx⟩ hno
      · rfl
    refine (sn_edges_bad A B n m c d L M w hn hm hL hM hwf (by omega) hb).mono ?_
    rintro e w' ⟨rfl, hS⟩
    exact .inl ⟨rfl, Lib.hid hb, hS⟩
theorem law17_great (A B : Option Addr) (n m c d : Nat) (h : n + m ≤ 9223372036854775807) (w : World) : Calls Tryz.prog 14 #[.agg #[.slice A n c, .slice B m d]] w fun e w' => e = .returned (.bool (decide (80 < n + m))) ∧ Since w w' := by
  have e1 : IntKind.i64.wrap ((n : Int) + (m : Int)) = (n : Int) + (m : Int) := IntWalk.i64_in _ (by omega)
  have e2 : decide ((80 : Int) < (n : Int) + (m : Int)) = decide (80 < n + m) := by congr 1; simp only [eq_iff_iff]; omega
  rw [← e2]
  clear e2
  go_enter Tryz.func14, Tryz.ntmps14
  go_wp2
  go_ret
  exact ⟨by first | rfl | simp, by (repeat (first | with_reducible (exact Since.refl _) | with_reducible assumption | with_reducible (refine Since.drew ?_) | with_reducible (refine Since.drewN ?_ _) | with_reducible (refine Since.alloc ?_ _) | (with_reducible (refine Since.setCell ?_ ?_ _); rotate_left; focus (first | (simp; done) | (simp; omega) | omega)) | (with_reducible (refine Since.trans ?_ (by with_reducible assumption)))))⟩
theorem al17_box (w : World) (b : Nat) (hb : b = w.heap.size) (t : TypeId) (u v : Value) : Calls Tryz.prog 9 #[] (w.alloc (.cells #[u, v] t)) fun e w' => e = .returned (.bool true) ∧ TwoAt w' b t u v ∧ Since w w' :=
  (alive17 _).mono fun e w' h => ⟨h.1, (TwoAt.new w b hb t u v).since h.2, ((Since.refl w).alloc _).trans h.2⟩
end Go.Proofs.YtcfghkphkmoikaaGreat
