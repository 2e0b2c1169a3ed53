/-
  Layer 12: 'fail' of both; the program's simple glyphs, walked.
-/
import Derived.Test.YtcjjcjpkmjbfkaaMhI
import Derived.Test.YtcjjcjpkmjbfkaaMhE
import Derived.Test.YtcjjcjpkmjbfkaaSjD
import Derived.Test.YtcjjcjpkmjbfkaaMhG
namespace Go.Proofs.Ytcjjcjpkmjbfkaa
open Go.RowKit Go.ChangeShapes Go.WideShapes Go.Deep
set_option linter.unusedVariables false
set_option linter.unusedSimpArgs false


set_option maxRecDepth 100000 in
set_option maxHeartbeats 8000000 in
theorem ex_fail (q : Nat) (A : Option Addr) (n c : Nat) (p E x : Int) (w : World) (hR : BoxX w q (RdrF A n c p E)) :
    Calls Try.prog 30 #[.pointer (some ⟨q, 0, none⟩), .int .i64 x] w fun e w' => e = .returned (.tuple #[]) ∧ BoxX w' q (RdrF A n c p (if E = 0 then x else E)) ∧ Nigh q w w' := by
  obtain ⟨c0, c1, c2, f1, f2, hq⟩ := rdr_cells hR.row
  by_cases h0 : E = 0
  · subst h0
    have H1 : BoxX (w.setCell ⟨q, 2, none⟩ (.int .i64 x)) q (RdrF A n c p x) ∧ Nigh q w (w.setCell ⟨q, 2, none⟩ (.int .i64 x)) := ⟨hR.er x, (Nigh.refl q w).set _ _⟩
    have HH := Lib.hid H1
    clear H1 hR
    go_enter Try.func30, Try.ntmps30
    go_wp2_with fail
    first | go_end0 | (refine bodyPost_ret (results_none rfl _ _ _) rfl ?_)
    exact ⟨rfl, by first | exact HH.out.1 | (rw [if_pos rfl]; exact HH.out.1), HH.out.2⟩
  · have d0 : (E == 0) = false := by simpa using h0
    have H1 : BoxX w q (RdrF A n c p E) ∧ Nigh q w w := ⟨hR, Nigh.refl q w⟩
    have HH := Lib.hid H1
    clear H1 hR
    go_enter Try.func30, Try.ntmps30
    go_wp2_with fail
    first | go_end0 | (refine bodyPost_ret (results_none rfl _ _ _) rfl ?_)
    exact ⟨rfl, by first | exact HH.out.1 | (rw [if_neg h0]; exact HH.out.1), HH.out.2⟩

set_option maxRecDepth 100000 in
set_option maxHeartbeats 8000000 in
theorem rf_fail (q : Nat) (A : Option Addr) (n c : Nat) (p E x : Int) (w : World) (hR : BoxX w q (RdrF A n c p E)) :
    Calls Try.prog 35 #[.pointer (some ⟨q, 0, none⟩), .int .i64 x] w fun e w' => e = .returned (.tuple #[]) ∧ BoxX w' q (RdrF A n c p (if E = 0 then x else E)) ∧ Nigh q w w' := by
  obtain ⟨c0, c1, c2, f1, f2, hq⟩ := rdr_cells hR.row
  by_cases h0 : E = 0
  · subst h0
    have H1 : BoxX (w.setCell ⟨q, 2, none⟩ (.int .i64 x)) q (RdrF A n c p x) ∧ Nigh q w (w.setCell ⟨q, 2, none⟩ (.int .i64 x)) := ⟨hR.er x, (Nigh.refl q w).set _ _⟩
    have HH := Lib.hid H1
    clear H1 hR
    go_enter Try.func35, Try.ntmps35
    go_wp2_with fail
    first | go_end0 | (refine bodyPost_ret (results_none rfl _ _ _) rfl ?_)
    exact ⟨rfl, by first | exact HH.out.1 | (rw [if_pos rfl]; exact HH.out.1), HH.out.2⟩
  · have d0 : (E == 0) = false := by simpa using h0
    have H1 : BoxX w q (RdrF A n c p E) ∧ Nigh q w w := ⟨hR, Nigh.refl q w⟩
    have HH := Lib.hid H1
    clear H1 hR
    go_enter Try.func35, Try.ntmps35
    go_wp2_with fail
    first | go_end0 | (refine bodyPost_ret (results_none rfl _ _ _) rfl ?_)
    exact ⟨rfl, by first | exact HH.out.1 | (rw [if_neg h0]; exact HH.out.1), HH.out.2⟩

theorem OwnO.nigh {w w' : World} {base q : Nat} {v : Value} {LL : List (List Kt)} (h : OwnO w base v LL) (k : Nigh q w w') (hq : q < base) : OwnO w' base v LL :=
  h.keepB (fun b hb hb2 => k.1.2 b hb2 (by omega))
theorem OwnO.lowO {w : World} {base base' : Nat} {v : Value} {LL : List (List Kt)} (h : OwnO w base v LL) (hb : base' ≤ base) : OwnO w base' v LL := by
  obtain ⟨hs, hl, ho, hK⟩ := h
  exact ⟨hs, hl, ho.low hb, fun j x L h1 h2 => OwnG.low (hK j x L h1 h2) hb⟩
theorem an7_no {f : Nat → Int} {n : Nat} (h : (rdAns7 f n).e ≠ 0) : lay7 (rdAns7 f n) = [] := by
  have hno : ∀ x, lay7 (no7 x) = [] := fun x => rfl
  revert h
  unfold rdAns7
  split
  · intro _; exact hno _
  split
  · intro _; exact hno _
  split
  · intro _; exact hno _
  split
  · intro _; exact hno _
  unfold rdA7
  split
  · intro _; exact hno _
  split
  · intro _; exact hno _
  split
  · intro _; exact hno _
  unfold rdB7
  split
  · intro _; exact hno _
  split
  · intro _; exact hno _
  split
  · intro _; exact hno _
  intro h
  exact absurd rfl h
/-- What a call with the shared walk leaves: contours of its own, the walk's error. -/
def WkPost (q : Nat) (A : Option Addr) (N c : Nat) (V E : Int) (LL : List (List Kt)) (w : World) (e : Ending) (w' : World) : Prop :=
  ∃ u, e = .returned u ∧ OwnO w' w.heap.size u LL ∧ BoxX w' q (RdrF A N c V E) ∧ Nigh q w w'
set_option maxRecDepth 100000 in
set_option maxHeartbeats 8000000 in
theorem ex_simple (q : Nat) (A : Option Addr) (N c : Nat) (V : Int) (A' : Option Addr) (n' c' : Nat) (L : List Int) (w : World) (hR : BoxX w q (RdrF A N c V 0)) (hb : RdB w w.heap.size A' L) (hL : Bytes L) (hn : n' = L.length) (hx : n' ≤ 140737488355328) (hc : n' ≤ c') :
    Calls Try.prog 32 #[.pointer (some ⟨q, 0, none⟩), .slice A' n' c'] w (WkPost q A N c V (rdAns7 (fnL L) L.length).e ((lay7 (rdAns7 (fnL L) L.length)).map (List.map liftK)) w) := by
  subst hn
  have hfn := lay7_fine (bytes_fn hL)
  have HS := Lib.hid (si_read A' L.length c' (fnL L) w (rdb_rd hb) (bytes_fn hL) hx hc)
  unfold RdPost7 at HS
  have hlen : (lay7 (rdAns7 (fnL L) L.length)).length ≤ 1000000 := by
    have h1 := len_sum hfn.2.1
    have h2 := hfn.2.2
    omega
  have hml : ∀ M, M ∈ lay7 (rdAns7 (fnL L) L.length) → M.length ≤ 1000000 := fun M hM => by
    have h1 := mem_sum hM
    have h2 := hfn.2.2
    omega
  have HLF := Lib.hid (fun (A1 : Option Addr) (c1 : Nat) (w2 : World) (h2 : RdOL w2 w2.heap.size A1 (lay7 (rdAns7 (fnL L) L.length))) => ou_lift A1 c1 _ w2 h2 hlen hml)
  unfold LiftOut at HLF
  have HIN := Lib.hid hfn.1
  have HNO := Lib.hid (fun (h : (rdAns7 (fnL L) L.length).e ≠ 0) => an7_no h)
  generalize (rdAns7 (fnL L) L.length).m = m at *
  obtain ⟨EE, hE⟩ : ∃ EE, EE = (rdAns7 (fnL L) L.length).e := ⟨_, rfl⟩
  rw [← hE] at HS HNO ⊢
  obtain ⟨LL, hLL⟩ : ∃ LL, LL = lay7 (rdAns7 (fnL L) L.length) := ⟨_, rfl⟩
  rw [← hLL] at HS HNO HLF HIN ⊢
  have hq := hR.lt
  have HRR := Lib.hid hR
  clear hb hfn hlen hml hE hLL hL hx hc hR
  have HL2 := Lib.hid (fun (A1 : Option Addr) (c1 : Nat) (w2 : World) (h2 : RdOL w2 w2.heap.size A1 LL) => (HLF.out A1 c1 w2 h2).mono (show ∀ e w', _ → ∃ v, e = .returned (.tuple #[v, .int .i64 0]) ∧ OwnO w' w2.heap.size v (LL.map (List.map liftK)) ∧ Since w2 w' from fun e w' hh => by
    rcases hh with ⟨_, v, base, e1, e2, e3, e4⟩ | ⟨e1, _⟩
    · exact ⟨v, e1, e3.lowO e2, e4⟩
    · exact absurd HIN.out e1))
  clear HLF HIN
  by_cases h0 : EE = 0
  · subst h0
    have HFL := Lib.hid (fun (w2 : World) (h2 : BoxX w2 q (RdrF A N c V 0)) => ex_fail q A N c V 0 0 w2 h2)
    go_enter Try.func32, Try.ntmps32
    go_wp2_with (first | (go_at_call 41; (with_reducible refine HS.out.mono ?_); rintro e w2 ⟨A1, c1, A2, c2, rfl, hO, _, _, hS2⟩; have hR2 := HRR.out.since hS2; have hO2 := hO.on ((Since.refl w2).alloc (.cells #[.slice A1 LL.length c1, .slice A2 m c2] 51))) | (go_at_call 42; (with_reducible refine (HL2.out A1 c1 _ hO2).mono ?_); rintro e w3 ⟨v3, rfl, hO3, hS3⟩; have hX3 := ((Since.refl w2).alloc _).trans hS3; have hR3 := hR2.since hX3) | (go_at_call 30; (with_reducible refine (HFL.out _ hR3).mono ?_); rintro e w4 ⟨rfl, hR4, hN4⟩))
    go_ret
    have hR4 : BoxX w4 q (RdrF A N c V 0) := by simpa using hR4
    have hz := hS2.below.size
    exact ⟨_, rfl, (hO3.nigh hN4 (by simp; omega)).lowO (by simp; omega), hR4, ((Nigh.refl q w).since (hS2.trans hX3)).trans hN4⟩
  · have hL0 := HNO.out h0
    subst hL0
    have d0 : (EE == 0) = false := by simpa using h0
    have HFL := Lib.hid (fun (w2 : World) (h2 : BoxX w2 q (RdrF A N c V 0)) => ex_fail q A N c V 0 EE w2 h2)
    clear HL2
    go_enter Try.func32, Try.ntmps32
    go_wp2_with (first | (go_at_call 41; (with_reducible refine HS.out.mono ?_); rintro e w2 ⟨A1, c1, A2, c2, rfl, hO, _, _, hS2⟩; have hR2 := HRR.out.since hS2) | (go_at_call 30; (with_reducible refine (HFL.out _ (hR2.since ((Since.refl _).alloc _))).mono ?_); rintro e w3 ⟨rfl, hR3, hN3⟩))
    go_ret
    have hR3 : BoxX w3 q (RdrF A N c V EE) := by simpa using hR3
    exact ⟨_, rfl, OwnO.nil _ _, hR3, ((Nigh.refl q w).since (hS2.alloc _)).trans hN3⟩
theorem ex_d_end : True := trivial
end Go.Proofs.Ytcjjcjpkmjbfkaa
