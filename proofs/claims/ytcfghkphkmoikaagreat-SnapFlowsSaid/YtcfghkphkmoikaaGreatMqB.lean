/-
  Texts of this seat, put together: each with its own head.
-/
import Derived.Test.YtcfghkphkmoikaaGreatSnEb
import Derived.Test.YtcfghkphkmoikaaGreatMqQ
import Derived.Test.YtcfghkphkmoikaaGreatMqG

/-
  Layer 17: the document's two examples of edges.
-/
namespace Go.Proofs.YtcfghkphkmoikaaGreat
set_option maxRecDepth 100000
open Go.RowKit
set_option linter.unusedVariables false
set_option linter.unusedSimpArgs false
instance (p q : Pq) : Decidable (LtP p q) := by unfold LtP; infer_instance
instance (e f : Eg) : Decidable (LtE e f) := by unfold LtE; infer_instance
def chainB (sx sy : Bool) (f : Pq → Bool) (H C : List Pq) : Bool := decide (C.Pairwise (AhP sx sy)) && C.all (fun p => decide (p ∈ H) && f p) && H.all (fun p => !f p || decide (p ∈ C))
theorem chain_by {sx sy : Bool} {f : Pq → Bool} {H C : List Pq} (h : chainB sx sy f H C = true) : ChainL sx sy f H C := by
  unfold chainB at h
  simp only [Bool.and_eq_true, decide_eq_true_eq, List.all_eq_true, Bool.or_eq_true, Bool.not_eq_true'] at h
  obtain ⟨⟨h1, h2⟩, h3⟩ := h
  refine ⟨h1, fun p => ⟨fun hp => h2 p hp, fun ⟨hp, hf⟩ => ?_⟩⟩
  rcases h3 p hp with e | e
  · rw [hf] at e; cases e
  · exact e
def edgeB (S0 S1 : List (Pq × Pq)) (E : List Eg) : Bool := decide (E.Pairwise LtE) && E.all (fun e => decide (LtP e.a e.b) && decide (e.m = cntZ S0 e.a e.b) && decide (e.n = cntZ S1 e.a e.b) && !(decide (e.m = 0) && decide (e.n = 0))) && (S0 ++ S1).all (fun s => E.any (fun e => (decide (e.a = s.1) && decide (e.b = s.2)) || (decide (e.a = s.2) && decide (e.b = s.1))))
theorem cnt_zero {S : List (Pq × Pq)} {a b : Pq} (h1 : (a, b) ∉ S) (h2 : (b, a) ∉ S) : cntZ S a b = 0 := by
  unfold cntZ
  rw [List.count_eq_zero.2 h1, List.count_eq_zero.2 h2]; rfl
theorem edge_by {S0 S1 : List (Pq × Pq)} {E : List Eg} (h : edgeB S0 S1 E = true) : EdgeL S0 S1 E := by
  unfold edgeB at h
  simp only [Bool.and_eq_true, decide_eq_true_eq, List.all_eq_true, Bool.or_eq_true, Bool.not_eq_true', List.any_eq_true, Bool.and_eq_false_iff, decide_eq_false_iff_not] at h
  obtain ⟨⟨h1, h2⟩, h3⟩ := h
  refine ⟨h1, fun e => ⟨fun he => ?_, fun ⟨k1, k2, k3, k4⟩ => ?_⟩⟩
  · obtain ⟨⟨⟨a, b⟩, c⟩, d⟩ := h2 e he
    exact ⟨a, b, c, fun ⟨z1, z2⟩ => d.elim (fun k => k z1) (fun k => k z2)⟩
  · have hs : ∃ s ∈ S0 ++ S1, (s = (e.a, e.b) ∨ s = (e.b, e.a)) := by
      refine Decidable.byContradiction fun hno => k4 ?_
      have hn : ∀ s ∈ S0 ++ S1, s ≠ (e.a, e.b) ∧ s ≠ (e.b, e.a) := fun s hs => ⟨fun h => hno ⟨s, hs, .inl h⟩, fun h => hno ⟨s, hs, .inr h⟩⟩
      exact ⟨k2.trans (cnt_zero (fun k => (hn _ (List.mem_append.2 (.inl k))).1 rfl) (fun k => (hn _ (List.mem_append.2 (.inl k))).2 rfl)), k3.trans (cnt_zero (fun k => (hn _ (List.mem_append.2 (.inr k))).1 rfl) (fun k => (hn _ (List.mem_append.2 (.inr k))).2 rfl))⟩
    obtain ⟨s, hs, hse⟩ := hs
    obtain ⟨f, hf, hfe⟩ := h3 s hs
    obtain ⟨⟨⟨f1, f2⟩, f3⟩, _⟩ := h2 f hf
    have hab : f.a = e.a ∧ f.b = e.b := by
      rcases hse with rfl | rfl <;> rcases hfe with ⟨u, v⟩ | ⟨u, v⟩
      · exact ⟨u, v⟩
      · simp only at u v; rw [u, v] at f1; exact absurd f1 (ltP_asy k1)
      · simp only at u v; rw [u, v] at f1; exact absurd f1 (ltP_asy k1)
      · exact ⟨u, v⟩
    have : f = e := by
      cases f; cases e
      simp only at *
      obtain ⟨rfl, rfl⟩ := hab
      rw [f2, f3, k2, k3]
    rw [← this]; exact hf
abbrev l3x : Ln := ⟨0, 0, 128, 0⟩
abbrev l4x : Ln := ⟨128, 0, 0, 0⟩
def H2 : List Pq := [⟨0, 0⟩, ⟨2, 0⟩]
theorem m33 : (meetCp l3x l3x).k = 2 := by kernel_rfl
theorem m34 : (meetCp l3x l4x).k = 2 := by kernel_rfl
theorem m43 : (meetCp l4x l3x).k = 2 := by kernel_rfl
theorem m44 : (meetCp l4x l4x).k = 2 := by kernel_rfl
theorem a3 : pxA l3x = (0, 0) := by kernel_rfl
theorem b3 : pxB l3x = (2, 0) := by kernel_rfl
theorem a4 : pxA l4x = (2, 0) := by kernel_rfl
theorem b4 : pxB l4x = (0, 0) := by kernel_rfl
theorem hot2 : HotL [l3x, l4x] H2 := by
  refine ⟨?_, fun p => ?_⟩
  · unfold H2 LtP
    simp
  · have hm : p ∈ H2 ↔ (p.x, p.y) = ((0, 0) : Int × Int) ∨ (p.x, p.y) = ((2, 0) : Int × Int) := by
      obtain ⟨x, y⟩ := p
      unfold H2
      simp
    rw [hm]
    constructor
    · rintro (h | h) <;> rw [h]
      · exact .inl ⟨l3x, by simp, .inl a3.symm⟩
      · exact .inl ⟨l3x, by simp, .inr b3.symm⟩
    · rintro (⟨l, hl, h⟩ | ⟨s, hs, t, ht, hk, h⟩)
      · simp only [List.mem_cons, List.not_mem_nil, or_false] at hl
        rcases hl with rfl | rfl
        · rw [a3, b3] at h; exact h
        · rw [a4, b4] at h; exact h.symm
      · simp only [List.mem_cons, List.not_mem_nil, or_false] at hs ht
        rcases hs with rfl | rfl <;> rcases ht with rfl | rfl
        · rw [m33] at hk; cases hk
        · rw [m34] at hk; cases hk
        · rw [m43] at hk; cases hk
        · rw [m44] at hk; cases hk
def E4 : List Eg := [⟨⟨0, 0⟩, ⟨1, 1⟩, 1, 0⟩, ⟨⟨0, 2⟩, ⟨1, 1⟩, 1, 0⟩, ⟨⟨1, 1⟩, ⟨2, 0⟩, 1, 0⟩, ⟨⟨1, 1⟩, ⟨2, 2⟩, 1, 0⟩]
def E1 : List Eg := [⟨⟨0, 0⟩, ⟨2, 0⟩, 1, -1⟩]
def ch4 (l : Ln) : List Pq := if l.ay = 0 then [⟨0, 0⟩, ⟨1, 1⟩, ⟨2, 2⟩] else [⟨0, 2⟩, ⟨1, 1⟩, ⟨2, 0⟩]
def ch1 (l : Ln) : List Pq := if l.ax = 0 then [⟨0, 0⟩, ⟨2, 0⟩] else [⟨2, 0⟩, ⟨0, 0⟩]
theorem edges4 : EdgesL two16 [] E4 := by
  refine ⟨H5, hot5, ch4, fun l hl => ?_, edge_by (by kernel_rfl)⟩
  have : l = l1x ∨ l = l2x := by simpa using hl
  rcases this with rfl | rfl
  · exact chain_by (by kernel_rfl)
  · exact chain_by (by kernel_rfl)
theorem edges1 : EdgesL [l3x] [l4x] E1 := by
  refine ⟨H2, hot2, ch1, fun l hl => ?_, edge_by (by kernel_rfl)⟩
  have : l = l3x ∨ l = l4x := by simpa using hl
  rcases this with rfl | rfl
  · exact chain_by (by kernel_rfl)
  · exact chain_by (by kernel_rfl)
theorem law17_line (a b c d : Int) (w : World) : Calls Tryz.prog 23 #[.int .i64 a, .int .i64 b, .int .i64 c, .int .i64 d] w fun e w' => e = .returned (.agg #[.int .i64 a, .int .i64 b, .int .i64 c, .int .i64 d]) ∧ Since w w' := by
  go_enter Tryz.func23, Tryz.ntmps23
  go_wp2
  refine bodyPost_ret (by simp only [results, Tryz.results23]; go_simp) rfl ⟨rfl, ?_⟩
  (repeat (first | with_reducible (exact Since.refl _) | with_reducible assumption | with_reducible (refine Since.drew ?_) | with_reducible (refine Since.drewN ?_ _) | with_reducible (refine Since.alloc ?_ _) | (with_reducible (refine Since.setCell ?_ ?_ _); rotate_left; focus (first | (simp; done) | (simp; omega) | omega)) | (with_reducible (refine Since.trans ?_ (by with_reducible assumption)))))
/-- Lines of a small operand: the three cases come to the third. -/
theorem edges_known {A B : List Ln} {F : List Eg} (hF : EdgesL A B F) (hn : A.length + B.length ≤ 4096) (hg : ∀ l ∈ A ++ B, lnG l = true) {w w' : World} {e : Ending} (h : EdgesOut A B w e w') : ∃ D c, e = .returned (.tuple #[.slice D F.length c, .int .i64 0]) ∧ RdG 6 egL w' w'.heap.size D F ∧ Since w w' := by
  obtain ⟨hS, (⟨k, _⟩ | ⟨_, ⟨l, hl, k⟩, _⟩ | ⟨_, _, v, E, rfl, hO, hE⟩)⟩ := h
  · omega
  · rw [hg l hl] at k; cases k
  · rw [edges_same hE hF] at hO
    obtain ⟨D, c, rfl, hc, hr⟩ := OwnG.rd (by omega) egL_len hO
    exact ⟨D, c, rfl, hr, hS⟩
theorem lit1 {w : World} {b : Nat} (hb : b = w.heap.size) (t : TypeId) (x y u v : Int) : RdG 4 lnE (w.alloc (.cells #[.int .i64 x, .int .i64 y, .int .i64 u, .int .i64 v] t)) (w.alloc (.cells #[.int .i64 x, .int .i64 y, .int .i64 u, .int .i64 v] t)).heap.size (some ⟨b, 0, none⟩) [⟨x, y, u, v⟩] :=
  rdG_one hb _ (fun i hi => by
    have hi' : i = 0 ∨ i = 1 ∨ i = 2 ∨ i = 3 := by omega
    rcases hi' with rfl | rfl | rfl | rfl <;> rfl)
theorem al17_e4 (w : World) (b : Nat) (hb : b = w.heap.size) (t : TypeId) : Calls Tryz.prog 15 #[.slice (some ⟨b, 0, none⟩) 2 2, .slice none 0 0] (w.alloc (.cells #[.int .i64 0, .int .i64 0, .int .i64 128, .int .i64 128, .int .i64 0, .int .i64 128, .int .i64 128, .int .i64 0] t)) fun e w' => ∃ D c, e = .returned (.tuple #[.slice D 4 c, .int .i64 0]) ∧ RdG 6 egL w' w'.heap.size D E4 ∧ Since w w' := by
  have hr : RdG 4 lnE (w.alloc (.cells #[.int .i64 0, .int .i64 0, .int .i64 128, .int .i64 128, .int .i64 0, .int .i64 128, .int .i64 128, .int .i64 0] t)) (w.alloc (.cells #[.int .i64 0, .int .i64 0, .int .i64 128, .int .i64 128, .int .i64 0, .int .i64 128, .int .i64 128, .int .i64 0] t)).heap.size (some ⟨b, 0, none⟩) two16 := rdG_lit hb two16 (fun j s hj i hi => by
    have hi' : i = 0 ∨ i = 1 ∨ i = 2 ∨ i = 3 := by omega
    match j, hj with
    | 0, hj => simp only [List.getElem?_cons_zero, Option.some.injEq] at hj; subst hj; rcases hi' with rfl | rfl | rfl | rfl <;> rfl
    | 1, hj => simp only [List.getElem?_cons_zero, List.getElem?_cons_succ, Option.some.injEq] at hj; subst hj; rcases hi' with rfl | rfl | rfl | rfl <;> rfl
    | j + 2, hj => simp at hj)
  have hg : ∀ l ∈ two16 ++ [], lnG l = true := fun l hl => by
    have : l = l1x ∨ l = l2x := by simpa using hl
    rcases this with rfl | rfl <;> decide
  refine (sn_edges_ok (some ⟨b, 0, none⟩) none 2 0 2 0 two16 [] _ rfl rfl hr RdG.nil (fun l hl => by
    have : l = l1x ∨ l = l2x := by simpa using hl
    rcases this with rfl | rfl <;> exact wf_tiny16 _ _ _ _ (by decide)) (by omega) hg).mono ?_
  intro e w' h
  obtain ⟨D, c, rfl, h2, hS⟩ := edges_known edges4 (by simp) hg h
  exact ⟨D, c, rfl, h2, ((Since.refl w).alloc _).trans hS⟩
theorem al17_line4 (w : World) (b : Nat) (hb : b = w.heap.size) (t : TypeId) : Calls Tryz.prog 23 #[.int .i64 128, .int .i64 0, .int .i64 0, .int .i64 0] (w.alloc (.cells #[.int .i64 0, .int .i64 0, .int .i64 128, .int .i64 0] t)) fun e w' => e = .returned (.agg #[.int .i64 128, .int .i64 0, .int .i64 0, .int .i64 0]) ∧ RdG 4 lnE w' w'.heap.size (some ⟨b, 0, none⟩) [l3x] ∧ Since w w' := by
  refine (law17_line 128 0 0 0 _).mono ?_
  rintro e w' ⟨rfl, hS⟩
  exact ⟨rfl, (lit1 hb t 0 0 128 0).on hS, ((Since.refl w).alloc _).trans hS⟩
theorem al17_e1 (A : Option Addr) (w : World) (hA : RdG 4 lnE w w.heap.size A [l3x]) (b : Nat) (hb : b = w.heap.size) (t : TypeId) : Calls Tryz.prog 15 #[.slice A 1 1, .slice (some ⟨b, 0, none⟩) 1 1] (w.alloc (.cells #[.int .i64 128, .int .i64 0, .int .i64 0, .int .i64 0] t)) fun e w' => ∃ D c, e = .returned (.tuple #[.slice D 1 c, .int .i64 0]) ∧ RdG 6 egL w' w'.heap.size D E1 ∧ Since w w' := by
  have hg : ∀ l ∈ [l3x] ++ [l4x], lnG l = true := fun l hl => by
    have : l = l3x ∨ l = l4x := by simpa using hl
    rcases this with rfl | rfl <;> decide
  refine (sn_edges_ok A (some ⟨b, 0, none⟩) 1 1 1 1 [l3x] [l4x] _ rfl rfl (hA.on ((Since.refl w).alloc _)) (lit1 hb t 128 0 0 0) (fun l hl => by
    have : l = l3x ∨ l = l4x := by simpa using hl
    rcases this with rfl | rfl <;> exact wf_tiny16 _ _ _ _ (by decide)) (by omega) hg).mono ?_
  intro e w' h
  obtain ⟨D, c, rfl, h2, hS⟩ := edges_known edges1 (by simp) hg h
  exact ⟨D, c, rfl, h2, ((Since.refl w).alloc _).trans hS⟩
end Go.Proofs.YtcfghkphkmoikaaGreat

/-
  Layer 17: 'alive'.
-/
namespace Go.Proofs.YtcfghkphkmoikaaGreat
set_option maxRecDepth 100000
open Go.RowKit
set_option linter.unusedVariables false
set_option linter.unusedSimpArgs false
theorem eq_pt9 (w : World) (x y u v : Int) : (Op.equalIn 9999 23 (.agg #[.int .i64 x, .int .i64 y]) (.agg #[.int .i64 u, .int .i64 v])).run Tryz.prog w = .ok (x == u && y == v) w := by
  rw [run_equalIn_struct w 9998 23 _ _ (by kernel_rfl) (by kernel_rfl)]
  have heq : ∀ (d : Nat) (a b : Int) (w : World), (Op.equalIn (d + 1) 3 (.int .i64 a) (.int .i64 b)).run Tryz.prog w = .ok (a == b) w := fun d a b w => run_equalIn_int w d _ _ _ a b Tryz.underlying3
  have hc : Tryz.prog.cellsOf 3 = 1 := by kernel_rfl
  simp only [Program.fieldsOf, Tryz.underlying23]
  by_cases h0 : x = u
  · by_cases h1 : y = v
    · simp [go_sem, h0, h1]
    · simp [go_sem, h0, h1]
  · simp [go_sem, h0]
theorem eq_ar9 (w : World) (x y u v : Int) : (Op.equalIn 9999 45 (.agg #[.int .i64 x, .int .i64 y]) (.agg #[.int .i64 u, .int .i64 v])).run Tryz.prog w = .ok (x == u && y == v) w := by
  obtain ⟨i, hi⟩ : ∃ i, Tryz.prog.info? 3 = some i := Option.isSome_iff_exists.1 (by kernel_rfl)
  rw [run_equalIn_array w 9998 (e := 3) (n := 2) (i := i) _ _ Tryz.underlying45 hi]
  have hc : Tryz.prog.cellsOf 3 = 1 := by kernel_rfl
  rw [hc]
  have hl : List.range 2 = [0, 1] := rfl
  rw [hl]
  have heq : ∀ (d : Nat) (a b : Int), (Op.equalIn (d + 1) 3 (.int .i64 a) (.int .i64 b)).run Tryz.prog w = .ok (a == b) w := fun d a b => run_equalIn_int w d _ _ _ a b Tryz.underlying3
  simp only [Op.eqItems]
  by_cases h0 : x = u
  · by_cases h1 : y = v
    · simp [go_sem, h0, h1]
    · simp [go_sem, h0, h1]
  · simp [go_sem, h0]
theorem eq_eg (w : World) (x y z s m n u v a b c d : Int) : (Op.equalIn 10000 47 (.agg #[.int .i64 x, .int .i64 y, .int .i64 z, .int .i64 s, .int .i64 m, .int .i64 n]) (.agg #[.int .i64 u, .int .i64 v, .int .i64 a, .int .i64 b, .int .i64 c, .int .i64 d])).run Tryz.prog w = .ok ((x == u && y == v) && ((z == a && s == b) && (m == c && n == d))) w := by
  rw [run_equalIn_struct w 9999 47 _ _ (by kernel_rfl) (by kernel_rfl)]
  have hc : Tryz.prog.cellsOf 23 = 2 := by kernel_rfl
  have hc2 : Tryz.prog.cellsOf 45 = 2 := by kernel_rfl
  simp only [Program.fieldsOf, Tryz.underlying47]
  have e1 := eq_pt9 w x y u v
  have e2 := eq_pt9 w z s a b
  have e3 := eq_ar9 w m n c d
  have hgo : ∀ a b c d e f : Value, (#[a, b, c, d, e, f] : Array Value).extract 0 2 = #[a, b] ∧ (#[a, b, c, d, e, f] : Array Value).extract 2 4 = #[c, d] ∧ (#[a, b, c, d, e, f] : Array Value).extract 4 6 = #[e, f] := fun _ _ _ _ _ _ => ⟨rfl, rfl, rfl⟩
  by_cases h0 : x = u
  · by_cases h1 : y = v
    · by_cases h2 : z = a
      · by_cases h3 : s = b
        · by_cases h4 : m = c
          · by_cases h5 : n = d
            · simp [go_sem, hc, hc2, hgo, eq_ar9, h0, h1, h2, h3, h4, h5]
            · simp [go_sem, hc, hc2, hgo, eq_ar9, h0, h1, h2, h3, h4, h5]
          · simp [go_sem, hc, hc2, hgo, eq_ar9, h0, h1, h2, h3, h4]
        · simp [go_sem, hc, hc2, hgo, h0, h1, h2, h3]
      · simp [go_sem, hc, hc2, hgo, h0, h1, h2]
    · simp [go_sem, hc, hc2, hgo, h0, h1]
  · simp [go_sem, hc, hc2, hgo, h0]
set_option maxRecDepth 100000 in
set_option maxHeartbeats 8000000 in
theorem alive17 (w : World) : Calls Tryz.prog 9 #[] w fun e w' => e = .returned (.bool true) ∧ Since w w' := by
  have heq := eq_eg
  have tok1 := True.intro
  have tok2 := True.intro
  have hT : Since w w := Since.refl w
  go_enter Tryz.func9, Tryz.ntmps9
  go_wp2_with (first | (go_at_call 23; (with_reducible refine (al17_line4 _ _ rfl _).mono ?_); rintro e wk ⟨rfl, hA, hSk⟩; have hT := hT.trans hSk; have hR := hR.on hSk; clear hSk) | (go_at_call 23; (with_reducible refine (law17_line _ _ _ _ _).mono ?_); rintro e wk ⟨rfl, hSk⟩; have hT := hT.trans hSk; (try (have hR := hR.on hSk)); clear hSk) | (go_at_call 15; (with_reducible refine (al17_e4 _ _ rfl _).mono ?_); rintro e wm ⟨A6, c6, rfl, hR, hSk⟩; have hT := hT.trans hSk; clear hSk) | (go_at_call 15; (with_reducible refine (al17_e1 _ _ hA _ rfl _).mono ?_); rintro e wn ⟨A7, c7, rfl, hQ, hSk⟩; have hT := hT.trans hSk; have hR := hR.on hSk; obtain ⟨b6, o6, rfl, hb6, hc6⟩ := hR (by decide); obtain ⟨b7, o7, rfl, hb7, hc7⟩ := hQ (by decide); have f0 := hc6 0 _ rfl 0 (by omega); have f1 := hc6 0 _ rfl 1 (by omega); have f2 := hc6 0 _ rfl 2 (by omega); have f3 := hc6 0 _ rfl 3 (by omega); have f4 := hc6 0 _ rfl 4 (by omega); have f5 := hc6 0 _ rfl 5 (by omega); have g0 := hc6 3 _ rfl 0 (by omega); have g1 := hc6 3 _ rfl 1 (by omega); have g2 := hc6 3 _ rfl 2 (by omega); have g3 := hc6 3 _ rfl 3 (by omega); have g4 := hc6 3 _ rfl 4 (by omega); have g5 := hc6 3 _ rfl 5 (by omega); have h0 := hc7 0 _ rfl 0 (by omega); have h1 := hc7 0 _ rfl 1 (by omega); have h2 := hc7 0 _ rfl 2 (by omega); have h3 := hc7 0 _ rfl 3 (by omega); have h4 := hc7 0 _ rfl 4 (by omega); have h5 := hc7 0 _ rfl 5 (by omega); simp only [egL, List.getD_cons_succ, List.getD_cons_zero, Nat.add_zero, Nat.zero_mul, Nat.reduceMul] at f0 f1 f2 f3 f4 f5 g0 g1 g2 g3 g4 g5 h0 h1 h2 h3 h4 h5; clear hc6 hc7 hR hQ hSk hA))
  go_ret
  exact ⟨by first | rfl | simp, hT⟩
end Go.Proofs.YtcfghkphkmoikaaGreat
