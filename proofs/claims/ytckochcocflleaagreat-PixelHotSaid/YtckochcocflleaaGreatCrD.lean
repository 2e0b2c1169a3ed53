/-
  Layer 15: 'crossing', walked.
-/
import Derived.Test.YtckochcocflleaaGreatMgM
import Derived.Test.YtckochcocflleaaGreatWideC
import Derived.Test.YtckochcocflleaaGreatKitB
import Derived.Deep.DeepCutAuto
namespace Go.Proofs.YtckochcocflleaaGreat
open Go.RowKit
set_option linter.unusedVariables false

/-- A block's one cell. -/
def OneAt (w : World) (b : Nat) (v : Value) : Prop := w.cell? ⟨b, 0, none⟩ = some v ∧ b < w.heap.size
theorem OneAt.since {w w' : World} {b : Nat} {v : Value} (h : OneAt w b v) (k : Since w w') : OneAt w' b v := ⟨(k.1 _ _ h.2).trans h.1, k.2.2.1 _ h.2⟩
theorem OneAt.alloc {w : World} {b : Nat} {v : Value} (h : OneAt w b v) (o : Obj) : OneAt (w.alloc o) b v := h.since ((Since.refl w).alloc o)
theorem one_new (w : World) (b : Nat) (hb : b = w.heap.size) (v : Value) (t : TypeId) : OneAt (w.alloc (.cells #[v] t)) b v := by
  subst hb
  refine ⟨?_, by simp⟩
  rw [World.cell?_alloc_new]; rfl

set_option maxHeartbeats 8000000 in
theorem cr_along (f s c n : Int) (bc bn : Nat) (w : World) (hc : OneAt w bc (.int .i64 c)) (hn : OneAt w bn (.int .i64 n)) (i1 : InW f) (i2 : InW s) (i3 : InW c) (i4 : InW n) (i5 : In128 (f * c + s * n)) :
    Calls Tryz.prog 55 #[.int .i64 f, .int .i64 s, .pointer (some ⟨bc, 0, none⟩), .pointer (some ⟨bn, 0, none⟩)] w fun e w' => e = .returned (W (f * c + s * n)) ∧ Since w w' := by
  obtain ⟨c1, c2⟩ := hc
  obtain ⟨n1, n2⟩ := hn
  have hm1 := fun w => wide_mul f c i1 i3 w
  have hm2 := fun w => wide_mul s n i2 i4 w
  have ha := fun w => wide_add (f * c) (s * n) (mul_in i1 i3) (mul_in i2 i4) w
  rw [w128_of i5] at ha
  have H1 := Lib.hid hm1
  have H2 := Lib.hid hm2
  have HA := Lib.hid ha
  clear hm1 hm2 ha i1 i2 i3 i4 i5
  generalize f * c + s * n = R at *
  go_enter Tryz.func55, Tryz.ntmps55
  go_wp2
  (refine wp_named fun wr1 hwr1 => ?_; go_region_held3 (fun w' => (∀ b o, b < (w.heap.size) → w'.cell? ⟨b, o, none⟩ = wr1.cell? ⟨b, o, none⟩) ∧ (∀ b o, b < wr1.heap.size → w'.frozen? ⟨b, o, none⟩ = wr1.frozen? ⟨b, o, none⟩) ∧ (∀ k, k < wr1.heap.size → k < w'.heap.size) ∧ Below ((w.heap.size)) wr1 w' ∧ (∀ o, o < 2 → w'.cell? ⟨(w.heap.size), o, none⟩ = some (cellD w' ((w.heap.size)) o))) ((subst hwr1; (repeat with_reducible (refine sr_set ?_ _ _)); first | assumption | (refine sr_step (by first | assumption | omega | (simp; done) | (simp; omega)) (by assumption) ?_; first | assumption | (repeat (first | with_reducible (exact Since.refl _) | with_reducible assumption | with_reducible (refine Since.drew ?_) | with_reducible (refine Since.drewN ?_ _) | with_reducible (refine Since.alloc ?_ _) | (with_reducible (refine Since.setCell ?_ ?_ _); rotate_left; focus (first | (simp; done) | (simp; omega) | omega))))) | (refine sr_step (by first | assumption | omega | (simp; done) | (simp; omega)) (sr_start (fun o ho => by (have ho' : o = 0 ∨ o = 1 := by omega); rcases ho' with rfl | rfl <;> (first | (simp [go_sem]; done) | simp_all))) ?_; first | assumption | (repeat (first | with_reducible (exact Since.refl _) | with_reducible assumption | with_reducible (refine Since.drew ?_) | with_reducible (refine Since.drewN ?_ _) | with_reducible (refine Since.alloc ?_ _) | (with_reducible (refine Since.setCell ?_ ?_ _); rotate_left; focus (first | (simp; done) | (simp; omega) | omega))))))) (first | (go_at_call 57; (with_reducible refine (H1.out _).mono ?_); rintro e w1 ⟨rfl, hS⟩; have hZ := hS.below.size; (try simp at hZ)) | (go_at_call 57; (with_reducible refine (H2.out _).mono ?_); rintro e w1 ⟨rfl, hS⟩; have hZ := hS.below.size; (try simp at hZ)) | (go_at_call 56; (with_reducible refine (HA.out _).mono ?_); rintro e w1 ⟨rfl, hS⟩; have hZ := hS.below.size; (try simp at hZ))); all_goals (rename_i hHeld; obtain ⟨hcR1, hfR1, hzR1, hbR1, hoR1⟩ := hHeld; have hiR := fun o ho => there_of (hoR1 o ho); (try simp only [there_set] at hiR); clear hoR1; subst hwr1; have hR1 : Since w _ := sr_out hbR1 (by (repeat (first | with_reducible (exact Since.refl _) | with_reducible assumption | with_reducible (refine Since.drew ?_) | with_reducible (refine Since.drewN ?_ _) | with_reducible (refine Since.alloc ?_ _) | (with_reducible (refine Since.setCell ?_ ?_ _); rotate_left; focus (first | (simp; done) | (simp; omega) | omega)) | (with_reducible (refine Since.trans ?_ (by with_reducible assumption)))))) (by first | (simp; done) | (simp; omega) | omega)))
  all_goals go_wp2
  all_goals refine bodyPost_ret (by simp only [results, Tryz.results55]; go_simp) rfl ⟨rfl, ?_⟩
  all_goals (repeat (first | with_reducible (exact Since.refl _) | with_reducible assumption | with_reducible (refine Since.drew ?_) | with_reducible (refine Since.drewN ?_ _) | with_reducible (refine Since.alloc ?_ _) | (with_reducible (refine Since.setCell ?_ ?_ _); rotate_left; focus (first | (simp; done) | (simp; omega) | omega)) | (with_reducible (refine Since.trans ?_ (by with_reducible assumption)))))
def Lf (l : Ln) (j : Nat) : Value := if j = 0 then .int .i64 l.ax else if j = 1 then .int .i64 l.ay else if j = 2 then .int .i64 l.bx else .int .i64 l.bz
theorem lrow (w : World) (b : Nat) (hb : b = w.heap.size) (t : TypeId) (l : Ln) : Row (w.alloc (.cells #[.int .i64 l.ax, .int .i64 l.ay, .int .i64 l.bx, .int .i64 l.bz] t)) b 4 (Lf l) := by
  subst hb
  refine Row.of_cells fun j hj => ?_
  have h : j = 0 ∨ j = 1 ∨ j = 2 ∨ j = 3 := by omega
  rcases h with rfl | rfl | rfl | rfl <;> rfl
theorem lcells {w : World} {b : Nat} {l : Ln} (h : Row w b 4 (Lf l)) : w.cell? ⟨b, 0, none⟩ = some (.int .i64 l.ax) ∧ w.cell? ⟨b, 1, none⟩ = some (.int .i64 l.ay) ∧ w.cell? ⟨b, 2, none⟩ = some (.int .i64 l.bx) ∧ w.cell? ⟨b, 3, none⟩ = some (.int .i64 l.bz) ∧ b < w.heap.size := ⟨h.1 0 (by omega), h.1 1 (by omega), h.1 2 (by omega), h.1 3 (by omega), h.2.2⟩
def Cf (p : Cp) (j : Nat) : Value := if j = 0 then .int .i64 p.k else if j = 1 then .int .i64 (hiW p.x) else if j = 2 then .int .u64 (loW p.x) else if j = 3 then .int .i64 (hiW p.y) else if j = 4 then .int .u64 (loW p.y) else .int .i64 p.d
theorem crow (w : World) (b : Nat) (hb : b = w.heap.size) (t : TypeId) (p : Cp) : Row (w.alloc (.cells #[.int .i64 p.k, .int .i64 (hiW p.x), .int .u64 (loW p.x), .int .i64 (hiW p.y), .int .u64 (loW p.y), .int .i64 p.d] t)) b 6 (Cf p) := by
  subst hb
  refine Row.of_cells fun j hj => ?_
  have h : j = 0 ∨ j = 1 ∨ j = 2 ∨ j = 3 ∨ j = 4 ∨ j = 5 := by omega
  rcases h with rfl | rfl | rfl | rfl | rfl | rfl <;> rfl
theorem crow0 (w : World) (b : Nat) (hb : b = w.heap.size) (t : TypeId) : Row (w.alloc (.cells #[.int .i64 0, .int .i64 0, .int .u64 0, .int .i64 0, .int .u64 0, .int .i64 0] t)) b 6 (Cf cpNone) := crow w b hb t cpNone
theorem ccells {w : World} {b : Nat} {p : Cp} (h : Row w b 6 (Cf p)) : w.cell? ⟨b, 0, none⟩ = some (.int .i64 p.k) ∧ w.cell? ⟨b, 1, none⟩ = some (.int .i64 (hiW p.x)) ∧ w.cell? ⟨b, 2, none⟩ = some (.int .u64 (loW p.x)) ∧ w.cell? ⟨b, 3, none⟩ = some (.int .i64 (hiW p.y)) ∧ w.cell? ⟨b, 4, none⟩ = some (.int .u64 (loW p.y)) ∧ w.cell? ⟨b, 5, none⟩ = some (.int .i64 p.d) ∧ b < w.heap.size := ⟨h.1 0 (by omega), h.1 1 (by omega), h.1 2 (by omega), h.1 3 (by omega), h.1 4 (by omega), h.1 5 (by omega), h.2.2⟩

theorem cput {w : World} {b : Nat} {p0 : Cp} (h : Row w b 6 (Cf p0)) (p : Cp) : Row ((((((w.setCell ⟨b, 0, none⟩ (.int .i64 p.k)).setCell ⟨b, 1, none⟩ (.int .i64 (hiW p.x))).setCell ⟨b, 2, none⟩ (.int .u64 (loW p.x))).setCell ⟨b, 3, none⟩ (.int .i64 (hiW p.y))).setCell ⟨b, 4, none⟩ (.int .u64 (loW p.y))).setCell ⟨b, 5, none⟩ (.int .i64 p.d)) b 6 (Cf p) := by
  refine ((((((h.set 0 _).set 1 _).set 2 _).set 3 _).set 4 _).set 5 _).congr fun j hj => ?_
  have hh : j = 0 ∨ j = 1 ∨ j = 2 ∨ j = 3 ∨ j = 4 ∨ j = 5 := by omega
  rcases hh with rfl | rfl | rfl | rfl | rfl | rfl <;> rfl
theorem cp_range {w : World} {b : Nat} {p : Cp} (h : Row w b 6 (Cf p)) : w.rangeAt b 0 [.int .i64 p.k, .int .i64 (hiW p.x), .int .u64 (loW p.x), .int .i64 (hiW p.y), .int .u64 (loW p.y), .int .i64 p.d] := row_range h _ fun j v hv => by
  have hlt := (List.getElem?_eq_some_iff.1 hv).1
  simp only [List.length_cons, List.length_nil] at hlt
  have hh : j = 0 ∨ j = 1 ∨ j = 2 ∨ j = 3 ∨ j = 4 ∨ j = 5 := by omega
  rcases hh with rfl | rfl | rfl | rfl | rfl | rfl <;> (simp only [List.getElem?_cons_zero, List.getElem?_cons_succ, Option.some.injEq] at hv; subst hv; exact ⟨by omega, rfl⟩)
theorem cp_stored {w : World} {b : Nat} (h : ∀ o, o < 6 → (w.cell? ⟨b, o, none⟩).isSome = true) (p : Cp) : ((((((w.setCell ⟨b, 0, none⟩ (.int .i64 p.k)).setCell ⟨b, 1, none⟩ (.int .i64 (hiW p.x))).setCell ⟨b, 2, none⟩ (.int .u64 (loW p.x))).setCell ⟨b, 3, none⟩ (.int .i64 (hiW p.y))).setCell ⟨b, 4, none⟩ (.int .u64 (loW p.y))).setCell ⟨b, 5, none⟩ (.int .i64 p.d)).rangeAt b 0 [.int .i64 p.k, .int .i64 (hiW p.x), .int .u64 (loW p.x), .int .i64 (hiW p.y), .int .u64 (loW p.y), .int .i64 p.d] := fun j v hv => by
  have hlt := (List.getElem?_eq_some_iff.1 hv).1
  simp only [List.length_cons, List.length_nil] at hlt
  have hh : j = 0 ∨ j = 1 ∨ j = 2 ∨ j = 3 ∨ j = 4 ∨ j = 5 := by omega
  have h0 := h 0 (by omega); have h1 := h 1 (by omega); have h2 := h 2 (by omega); have h3 := h 3 (by omega); have h4 := h 4 (by omega); have h5 := h 5 (by omega)
  rcases hh with rfl | rfl | rfl | rfl | rfl | rfl <;> (simp only [List.getElem?_cons_zero, List.getElem?_cons_succ, Option.some.injEq] at hv; subst hv; simp [cell_set, map_there, h0, h1, h2, h3, h4, h5])
theorem in01_cases (N M C : Int) : (decide (N < 0) = true ∧ in01 N M C = false) ∨ (decide (N < 0) = false ∧ decide (C < N) = true ∧ in01 N M C = false) ∨ (decide (N < 0) = false ∧ decide (C < N) = false ∧ decide (M < 0) = true ∧ in01 N M C = false) ∨ (decide (N < 0) = false ∧ decide (C < N) = false ∧ decide (M < 0) = false ∧ decide (C < M) = true ∧ in01 N M C = false) ∨ (decide (N < 0) = false ∧ decide (C < N) = false ∧ decide (M < 0) = false ∧ decide (C < M) = false ∧ in01 N M C = true) := by
  have hno : ∀ {P : Prop}, (in01 N M C = true → False) → in01 N M C = false := fun h => by cases hh : in01 N M C; rfl; exact absurd hh h
  by_cases h1 : N < 0
  · exact .inl ⟨decide_eq_true h1, hno (P := True) fun h => by have := in01_iff.1 h; omega⟩
  by_cases h2 : C < N
  · exact .inr (.inl ⟨decide_eq_false h1, decide_eq_true h2, hno (P := True) fun h => by have := in01_iff.1 h; omega⟩)
  by_cases h3 : M < 0
  · exact .inr (.inr (.inl ⟨decide_eq_false h1, decide_eq_false h2, decide_eq_true h3, hno (P := True) fun h => by have := in01_iff.1 h; omega⟩))
  by_cases h4 : C < M
  · exact .inr (.inr (.inr (.inl ⟨decide_eq_false h1, decide_eq_false h2, decide_eq_false h3, decide_eq_true h4, hno (P := True) fun h => by have := in01_iff.1 h; omega⟩)))
  · exact .inr (.inr (.inr (.inr ⟨decide_eq_false h1, decide_eq_false h2, decide_eq_false h3, decide_eq_false h4, in01_iff.2 (by omega)⟩)))

theorem along_in (a b n c : Int) (ha : -4194304 ≤ a ∧ a ≤ 4194304) (hb : -4194304 ≤ b ∧ b ≤ 4194304) (hc0 : 0 < c) (hc : c ≤ 562949953421312) (h0 : 0 ≤ n) (h1 : n ≤ c) : In128 (a * c + (b - a) * n) := by
  obtain ⟨k1, k2⟩ := conv_in a b n c h0 h1
  have b1 : -4194304 * c ≤ lo2 a b * c := Int.mul_le_mul_of_nonneg_right (by unfold lo2; split <;> omega) (by omega)
  have b2 : hi2 a b * c ≤ 4194304 * c := Int.mul_le_mul_of_nonneg_right (by unfold hi2; split <;> omega) (by omega)
  unfold In128
  omega
theorem along_hid (f s c n : Int) (bc bn : Nat) (i1 : InW f) (i2 : InW s) (i3 : InW c) (i4 : InW n) (i5 : In128 (f * c + s * n)) : ∀ w, OneAt w bc (.int .i64 c) → OneAt w bn (.int .i64 n) →
    Calls Tryz.prog 55 #[.int .i64 f, .int .i64 s, .pointer (some ⟨bc, 0, none⟩), .pointer (some ⟨bn, 0, none⟩)] w fun e w' => e = .returned (W (f * c + s * n)) ∧ Since w w' :=
  fun w h1 h2 => cr_along f s c n bc bn w h1 h2 i1 i2 i3 i4 i5

set_option maxRecDepth 100000 in
set_option maxHeartbeats 8000000 in
theorem cr_crossing_x (s t : Ln) (hs : lnG s = true) (ht : lnG t = true) (hc : cC s t ≠ 0) (w : World) :
    Calls Tryz.prog 35 #[s.v, t.v, .int .i64 (cC s t)] w fun e w' => e = .returned (crossCp s t).v ∧ Since w w' := by
  have k1 := goodB_iff.1 (Bool.and_eq_true_iff.1 hs).1
  have k2 := goodB_iff.1 (Bool.and_eq_true_iff.1 hs).2
  have k3 := goodB_iff.1 (Bool.and_eq_true_iff.1 ht).1
  have k4 := goodB_iff.1 (Bool.and_eq_true_iff.1 ht).2
  have hv1 := fun w => cr_vector s.ax s.ay s.bx s.bz (IntWalk.i64_in _ (by omega)) (IntWalk.i64_in _ (by omega)) w
  have hv2 := fun w => cr_vector s.ax s.ay t.ax t.ay (IntWalk.i64_in _ (by omega)) (IntWalk.i64_in _ (by omega)) w
  have hv3 := fun w => cr_vector t.ax t.ay t.bx t.bz (IntWalk.i64_in _ (by omega)) (IntWalk.i64_in _ (by omega)) w
  have hN1 := fun w b hb ty => lrow w b hb ty s
  have hN2 := fun w b hb ty => lrow w b hb ty t
  have n1 : Near (s.bx - s.ax) := by unfold Near; omega
  have n2 : Near (s.bz - s.ay) := by unfold Near; omega
  have n3 : Near (t.ax - s.ax) := by unfold Near; omega
  have n4 : Near (t.ay - s.ay) := by unfold Near; omega
  have n5 : Near (t.bx - t.ax) := by unfold Near; omega
  have n6 : Near (t.bz - t.ay) := by unfold Near; omega
  have m1 := near_mul n3 n6; have m2 := near_mul n4 n5; have m3 := near_mul n3 n2; have m4 := near_mul n4 n1; have m5 := near_mul n1 n6; have m6 := near_mul n2 n5
  have hp1 := fun w => cr_product (t.ax - s.ax) (t.ay - s.ay) (t.bx - t.ax) (t.bz - t.ay) (IntWalk.i64_in _ (by omega)) (IntWalk.i64_in _ (by omega)) (IntWalk.i64_in _ (by omega)) w
  have hp2 := fun w => cr_product (t.ax - s.ax) (t.ay - s.ay) (s.bx - s.ax) (s.bz - s.ay) (IntWalk.i64_in _ (by omega)) (IntWalk.i64_in _ (by omega)) (IntWalk.i64_in _ (by omega)) w
  have hnB : -562949953421312 ≤ nC s t ∧ nC s t ≤ 562949953421312 := by unfold nC crossI; omega
  have hmB : -562949953421312 ≤ mC s t ∧ mC s t ≤ 562949953421312 := by unfold mC crossI; omega
  have hcB : -562949953421312 ≤ cC s t ∧ cC s t ≤ 562949953421312 := by unfold cC crossI; omega
  have en : crossI (t.ax - s.ax) (t.ay - s.ay) (t.bx - t.ax) (t.bz - t.ay) = nC s t := rfl
  have em : crossI (t.ax - s.ax) (t.ay - s.ay) (s.bx - s.ax) (s.bz - s.ay) = mC s t := rfl
  rw [en] at hp1
  rw [em] at hp2
  clear m1 m2 m3 m4 m5 m6 n1 n2 n3 n4 n5 n6 en em
  unfold crossCp
  generalize cC s t = c at *
  generalize nC s t = n at *
  generalize mC s t = m at *
  generalize hres : (if c < 0 then crossPos s (-n) (-m) (-c) else crossPos s n m c) = RES
  have HRES := Lib.hid hres
  clear hres
  obtain ⟨ax, ay, bx, bz⟩ := s
  obtain ⟨cx, cy, dx, dz⟩ := t
  simp only at hv1 hv2 hv3 hN1 hN2 hp1 hp2
  have HN1 := Lib.hid hN1
  have HN2 := Lib.hid hN2
  unfold Ln.v Pt at *
  have H1 := Lib.hid hv1
  have H2 := Lib.hid hv2
  have H3 := Lib.hid hv3
  have HP1 := Lib.hid hp1
  have HP2 := Lib.hid hp2
  clear hv1 hv2 hv3 hN1 hN2 hp1 hp2
  go_enter Tryz.func35, Tryz.ntmps35
  go_wp2
  refine wp_named fun w0 hw0 => ?_
  have rA : Row w0 w.heap.size 4 (Lf ⟨ax, ay, bx, bz⟩) := by subst hw0; exact (((HN1.out w _ rfl _).alloc _).alloc _).alloc _
  have rB : Row w0 (w.heap.size + 1) 4 (Lf ⟨cx, cy, dx, dz⟩) := by subst hw0; exact ((HN2.out _ _ (by simp) _).alloc _).alloc _
  have rC : Row w0 (w.heap.size + 1 + 1) 1 (Of (.int .i64 c)) := by subst hw0; exact (orow _ _ (by simp) _ _).alloc _
  have rR : Row w0 (w.heap.size + 1 + 1 + 1) 6 (Cf cpNone) := by subst hw0; exact crow0 _ _ (by simp) _
  have hS : Since w w0 := by subst hw0; (repeat (first | with_reducible (exact Since.refl _) | with_reducible assumption | with_reducible (refine Since.drew ?_) | with_reducible (refine Since.drewN ?_ _) | with_reducible (refine Since.alloc ?_ _) | (with_reducible (refine Since.setCell ?_ ?_ _); rotate_left; focus (first | (simp; done) | (simp; omega) | omega)) | (with_reducible (refine Since.trans ?_ (by with_reducible assumption)))))
  have hz0 : w.heap.size + 4 ≤ w0.heap.size := by subst hw0; simp
  clear hw0
  obtain ⟨a1, a2, a3, a4, a5⟩ := lcells rA
  obtain ⟨b1, b2, b3, b4, b5⟩ := lcells rB
  go_cut [7, 8] (fun x y wx => ∃ p q : Nat, x = .pointer (some ⟨p, 0, none⟩) ∧ y = .pointer (some ⟨q, 0, none⟩) ∧ w0.heap.size ≤ p ∧ w0.heap.size ≤ q ∧ p ≠ q ∧ Since w0 wx ∧ Row wx p 2 (Pf (bx - ax) (bz - ay)) ∧ Row wx q 2 (Pf (cx - ax) (cy - ay)))
  case first =>
    clear k1 k2 k3 k4 rA rB rC rR hz0 HN1 HN2 H3
    have tok8 : True := trivial
    have tok9 : True := trivial
    (refine wp_named fun wr1 hwr1 => ?_; go_region_held3 (fun w' => (∀ b o, b < wr1.heap.size → w'.cell? ⟨b, o, none⟩ = wr1.cell? ⟨b, o, none⟩) ∧ (∀ b o, b < wr1.heap.size → w'.frozen? ⟨b, o, none⟩ = wr1.frozen? ⟨b, o, none⟩) ∧ (∀ k, k < wr1.heap.size → k < w'.heap.size) ∧ Below wr1.heap.size wr1 w') ((subst hwr1; (repeat (with_reducible (refine since_put ?_ ?_ _); rotate_left; focus (first | (simp; done) | (simp; omega) | omega))); first | assumption | (refine since_step (by assumption) ?_; first | assumption | ((repeat (first | with_reducible (exact Since.refl _) | with_reducible assumption | with_reducible (refine Since.drew ?_) | with_reducible (refine Since.drewN ?_ _) | with_reducible (refine Since.alloc ?_ _) | (with_reducible (refine Since.setCell ?_ ?_ _); rotate_left; focus (first | (simp; done) | (simp; omega) | omega)))); done)) | (refine since_step (Since.refl _) ?_; first | assumption | ((repeat (first | with_reducible (exact Since.refl _) | with_reducible assumption | with_reducible (refine Since.drew ?_) | with_reducible (refine Since.drewN ?_ _) | with_reducible (refine Since.alloc ?_ _) | (with_reducible (refine Since.setCell ?_ ?_ _); rotate_left; focus (first | (simp; done) | (simp; omega) | omega)) | (with_reducible (refine Since.trans ?_ (by with_reducible assumption))))); done)))) (first | (go_at_call 34; have _t := tok8; refine (H1.out _).mono ?_; rintro e w8 ⟨rfl, hS8⟩; have hZ := hS8.below.size; (try simp at hZ); have hT := hS8; obtain ⟨hc8, hf8, hz8, hb8⟩ := hT; (try (have hq8_w0_0 := hz8 (w0.heap.size) (by first | with_reducible assumption | (simp; done) | (simp; omega)); have hp8_w0_0 := Nat.ne_of_lt hq8_w0_0; have hl8_w0_0 := Nat.le_of_lt hq8_w0_0)); (try (have hq8_w0_1 := hz8 (w0.heap.size + 1) (by first | with_reducible assumption | (simp; done) | (simp; omega)); have hp8_w0_1 := Nat.ne_of_lt hq8_w0_1; have hl8_w0_1 := Nat.le_of_lt hq8_w0_1)); clear tok8) | (go_at_call 34; have _t := tok9; refine (H2.out _).mono ?_; rintro e w9 ⟨rfl, hS9⟩; have hZ := hS9.below.size; (try simp at hZ); have hT := hS9; obtain ⟨hc9, hf9, hz9, hb9⟩ := hT; (try (have hq9_w0_0 := hz9 (w0.heap.size) (by first | with_reducible assumption | (simp; done) | (simp; omega)); have hp9_w0_0 := Nat.ne_of_lt hq9_w0_0; have hl9_w0_0 := Nat.le_of_lt hq9_w0_0)); (try (have hq9_w0_1 := hz9 (w0.heap.size + 1) (by first | with_reducible assumption | (simp; done) | (simp; omega)); have hp9_w0_1 := Nat.ne_of_lt hq9_w0_1; have hl9_w0_1 := Nat.le_of_lt hq9_w0_1)); (try (have hq9_w8_0 := hz9 (w8.heap.size) (by first | with_reducible assumption | (simp; done) | (simp; omega)); have hp9_w8_0 := Nat.ne_of_lt hq9_w8_0; have hl9_w8_0 := Nat.le_of_lt hq9_w8_0)); (try (have hq9_w8_1 := hz9 (w8.heap.size + 1) (by first | with_reducible assumption | (simp; done) | (simp; omega)); have hp9_w8_1 := Nat.ne_of_lt hq9_w8_1; have hl9_w8_1 := Nat.le_of_lt hq9_w8_1)); clear tok9)); all_goals (rename_i hHeld; have hR1 : Since wr1 _ := hHeld; obtain ⟨hcR1, hfR1, hzR1, hbR1⟩ := hHeld; subst hwr1))
    all_goals (go_wp2_with fail)
    all_goals go_meet
    all_goals ((try clear hp8_w0_0); (try clear hl8_w0_0); (try clear hp8_w0_1); (try clear hl8_w0_1); (try clear hp9_w0_0); (try clear hl9_w0_0); (try clear hp9_w0_1); (try clear hl9_w0_1); (try clear hp9_w8_0); (try clear hl9_w8_0); (try clear hp9_w8_1); (try clear hl9_w8_1))
    all_goals refine ⟨_, _, rfl, rfl, ?_, ?_, ?_, ?_, ?_, ?_⟩
    any_goals ((show _ ≤ _); first | omega | (simp; omega))
    any_goals ((show _ ≠ _); first | omega | (simp; omega))
    any_goals ((show Since _ _); (repeat (first | with_reducible (exact Since.refl _) | with_reducible assumption | with_reducible (refine Since.drew ?_) | with_reducible (refine Since.drewN ?_ _) | with_reducible (refine Since.alloc ?_ _) | (with_reducible (refine Since.setCell ?_ ?_ _); rotate_left; focus (first | (simp; done) | (simp; omega) | omega)) | (with_reducible (refine Since.trans ?_ (by with_reducible assumption))))); done)
    all_goals ((repeat (first | with_reducible assumption | (with_reducible (refine wrow _ _ ?_ _ _); first | with_reducible rfl | (simp; done)) | (with_reducible (refine wzero _ _ ?_ _); first | with_reducible rfl | (simp; done)) | with_reducible (refine wput ?_ _) | (with_reducible (refine prow _ _ ?_ _ _ _); first | with_reducible rfl | (simp; done)) | (with_reducible (refine orow _ _ ?_ _ _); first | with_reducible rfl | (simp; done)) | with_reducible (refine pput0 ?_ _ _) | with_reducible (refine oput0 ?_ _) | with_reducible (refine Row.drewN ?_ _) | with_reducible (refine Row.drew ?_) | with_reducible (refine Row.alloc ?_ _) | (with_reducible (refine Row.far ?_ ?_ _ _); rotate_left; focus (first | (simp; done) | (simp; omega) | omega)) | with_reducible (refine Row.since ?_ hS9) | with_reducible (refine Row.since ?_ hS8) | with_reducible (refine Row.since ?_ hS7) )))
  case rest =>
    obtain ⟨p, q, rfl, rfl, hp1, hq1, hpq, hS1, rP, rQ⟩ := hcut
    have hz1 := hS1.below.size
    have rA := rA.since hS1
    have rB := rB.since hS1
    have rC := rC.since hS1
    have rR := rR.since hS1
    have hS := hS.trans hS1
    clear hS1 a1 a2 a3 a4 a5 b1 b2 b3 b4 b5
    obtain ⟨b1, b2, b3, b4, b5⟩ := lcells rB
    obtain ⟨q1, q2, q3⟩ := pcells rQ
    go_wp2_with fail
    refine wp_named fun w1 hw1 => ?_
    obtain rfl := hw1
    go_cut [9] (fun z wx => ∃ r : Nat, z = .pointer (some ⟨r, 0, none⟩) ∧ w1.heap.size ≤ r ∧ Since w1 wx ∧ Row wx r 1 (Of (.int .i64 n)))
    case first =>
      clear rA rB rC rR rP rQ HN1 HN2 H1 H2
      have tok8 : True := trivial
      have tok9 : True := trivial
      (refine wp_named fun wr1 hwr1 => ?_; go_region_held3 (fun w' => (∀ b o, b < wr1.heap.size → w'.cell? ⟨b, o, none⟩ = wr1.cell? ⟨b, o, none⟩) ∧ (∀ b o, b < wr1.heap.size → w'.frozen? ⟨b, o, none⟩ = wr1.frozen? ⟨b, o, none⟩) ∧ (∀ k, k < wr1.heap.size → k < w'.heap.size) ∧ Below wr1.heap.size wr1 w') ((subst hwr1; (repeat (with_reducible (refine since_put ?_ ?_ _); rotate_left; focus (first | (simp; done) | (simp; omega) | omega))); first | assumption | (refine since_step (by assumption) ?_; first | assumption | ((repeat (first | with_reducible (exact Since.refl _) | with_reducible assumption | with_reducible (refine Since.drew ?_) | with_reducible (refine Since.drewN ?_ _) | with_reducible (refine Since.alloc ?_ _) | (with_reducible (refine Since.setCell ?_ ?_ _); rotate_left; focus (first | (simp; done) | (simp; omega) | omega)))); done)) | (refine since_step (Since.refl _) ?_; first | assumption | ((repeat (first | with_reducible (exact Since.refl _) | with_reducible assumption | with_reducible (refine Since.drew ?_) | with_reducible (refine Since.drewN ?_ _) | with_reducible (refine Since.alloc ?_ _) | (with_reducible (refine Since.setCell ?_ ?_ _); rotate_left; focus (first | (simp; done) | (simp; omega) | omega)) | (with_reducible (refine Since.trans ?_ (by with_reducible assumption))))); done)))) (first | (go_at_call 34; have _t := tok8; refine (H3.out _).mono ?_; rintro e w8 ⟨rfl, hS8⟩; have hZ := hS8.below.size; (try simp at hZ); have hT := hS8; obtain ⟨hc8, hf8, hz8, hb8⟩ := hT; (try (have hq8_w1_0 := hz8 (w1.heap.size) (by first | with_reducible assumption | (simp; done) | (simp; omega)); have hp8_w1_0 := Nat.ne_of_lt hq8_w1_0; have hl8_w1_0 := Nat.le_of_lt hq8_w1_0)); (try (have hq8_w1_1 := hz8 (w1.heap.size + 1) (by first | with_reducible assumption | (simp; done) | (simp; omega)); have hp8_w1_1 := Nat.ne_of_lt hq8_w1_1; have hl8_w1_1 := Nat.le_of_lt hq8_w1_1)); clear tok8) | (go_at_call 33; have _t := tok9; refine (HP1.out _).mono ?_; rintro e w9 ⟨rfl, hS9⟩; have hZ := hS9.below.size; (try simp at hZ); have hT := hS9; obtain ⟨hc9, hf9, hz9, hb9⟩ := hT; (try (have hq9_w1_0 := hz9 (w1.heap.size) (by first | with_reducible assumption | (simp; done) | (simp; omega)); have hp9_w1_0 := Nat.ne_of_lt hq9_w1_0; have hl9_w1_0 := Nat.le_of_lt hq9_w1_0)); (try (have hq9_w1_1 := hz9 (w1.heap.size + 1) (by first | with_reducible assumption | (simp; done) | (simp; omega)); have hp9_w1_1 := Nat.ne_of_lt hq9_w1_1; have hl9_w1_1 := Nat.le_of_lt hq9_w1_1)); (try (have hq9_w8_0 := hz9 (w8.heap.size) (by first | with_reducible assumption | (simp; done) | (simp; omega)); have hp9_w8_0 := Nat.ne_of_lt hq9_w8_0; have hl9_w8_0 := Nat.le_of_lt hq9_w8_0)); (try (have hq9_w8_1 := hz9 (w8.heap.size + 1) (by first | with_reducible assumption | (simp; done) | (simp; omega)); have hp9_w8_1 := Nat.ne_of_lt hq9_w8_1; have hl9_w8_1 := Nat.le_of_lt hq9_w8_1)); clear tok9)); all_goals (rename_i hHeld; have hR1 : Since wr1 _ := hHeld; obtain ⟨hcR1, hfR1, hzR1, hbR1⟩ := hHeld; subst hwr1))
      all_goals (go_wp2_with fail)
      all_goals go_meet
      all_goals ((try clear hp8_w1_0); (try clear hl8_w1_0); (try clear hp8_w1_1); (try clear hl8_w1_1); (try clear hp9_w1_0); (try clear hl9_w1_0); (try clear hp9_w1_1); (try clear hl9_w1_1); (try clear hp9_w8_0); (try clear hl9_w8_0); (try clear hp9_w8_1); (try clear hl9_w8_1))
      all_goals refine ⟨_, rfl, ?_, ?_, ?_⟩
      any_goals ((show _ ≤ _); first | omega | (simp; omega))
      any_goals ((show Since _ _); (repeat (first | with_reducible (exact Since.refl _) | with_reducible assumption | with_reducible (refine Since.drew ?_) | with_reducible (refine Since.drewN ?_ _) | with_reducible (refine Since.alloc ?_ _) | (with_reducible (refine Since.setCell ?_ ?_ _); rotate_left; focus (first | (simp; done) | (simp; omega) | omega)) | (with_reducible (refine Since.trans ?_ (by with_reducible assumption))))); done)
      all_goals ((repeat (first | with_reducible assumption | (with_reducible (refine wrow _ _ ?_ _ _); first | with_reducible rfl | (simp; done)) | (with_reducible (refine wzero _ _ ?_ _); first | with_reducible rfl | (simp; done)) | with_reducible (refine wput ?_ _) | (with_reducible (refine prow _ _ ?_ _ _ _); first | with_reducible rfl | (simp; done)) | (with_reducible (refine orow _ _ ?_ _ _); first | with_reducible rfl | (simp; done)) | with_reducible (refine pput0 ?_ _ _) | with_reducible (refine oput0 ?_ _) | with_reducible (refine Row.drewN ?_ _) | with_reducible (refine Row.drew ?_) | with_reducible (refine Row.alloc ?_ _) | (with_reducible (refine Row.far ?_ ?_ _ _); rotate_left; focus (first | (simp; done) | (simp; omega) | omega)) | with_reducible (refine Row.since ?_ hS9) | with_reducible (refine Row.since ?_ hS8) | with_reducible (refine Row.since ?_ hS7) )))
    case rest =>
      obtain ⟨r, rfl, hr1, hS1, rN⟩ := hcut
      have hz2 := hS1.below.size
      have hpl := rP.2.2
      have rA := rA.since hS1
      have rC := rC.since hS1
      have rR := rR.since hS1
      have rP := rP.since hS1
      have rQ := rQ.since hS1
      have hS := hS.trans hS1
      clear rB hS1 b1 b2 b3 b4 b5 q1 q2 q3
      obtain ⟨p1, p2, p3⟩ := pcells rP
      obtain ⟨q1, q2, q3⟩ := pcells rQ
      go_upto_if 33 with (go_at_call 33; (with_reducible refine (HP2.out _).mono ?_); rintro e w2 ⟨rfl, hS2⟩; have rA := rA.since hS2; have rC := rC.since hS2; have rR := rR.since hS2; have rP := rP.since hS2; have rN := rN.since hS2; have hS := hS.trans hS2; have hz3 := hS2.below.size; clear rQ hS2 p1 p2 p3 q1 q2 q3; obtain ⟨c1, c2⟩ := ocell rC; obtain ⟨n1, n2⟩ := ocell rN; have cF := rC.2.1 0; have nF := rN.2.1 0)
      go_cut [10] (fun z wx => ∃ N M C : Int, z = .int .i64 M ∧ Hid (crossPos ⟨ax, ay, bx, bz⟩ N M C = RES) ∧ -562949953421312 ≤ N ∧ N ≤ 562949953421312 ∧ 0 < C ∧ C ≤ 562949953421312 ∧ Since w wx ∧ Row wx w.heap.size 4 (Lf ⟨ax, ay, bx, bz⟩) ∧ Row wx (w.heap.size + 1 + 1) 1 (Of (.int .i64 C)) ∧ Row wx (w.heap.size + 1 + 1 + 1) 6 (Cf cpNone) ∧ Row wx p 2 (Pf (bx - ax) (bz - ay)) ∧ Row wx r 1 (Of (.int .i64 N)))
      case first =>
        clear HN1 HN2 H1 H2 H3 HP1 HP2
        by_cases hneg : c < 0
        · have hd : decide (c < 0) = true := decide_eq_true hneg
          go_wp2_with fail
          go_region
          all_goals (go_wp2_with fail)
          all_goals go_meet
          case rel =>
            have e1 : r ≠ w.heap.size := by omega
            have e2 : r ≠ w.heap.size + 1 + 1 := by omega
            have e3 : r ≠ w.heap.size + 1 + 1 + 1 := by omega
            have e4 : r ≠ p := by omega
            have e5 : w.heap.size + 1 + 1 ≠ p := by omega
            exact ⟨-n, -m, -c, rfl, Lib.hid (by rw [← HRES.out, if_pos hneg]), by omega, by omega, by omega, by omega, ((hS.setCell (by simp; omega) _).setCell (by simp; omega) _).drew, ((rA.far e1 0 _).far (by omega) 0 _).drew, (oput (rC.far e2 0 _) _).drew, ((rR.far e3 0 _).far (by omega) 0 _).drew, ((rP.far e4 0 _).far e5 0 _).drew, ((oput rN _).far (by omega) 0 _).drew⟩
        · have hd : decide (c < 0) = false := decide_eq_false hneg
          go_wp2_with fail
          all_goals go_meet
          case rel => exact ⟨n, m, c, rfl, Lib.hid (by rw [← HRES.out, if_neg (by omega)]), hnB.1, hnB.2, by omega, hcB.2, hS, rA, rC, rR, rP, rN⟩
      case rest =>
        obtain ⟨N, M, C, rfl, hE, hN1, hN2, hC1, hC2, hS, rA, rC, rR, rP, rN⟩ := hcut
        obtain ⟨a1, a2, a3, a4, a5⟩ := lcells rA
        obtain ⟨p1, p2, p3⟩ := pcells rP
        obtain ⟨c1, c2⟩ := ocell rC
        obtain ⟨n1, n2⟩ := ocell rN
        obtain ⟨r1, r2, r3, r4, r5, r6, r7⟩ := ccells rR
        have rF := rR.2.1
        have f0 := rF 0; have f1 := rF 1; have f2 := rF 2; have f3 := rF 3; have f4 := rF 4; have f5 := rF 5
        unfold cpNone at r1 r2 r3 r4 r5 r6
        simp only at r1 r2 r3 r4 r5 r6
        clear rF
        have hcases : (decide (N < 0) = true ∧ in01 N M C = false) ∨ (decide (N < 0) = false ∧ decide (C < N) = true ∧ in01 N M C = false) ∨ (decide (N < 0) = false ∧ decide (C < N) = false ∧ decide (M < 0) = true ∧ in01 N M C = false) ∨ (decide (N < 0) = false ∧ decide (C < N) = false ∧ decide (M < 0) = false ∧ decide (C < M) = true ∧ in01 N M C = false) ∨ (decide (N < 0) = false ∧ decide (C < N) = false ∧ decide (M < 0) = false ∧ decide (C < M) = false ∧ in01 N M C = true) := by
          exact in01_cases N M C
        rcases hcases with ⟨d1, hin⟩ | ⟨d1, d2, hin⟩ | ⟨d1, d2, d3, hin⟩ | ⟨d1, d2, d3, d4, hin⟩ | ⟨d1, d2, d3, d4, hin⟩
        rotate_left 4
        · have hE2 := hE.out
          have hin0 := hin
          unfold crossPos at hE2
          rw [hin, if_pos rfl] at hE2
          have HE := Lib.hid hE2
          clear hE2 hE hin HN1 HN2 H1 H2 H3 HP1 HP2
          have hb0 := in01_iff.1 hin0
          have bX := along_in ax bx N C (by omega) (by omega) (by omega) (by omega) hb0.1 hb0.2.1
          have bY := along_in ay bz N C (by omega) (by omega) (by omega) (by omega) hb0.1 hb0.2.1
          have HX := Lib.hid (along_hid ax (bx - ax) C N (w.heap.size + 1 + 1) r (by unfold InW; omega) (by unfold InW; omega) (by unfold InW; omega) (by unfold InW; omega) bX)
          have HY := Lib.hid (along_hid ay (bz - ay) C N (w.heap.size + 1 + 1) r (by unfold InW; omega) (by unfold InW; omega) (by unfold InW; omega) (by unfold InW; omega) bY)
          have hOC : OneAt wc.drew (w.heap.size + 1 + 1) (.int .i64 C) := ⟨c1, c2⟩
          have hON : OneAt wc.drew r (.int .i64 N) := ⟨n1, n2⟩
          have e1 : p ≠ w.heap.size + 1 + 1 + 1 := by omega
          have e2 : w.heap.size ≠ w.heap.size + 1 + 1 + 1 := by omega
          have e3 : w.heap.size + 1 + 1 ≠ w.heap.size + 1 + 1 + 1 := by omega
          clear bX bY hb0 hin0 k1 k2 k3 k4 hnB hmB hcB hN1 hN2 hC1 hC2 rP rC rA hp1 hq1 hpq hz1 hz2 hz3
          have HE3 : Hid ((⟨1, ax * C + (bx - ax) * N, ay * C + (bz - ay) * N, C⟩ : Cp) = RES) := HE
          clear HE
          generalize ax * C + (bx - ax) * N = X at *
          generalize ay * C + (bz - ay) * N = Y at *
          go_wp2_with fail
          have tok8 : True := trivial
          have tok9 : True := trivial
          (refine wp_named fun wr1 hwr1 => ?_; go_region_held3 (fun w' => (∀ b o, b < wr1.heap.size → b ≠ (w.heap.size + 1 + 1 + 1) → w'.cell? ⟨b, o, none⟩ = wr1.cell? ⟨b, o, none⟩) ∧ (∀ b o, b < wr1.heap.size → w'.frozen? ⟨b, o, none⟩ = wr1.frozen? ⟨b, o, none⟩) ∧ (∀ k, k < wr1.heap.size → k < w'.heap.size) ∧ Since w w' ∧ (∀ o, o < 6 → w'.cell? ⟨(w.heap.size + 1 + 1 + 1), o, none⟩ = some (cellD w' ((w.heap.size + 1 + 1 + 1)) o))) ((subst hwr1; (repeat with_reducible (refine sx_set (by omega) ?_ _ _)); first | with_reducible assumption | (refine sx_step (by first | assumption | omega | (simp; done) | (simp; omega)) (by with_reducible assumption) ?_; first | with_reducible assumption | (repeat (first | with_reducible (exact Since.refl _) | with_reducible assumption | with_reducible (refine Since.drew ?_) | with_reducible (refine Since.drewN ?_ _) | with_reducible (refine Since.alloc ?_ _) | (with_reducible (refine Since.setCell ?_ ?_ _); rotate_left; focus (first | (simp; done) | (simp; omega) | omega))))) | (refine sx_step (by first | assumption | omega | (simp; done) | (simp; omega)) (sx_start (by (repeat (first | with_reducible (exact Since.refl _) | with_reducible assumption | with_reducible (refine Since.drew ?_) | with_reducible (refine Since.drewN ?_ _) | with_reducible (refine Since.alloc ?_ _) | (with_reducible (refine Since.setCell ?_ ?_ _); rotate_left; focus (first | (simp; done) | (simp; omega) | omega)) | (with_reducible (refine Since.trans ?_ (by with_reducible assumption)))))) (fun o ho => by (have ho' : o = 0 ∨ o = 1 ∨ o = 2 ∨ o = 3 ∨ o = 4 ∨ o = 5 := by omega); rcases ho' with rfl | rfl | rfl | rfl | rfl | rfl <;> (first | (simp [go_sem]; done) | simp_all))) ?_; first | with_reducible assumption | (repeat (first | with_reducible (exact Since.refl _) | with_reducible assumption | with_reducible (refine Since.drew ?_) | with_reducible (refine Since.drewN ?_ _) | with_reducible (refine Since.alloc ?_ _) | (with_reducible (refine Since.setCell ?_ ?_ _); rotate_left; focus (first | (simp; done) | (simp; omega) | omega))))))) (first | (go_at_call 55; have _t := tok8; (with_reducible refine (HX.out _ (by first | exact hOC9 | exact hOC) (by first | exact hON9 | exact hON)).mono ?_); rintro e w8 ⟨rfl, hS8⟩; have hOC8 := OneAt.since (by first | exact hOC9 | exact hOC) hS8; have hON8 := OneAt.since (by first | exact hON9 | exact hON) hS8; have hZ := hS8.below.size; (try simp at hZ); clear tok8) | (go_at_call 55; have _t := tok9; (with_reducible refine (HY.out _ (by first | exact hOC8 | exact hOC) (by first | exact hON8 | exact hON)).mono ?_); rintro e w9 ⟨rfl, hS9⟩; have hOC9 := OneAt.since (by first | exact hOC8 | exact hOC) hS9; have hON9 := OneAt.since (by first | exact hON8 | exact hON) hS9; have hZ := hS9.below.size; (try simp at hZ); clear tok9)); all_goals (rename_i hHeld; obtain ⟨hcR1, hfR1, hzR1, hR1, hoR1⟩ := hHeld; have hiR := fun o ho => there_of (hoR1 o ho); (try simp only [there_set] at hiR); clear hoR1; subst hwr1))
          all_goals go_wp2
          all_goals refine ret_agg (P := Tryz.prog) Tryz.results35 rfl (cp_stored hiR ⟨1, X, Y, C⟩) Tryz.underlying48 rfl (by kernel_rfl) rfl ⟨by rw [← HE3.out]; rfl, ?_⟩
          all_goals ((repeat (first | with_reducible (exact Since.refl _) | with_reducible assumption | with_reducible (refine Since.drew ?_) | with_reducible (refine Since.drewN ?_ _) | with_reducible (refine Since.alloc ?_ _) | (with_reducible (refine Since.setCell ?_ ?_ _); rotate_left; focus (first | (simp; done) | (simp; omega) | omega)) | (with_reducible (refine Since.trans ?_ (by with_reducible assumption))))))
        all_goals
          have hE2 := hE.out
          unfold crossPos at hE2
          rw [hin, if_neg (by simp)] at hE2
          have HE := Lib.hid hE2
          clear hE2 hE hin HN1 HN2 H1 H2 H3 HP1 HP2
          go_wp2
          refine ret_agg (P := Tryz.prog) Tryz.results35 rfl (cp_range (cput rR cpNone)) Tryz.underlying48 rfl (by kernel_rfl) rfl ⟨by rw [← HE.out]; rfl, ?_⟩
          (repeat (first | with_reducible (exact Since.refl _) | with_reducible assumption | with_reducible (refine Since.drew ?_) | with_reducible (refine Since.drewN ?_ _) | with_reducible (refine Since.alloc ?_ _) | (with_reducible (refine Since.setCell ?_ ?_ _); rotate_left; focus (first | (simp; done) | (simp; omega) | omega)) | (with_reducible (refine Since.trans ?_ (by with_reducible assumption)))))
end Go.Proofs.YtckochcocflleaaGreat
