/-
  Texts of this seat, put together: each with its own head.
-/
import Derived.Test.YtcfghkphkmoikaaGreatMqM
import Derived.Test.YtcfghkphkmoikaaGreatMqW
import Derived.Test.YtcfghkphkmoikaaGreatKitB
import Derived.Deep.DeepCutAuto
import Derived.Test.YtcfghkphkmoikaaGreatMqG
import Derived.DeepKeys4
import Derived.Maps.OwnSet
import Derived.Maps.RangeWalk
import Derived.Deep.CutBlock

/-
  Layer 15: 'crossing', walked.
-/
namespace Go.Proofs.YtcfghkphkmoikaaGreat
set_option maxRecDepth 100000
open Go.RowKit
set_option linter.unusedVariables false

/-- A block's one cell. -/
def OneAt (w : World) (b : Nat) (v : Value) : Prop := w.cell? ⟨b, 0, none⟩ = some v ∧ b < w.heap.size
theorem OneAt.since {w w' : World} {b : Nat} {v : Value} (h : OneAt w b v) (k : Since w w') : OneAt w' b v := ⟨(k.1 _ _ h.2).trans h.1, k.2.2.1 _ h.2⟩
theorem OneAt.alloc {w : World} {b : Nat} {v : Value} (h : OneAt w b v) (o : Obj) : OneAt (w.alloc o) b v := h.since ((Since.refl w).alloc o)
theorem one_new (w : World) (b : Nat) (hb : b = w.heap.size) (v : Value) (t : TypeId) : OneAt (w.alloc (.cells #[v] t)) b v := by
  subst hb
  refine ⟨?_, by simp⟩
  rw [World.cell?_alloc_new]; rfl

set_option maxHeartbeats 8000000 in
theorem cr_along (f s c n : Int) (bc bn : Nat) (w : World) (hc : OneAt w bc (.int .i64 c)) (hn : OneAt w bn (.int .i64 n)) (i1 : InW f) (i2 : InW s) (i3 : InW c) (i4 : InW n) (i5 : In128 (f * c + s * n)) :
    Calls Tryz.prog 125 #[.int .i64 f, .int .i64 s, .pointer (some ⟨bc, 0, none⟩), .pointer (some ⟨bn, 0, none⟩)] w fun e w' => e = .returned (W (f * c + s * n)) ∧ Since w w' := by
  obtain ⟨c1, c2⟩ := hc
  obtain ⟨n1, n2⟩ := hn
  have hm1 := fun w => wide_mul f c i1 i3 w
  have hm2 := fun w => wide_mul s n i2 i4 w
  have ha := fun w => wide_add (f * c) (s * n) (mul_in i1 i3) (mul_in i2 i4) w
  rw [w128_of i5] at ha
  have H1 := Lib.hid hm1
  have H2 := Lib.hid hm2
  have HA := Lib.hid ha
  clear hm1 hm2 ha i1 i2 i3 i4 i5
  generalize f * c + s * n = R at *
  go_enter Tryz.func125, Tryz.ntmps125
  go_wp2
  (refine wp_named fun wr1 hwr1 => ?_; go_region_held3 (fun w' => (∀ b o, b < (w.heap.size) → w'.cell? ⟨b, o, none⟩ = wr1.cell? ⟨b, o, none⟩) ∧ (∀ b o, b < wr1.heap.size → w'.frozen? ⟨b, o, none⟩ = wr1.frozen? ⟨b, o, none⟩) ∧ (∀ k, k < wr1.heap.size → k < w'.heap.size) ∧ Below ((w.heap.size)) wr1 w' ∧ (∀ o, o < 2 → w'.cell? ⟨(w.heap.size), o, none⟩ = some (cellD w' ((w.heap.size)) o))) ((subst hwr1; (repeat with_reducible (refine sr_set ?_ _ _)); first | assumption | (refine sr_step (by first | assumption | omega | (simp; done) | (simp; omega)) (by assumption) ?_; first | assumption | (repeat (first | with_reducible (exact Since.refl _) | with_reducible assumption | with_reducible (refine Since.drew ?_) | with_reducible (refine Since.drewN ?_ _) | with_reducible (refine Since.alloc ?_ _) | (with_reducible (refine Since.setCell ?_ ?_ _); rotate_left; focus (first | (simp; done) | (simp; omega) | omega))))) | (refine sr_step (by first | assumption | omega | (simp; done) | (simp; omega)) (sr_start (fun o ho => by (have ho' : o = 0 ∨ o = 1 := by omega); rcases ho' with rfl | rfl <;> (first | (simp [go_sem]; done) | simp_all))) ?_; first | assumption | (repeat (first | with_reducible (exact Since.refl _) | with_reducible assumption | with_reducible (refine Since.drew ?_) | with_reducible (refine Since.drewN ?_ _) | with_reducible (refine Since.alloc ?_ _) | (with_reducible (refine Since.setCell ?_ ?_ _); rotate_left; focus (first | (simp; done) | (simp; omega) | omega))))))) (first | (go_at_call 127; (with_reducible refine (H1.out _).mono ?_); rintro e w1 ⟨rfl, hS⟩; have hZ := hS.below.size; (try simp at hZ)) | (go_at_call 127; (with_reducible refine (H2.out _).mono ?_); rintro e w1 ⟨rfl, hS⟩; have hZ := hS.below.size; (try simp at hZ)) | (go_at_call 126; (with_reducible refine (HA.out _).mono ?_); rintro e w1 ⟨rfl, hS⟩; have hZ := hS.below.size; (try simp at hZ))); all_goals (rename_i hHeld; obtain ⟨hcR1, hfR1, hzR1, hbR1, hoR1⟩ := hHeld; have hiR := fun o ho => there_of (hoR1 o ho); (try simp only [there_set] at hiR); clear hoR1; subst hwr1; have hR1 : Since w _ := sr_out hbR1 (by (repeat (first | with_reducible (exact Since.refl _) | with_reducible assumption | with_reducible (refine Since.drew ?_) | with_reducible (refine Since.drewN ?_ _) | with_reducible (refine Since.alloc ?_ _) | (with_reducible (refine Since.setCell ?_ ?_ _); rotate_left; focus (first | (simp; done) | (simp; omega) | omega)) | (with_reducible (refine Since.trans ?_ (by with_reducible assumption)))))) (by first | (simp; done) | (simp; omega) | omega)))
  all_goals go_wp2
  all_goals refine bodyPost_ret (by simp only [results, Tryz.results125]; go_simp) rfl ⟨rfl, ?_⟩
  all_goals (repeat (first | with_reducible (exact Since.refl _) | with_reducible assumption | with_reducible (refine Since.drew ?_) | with_reducible (refine Since.drewN ?_ _) | with_reducible (refine Since.alloc ?_ _) | (with_reducible (refine Since.setCell ?_ ?_ _); rotate_left; focus (first | (simp; done) | (simp; omega) | omega)) | (with_reducible (refine Since.trans ?_ (by with_reducible assumption)))))
def Lf (l : Ln) (j : Nat) : Value := if j = 0 then .int .i64 l.ax else if j = 1 then .int .i64 l.ay else if j = 2 then .int .i64 l.bx else .int .i64 l.bz
theorem lrow (w : World) (b : Nat) (hb : b = w.heap.size) (t : TypeId) (l : Ln) : Row (w.alloc (.cells #[.int .i64 l.ax, .int .i64 l.ay, .int .i64 l.bx, .int .i64 l.bz] t)) b 4 (Lf l) := by
  subst hb
  refine Row.of_cells fun j hj => ?_
  have h : j = 0 ∨ j = 1 ∨ j = 2 ∨ j = 3 := by omega
  rcases h with rfl | rfl | rfl | rfl <;> rfl
theorem lcells {w : World} {b : Nat} {l : Ln} (h : Row w b 4 (Lf l)) : w.cell? ⟨b, 0, none⟩ = some (.int .i64 l.ax) ∧ w.cell? ⟨b, 1, none⟩ = some (.int .i64 l.ay) ∧ w.cell? ⟨b, 2, none⟩ = some (.int .i64 l.bx) ∧ w.cell? ⟨b, 3, none⟩ = some (.int .i64 l.bz) ∧ b < w.heap.size := ⟨h.1 0 (by omega), h.1 1 (by omega), h.1 2 (by omega), h.1 3 (by omega), h.2.2⟩
def Cf (p : Cp) (j : Nat) : Value := if j = 0 then .int .i64 p.k else if j = 1 then .int .i64 (hiW p.x) else if j = 2 then .int .u64 (loW p.x) else if j = 3 then .int .i64 (hiW p.y) else if j = 4 then .int .u64 (loW p.y) else .int .i64 p.d
theorem crow (w : World) (b : Nat) (hb : b = w.heap.size) (t : TypeId) (p : Cp) : Row (w.alloc (.cells #[.int .i64 p.k, .int .i64 (hiW p.x), .int .u64 (loW p.x), .int .i64 (hiW p.y), .int .u64 (loW p.y), .int .i64 p.d] t)) b 6 (Cf p) := by
  subst hb
  refine Row.of_cells fun j hj => ?_
  have h : j = 0 ∨ j = 1 ∨ j = 2 ∨ j = 3 ∨ j = 4 ∨ j = 5 := by omega
  rcases h with rfl | rfl | rfl | rfl | rfl | rfl <;> rfl
theorem crow0 (w : World) (b : Nat) (hb : b = w.heap.size) (t : TypeId) : Row (w.alloc (.cells #[.int .i64 0, .int .i64 0, .int .u64 0, .int .i64 0, .int .u64 0, .int .i64 0] t)) b 6 (Cf cpNone) := crow w b hb t cpNone
theorem ccells {w : World} {b : Nat} {p : Cp} (h : Row w b 6 (Cf p)) : w.cell? ⟨b, 0, none⟩ = some (.int .i64 p.k) ∧ w.cell? ⟨b, 1, none⟩ = some (.int .i64 (hiW p.x)) ∧ w.cell? ⟨b, 2, none⟩ = some (.int .u64 (loW p.x)) ∧ w.cell? ⟨b, 3, none⟩ = some (.int .i64 (hiW p.y)) ∧ w.cell? ⟨b, 4, none⟩ = some (.int .u64 (loW p.y)) ∧ w.cell? ⟨b, 5, none⟩ = some (.int .i64 p.d) ∧ b < w.heap.size := ⟨h.1 0 (by omega), h.1 1 (by omega), h.1 2 (by omega), h.1 3 (by omega), h.1 4 (by omega), h.1 5 (by omega), h.2.2⟩

theorem cput {w : World} {b : Nat} {p0 : Cp} (h : Row w b 6 (Cf p0)) (p : Cp) : Row ((((((w.setCell ⟨b, 0, none⟩ (.int .i64 p.k)).setCell ⟨b, 1, none⟩ (.int .i64 (hiW p.x))).setCell ⟨b, 2, none⟩ (.int .u64 (loW p.x))).setCell ⟨b, 3, none⟩ (.int .i64 (hiW p.y))).setCell ⟨b, 4, none⟩ (.int .u64 (loW p.y))).setCell ⟨b, 5, none⟩ (.int .i64 p.d)) b 6 (Cf p) := by
  refine ((((((h.set 0 _).set 1 _).set 2 _).set 3 _).set 4 _).set 5 _).congr fun j hj => ?_
  have hh : j = 0 ∨ j = 1 ∨ j = 2 ∨ j = 3 ∨ j = 4 ∨ j = 5 := by omega
  rcases hh with rfl | rfl | rfl | rfl | rfl | rfl <;> rfl
theorem cp_range {w : World} {b : Nat} {p : Cp} (h : Row w b 6 (Cf p)) : w.rangeAt b 0 [.int .i64 p.k, .int .i64 (hiW p.x), .int .u64 (loW p.x), .int .i64 (hiW p.y), .int .u64 (loW p.y), .int .i64 p.d] := row_range h _ fun j v hv => by
  have hlt := (List.getElem?_eq_some_iff.1 hv).1
  simp only [List.length_cons, List.length_nil] at hlt
  have hh : j = 0 ∨ j = 1 ∨ j = 2 ∨ j = 3 ∨ j = 4 ∨ j = 5 := by omega
  rcases hh with rfl | rfl | rfl | rfl | rfl | rfl <;> (simp only [List.getElem?_cons_zero, List.getElem?_cons_succ, Option.some.injEq] at hv; subst hv; exact ⟨by omega, rfl⟩)
theorem cp_stored {w : World} {b : Nat} (h : ∀ o, o < 6 → (w.cell? ⟨b, o, none⟩).isSome = true) (p : Cp) : ((((((w.setCell ⟨b, 0, none⟩ (.int .i64 p.k)).setCell ⟨b, 1, none⟩ (.int .i64 (hiW p.x))).setCell ⟨b, 2, none⟩ (.int .u64 (loW p.x))).setCell ⟨b, 3, none⟩ (.int .i64 (hiW p.y))).setCell ⟨b, 4, none⟩ (.int .u64 (loW p.y))).setCell ⟨b, 5, none⟩ (.int .i64 p.d)).rangeAt b 0 [.int .i64 p.k, .int .i64 (hiW p.x), .int .u64 (loW p.x), .int .i64 (hiW p.y), .int .u64 (loW p.y), .int .i64 p.d] := fun j v hv => by
  have hlt := (List.getElem?_eq_some_iff.1 hv).1
  simp only [List.length_cons, List.length_nil] at hlt
  have hh : j = 0 ∨ j = 1 ∨ j = 2 ∨ j = 3 ∨ j = 4 ∨ j = 5 := by omega
  have h0 := h 0 (by omega); have h1 := h 1 (by omega); have h2 := h 2 (by omega); have h3 := h 3 (by omega); have h4 := h 4 (by omega); have h5 := h 5 (by omega)
  rcases hh with rfl | rfl | rfl | rfl | rfl | rfl <;> (simp only [List.getElem?_cons_zero, List.getElem?_cons_succ, Option.some.injEq] at hv; subst hv; simp [cell_set, map_there, h0, h1, h2, h3, h4, h5])
theorem in01_cases (N M C : Int) : (decide (N < 0) = true ∧ in01 N M C = false) ∨ (decide (N < 0) = false ∧ decide (C < N) = true ∧ in01 N M C = false) ∨ (decide (N < 0) = false ∧ decide (C < N) = false ∧ decide (M < 0) = true ∧ in01 N M C = false) ∨ (decide (N < 0) = false ∧ decide (C < N) = false ∧ decide (M < 0) = false ∧ decide (C < M) = true ∧ in01 N M C = false) ∨ (decide (N < 0) = false ∧ decide (C < N) = false ∧ decide (M < 0) = false ∧ decide (C < M) = false ∧ in01 N M C = true) := by
  have hno : ∀ {P : Prop}, (in01 N M C = true → False) → in01 N M C = false := fun h => by cases hh : in01 N M C; rfl; exact absurd hh h
  by_cases h1 : N < 0
  · exact .inl ⟨decide_eq_true h1, hno (P := True) fun h => by have := in01_iff.1 h; omega⟩
  by_cases h2 : C < N
  · exact .inr (.inl ⟨decide_eq_false h1, decide_eq_true h2, hno (P := True) fun h => by have := in01_iff.1 h; omega⟩)
  by_cases h3 : M < 0
  · exact .inr (.inr (.inl ⟨decide_eq_false h1, decide_eq_false h2, decide_eq_true h3, hno (P := True) fun h => by have := in01_iff.1 h; omega⟩))
  by_cases h4 : C < M
  · exact .inr (.inr (.inr (.inl ⟨decide_eq_false h1, decide_eq_false h2, decide_eq_false h3, decide_eq_true h4, hno (P := True) fun h => by have := in01_iff.1 h; omega⟩)))
  · exact .inr (.inr (.inr (.inr ⟨decide_eq_false h1, decide_eq_false h2, decide_eq_false h3, decide_eq_false h4, in01_iff.2 (by omega)⟩)))

theorem along_in (a b n c : Int) (ha : -4194304 ≤ a ∧ a ≤ 4194304) (hb : -4194304 ≤ b ∧ b ≤ 4194304) (hc0 : 0 < c) (hc : c ≤ 562949953421312) (h0 : 0 ≤ n) (h1 : n ≤ c) : In128 (a * c + (b - a) * n) := by
  obtain ⟨k1, k2⟩ := conv_in a b n c h0 h1
  have b1 : -4194304 * c ≤ lo2 a b * c := Int.mul_le_mul_of_nonneg_right (by unfold lo2; split <;> omega) (by omega)
  have b2 : hi2 a b * c ≤ 4194304 * c := Int.mul_le_mul_of_nonneg_right (by unfold hi2; split <;> omega) (by omega)
  unfold In128
  omega
theorem along_hid (f s c n : Int) (bc bn : Nat) (i1 : InW f) (i2 : InW s) (i3 : InW c) (i4 : InW n) (i5 : In128 (f * c + s * n)) : ∀ w, OneAt w bc (.int .i64 c) → OneAt w bn (.int .i64 n) →
    Calls Tryz.prog 125 #[.int .i64 f, .int .i64 s, .pointer (some ⟨bc, 0, none⟩), .pointer (some ⟨bn, 0, none⟩)] w fun e w' => e = .returned (W (f * c + s * n)) ∧ Since w w' :=
  fun w h1 h2 => cr_along f s c n bc bn w h1 h2 i1 i2 i3 i4 i5

set_option maxRecDepth 100000 in
set_option maxHeartbeats 8000000 in
theorem cr_crossing_x (s t : Ln) (hs : lnG s = true) (ht : lnG t = true) (hc : cC s t ≠ 0) (w : World) :
    Calls Tryz.prog 98 #[s.v, t.v, .int .i64 (cC s t)] w fun e w' => e = .returned (crossCp s t).v ∧ Since w w' := by
  have k1 := goodB_iff.1 (Bool.and_eq_true_iff.1 hs).1
  have k2 := goodB_iff.1 (Bool.and_eq_true_iff.1 hs).2
  have k3 := goodB_iff.1 (Bool.and_eq_true_iff.1 ht).1
  have k4 := goodB_iff.1 (Bool.and_eq_true_iff.1 ht).2
  have hv1 := fun w => cr_vector s.ax s.ay s.bx s.bz (IntWalk.i64_in _ (by omega)) (IntWalk.i64_in _ (by omega)) w
  have hv2 := fun w => cr_vector s.ax s.ay t.ax t.ay (IntWalk.i64_in _ (by omega)) (IntWalk.i64_in _ (by omega)) w
  have hv3 := fun w => cr_vector t.ax t.ay t.bx t.bz (IntWalk.i64_in _ (by omega)) (IntWalk.i64_in _ (by omega)) w
  have hN1 := fun w b hb ty => lrow w b hb ty s
  have hN2 := fun w b hb ty => lrow w b hb ty t
  have n1 : Near (s.bx - s.ax) := by unfold Near; omega
  have n2 : Near (s.bz - s.ay) := by unfold Near; omega
  have n3 : Near (t.ax - s.ax) := by unfold Near; omega
  have n4 : Near (t.ay - s.ay) := by unfold Near; omega
  have n5 : Near (t.bx - t.ax) := by unfold Near; omega
  have n6 : Near (t.bz - t.ay) := by unfold Near; omega
  have m1 := near_mul n3 n6; have m2 := near_mul n4 n5; have m3 := near_mul n3 n2; have m4 := near_mul n4 n1; have m5 := near_mul n1 n6; have m6 := near_mul n2 n5
  have hp1 := fun w => cr_product (t.ax - s.ax) (t.ay - s.ay) (t.bx - t.ax) (t.bz - t.ay) (IntWalk.i64_in _ (by omega)) (IntWalk.i64_in _ (by omega)) (IntWalk.i64_in _ (by omega)) w
  have hp2 := fun w => cr_product (t.ax - s.ax) (t.ay - s.ay) (s.bx - s.ax) (s.bz - s.ay) (IntWalk.i64_in _ (by omega)) (IntWalk.i64_in _ (by omega)) (IntWalk.i64_in _ (by omega)) w
  have hnB : -562949953421312 ≤ nC s t ∧ nC s t ≤ 562949953421312 := by unfold nC crossI; omega
  have hmB : -562949953421312 ≤ mC s t ∧ mC s t ≤ 562949953421312 := by unfold mC crossI; omega
  have hcB : -562949953421312 ≤ cC s t ∧ cC s t ≤ 562949953421312 := by unfold cC crossI; omega
  have en : crossI (t.ax - s.ax) (t.ay - s.ay) (t.bx - t.ax) (t.bz - t.ay) = nC s t := rfl
  have em : crossI (t.ax - s.ax) (t.ay - s.ay) (s.bx - s.ax) (s.bz - s.ay) = mC s t := rfl
  rw [en] at hp1
  rw [em] at hp2
  clear m1 m2 m3 m4 m5 m6 n1 n2 n3 n4 n5 n6 en em
  unfold crossCp
  generalize cC s t = c at *
  generalize nC s t = n at *
  generalize mC s t = m at *
  generalize hres : (if c < 0 then crossPos s (-n) (-m) (-c) else crossPos s n m c) = RES
  have HRES := Lib.hid hres
  clear hres
  obtain ⟨ax, ay, bx, bz⟩ := s
  obtain ⟨cx, cy, dx, dz⟩ := t
  simp only at hv1 hv2 hv3 hN1 hN2 hp1 hp2
  have HN1 := Lib.hid hN1
  have HN2 := Lib.hid hN2
  unfold Ln.v Pt at *
  have H1 := Lib.hid hv1
  have H2 := Lib.hid hv2
  have H3 := Lib.hid hv3
  have HP1 := Lib.hid hp1
  have HP2 := Lib.hid hp2
  clear hv1 hv2 hv3 hN1 hN2 hp1 hp2
  go_enter Tryz.func98, Tryz.ntmps98
  go_wp2
  refine wp_named fun w0 hw0 => ?_
  have rA : Row w0 w.heap.size 4 (Lf ⟨ax, ay, bx, bz⟩) := by subst hw0; exact (((HN1.out w _ rfl _).alloc _).alloc _).alloc _
  have rB : Row w0 (w.heap.size + 1) 4 (Lf ⟨cx, cy, dx, dz⟩) := by subst hw0; exact ((HN2.out _ _ (by simp) _).alloc _).alloc _
  have rC : Row w0 (w.heap.size + 1 + 1) 1 (Of (.int .i64 c)) := by subst hw0; exact (orow _ _ (by simp) _ _).alloc _
  have rR : Row w0 (w.heap.size + 1 + 1 + 1) 6 (Cf cpNone) := by subst hw0; exact crow0 _ _ (by simp) _
  have hS : Since w w0 := by subst hw0; (repeat (first | with_reducible (exact Since.refl _) | with_reducible assumption | with_reducible (refine Since.drew ?_) | with_reducible (refine Since.drewN ?_ _) | with_reducible (refine Since.alloc ?_ _) | (with_reducible (refine Since.setCell ?_ ?_ _); rotate_left; focus (first | (simp; done) | (simp; omega) | omega)) | (with_reducible (refine Since.trans ?_ (by with_reducible assumption)))))
  have hz0 : w.heap.size + 4 ≤ w0.heap.size := by subst hw0; simp
  clear hw0
  obtain ⟨a1, a2, a3, a4, a5⟩ := lcells rA
  obtain ⟨b1, b2, b3, b4, b5⟩ := lcells rB
  go_cut [7, 8] (fun x y wx => ∃ p q : Nat, x = .pointer (some ⟨p, 0, none⟩) ∧ y = .pointer (some ⟨q, 0, none⟩) ∧ w0.heap.size ≤ p ∧ w0.heap.size ≤ q ∧ p ≠ q ∧ Since w0 wx ∧ Row wx p 2 (Pf (bx - ax) (bz - ay)) ∧ Row wx q 2 (Pf (cx - ax) (cy - ay)))
  case first =>
    clear k1 k2 k3 k4 rA rB rC rR hz0 HN1 HN2 H3
    have tok8 : True := trivial
    have tok9 : True := trivial
    (refine wp_named fun wr1 hwr1 => ?_; go_region_held3 (fun w' => (∀ b o, b < wr1.heap.size → w'.cell? ⟨b, o, none⟩ = wr1.cell? ⟨b, o, none⟩) ∧ (∀ b o, b < wr1.heap.size → w'.frozen? ⟨b, o, none⟩ = wr1.frozen? ⟨b, o, none⟩) ∧ (∀ k, k < wr1.heap.size → k < w'.heap.size) ∧ Below wr1.heap.size wr1 w') ((subst hwr1; (repeat (with_reducible (refine since_put ?_ ?_ _); rotate_left; focus (first | (simp; done) | (simp; omega) | omega))); first | assumption | (refine since_step (by assumption) ?_; first | assumption | ((repeat (first | with_reducible (exact Since.refl _) | with_reducible assumption | with_reducible (refine Since.drew ?_) | with_reducible (refine Since.drewN ?_ _) | with_reducible (refine Since.alloc ?_ _) | (with_reducible (refine Since.setCell ?_ ?_ _); rotate_left; focus (first | (simp; done) | (simp; omega) | omega)))); done)) | (refine since_step (Since.refl _) ?_; first | assumption | ((repeat (first | with_reducible (exact Since.refl _) | with_reducible assumption | with_reducible (refine Since.drew ?_) | with_reducible (refine Since.drewN ?_ _) | with_reducible (refine Since.alloc ?_ _) | (with_reducible (refine Since.setCell ?_ ?_ _); rotate_left; focus (first | (simp; done) | (simp; omega) | omega)) | (with_reducible (refine Since.trans ?_ (by with_reducible assumption))))); done)))) (first | (go_at_call 97; have _t := tok8; refine (H1.out _).mono ?_; rintro e w8 ⟨rfl, hS8⟩; have hZ := hS8.below.size; (try simp at hZ); have hT := hS8; obtain ⟨hc8, hf8, hz8, hb8⟩ := hT; (try (have hq8_w0_0 := hz8 (w0.heap.size) (by first | with_reducible assumption | (simp; done) | (simp; omega)); have hp8_w0_0 := Nat.ne_of_lt hq8_w0_0; have hl8_w0_0 := Nat.le_of_lt hq8_w0_0)); (try (have hq8_w0_1 := hz8 (w0.heap.size + 1) (by first | with_reducible assumption | (simp; done) | (simp; omega)); have hp8_w0_1 := Nat.ne_of_lt hq8_w0_1; have hl8_w0_1 := Nat.le_of_lt hq8_w0_1)); clear tok8) | (go_at_call 97; have _t := tok9; refine (H2.out _).mono ?_; rintro e w9 ⟨rfl, hS9⟩; have hZ := hS9.below.size; (try simp at hZ); have hT := hS9; obtain ⟨hc9, hf9, hz9, hb9⟩ := hT; (try (have hq9_w0_0 := hz9 (w0.heap.size) (by first | with_reducible assumption | (simp; done) | (simp; omega)); have hp9_w0_0 := Nat.ne_of_lt hq9_w0_0; have hl9_w0_0 := Nat.le_of_lt hq9_w0_0)); (try (have hq9_w0_1 := hz9 (w0.heap.size + 1) (by first | with_reducible assumption | (simp; done) | (simp; omega)); have hp9_w0_1 := Nat.ne_of_lt hq9_w0_1; have hl9_w0_1 := Nat.le_of_lt hq9_w0_1)); (try (have hq9_w8_0 := hz9 (w8.heap.size) (by first | with_reducible assumption | (simp; done) | (simp; omega)); have hp9_w8_0 := Nat.ne_of_lt hq9_w8_0; have hl9_w8_0 := Nat.le_of_lt hq9_w8_0)); (try (have hq9_w8_1 := hz9 (w8.heap.size + 1) (by first | with_reducible assumption | (simp; done) | (simp; omega)); have hp9_w8_1 := Nat.ne_of_lt hq9_w8_1; have hl9_w8_1 := Nat.le_of_lt hq9_w8_1)); clear tok9)); all_goals (rename_i hHeld; have hR1 : Since wr1 _ := hHeld; obtain ⟨hcR1, hfR1, hzR1, hbR1⟩ := hHeld; subst hwr1))
    all_goals (go_wp2_with fail)
    all_goals go_meet
    all_goals ((try clear hp8_w0_0); (try clear hl8_w0_0); (try clear hp8_w0_1); (try clear hl8_w0_1); (try clear hp9_w0_0); (try clear hl9_w0_0); (try clear hp9_w0_1); (try clear hl9_w0_1); (try clear hp9_w8_0); (try clear hl9_w8_0); (try clear hp9_w8_1); (try clear hl9_w8_1))
    all_goals refine ⟨_, _, rfl, rfl, ?_, ?_, ?_, ?_, ?_, ?_⟩
    any_goals ((show _ ≤ _); first | omega | (simp; omega))
    any_goals ((show _ ≠ _); first | omega | (simp; omega))
    any_goals ((show Since _ _); (repeat (first | with_reducible (exact Since.refl _) | with_reducible assumption | with_reducible (refine Since.drew ?_) | with_reducible (refine Since.drewN ?_ _) | with_reducible (refine Since.alloc ?_ _) | (with_reducible (refine Since.setCell ?_ ?_ _); rotate_left; focus (first | (simp; done) | (simp; omega) | omega)) | (with_reducible (refine Since.trans ?_ (by with_reducible assumption))))); done)
    all_goals ((repeat (first | with_reducible assumption | (with_reducible (refine wrow _ _ ?_ _ _); first | with_reducible rfl | (simp; done)) | (with_reducible (refine wzero _ _ ?_ _); first | with_reducible rfl | (simp; done)) | with_reducible (refine wput ?_ _) | (with_reducible (refine prow _ _ ?_ _ _ _); first | with_reducible rfl | (simp; done)) | (with_reducible (refine orow _ _ ?_ _ _); first | with_reducible rfl | (simp; done)) | with_reducible (refine pput0 ?_ _ _) | with_reducible (refine oput0 ?_ _) | with_reducible (refine Row.drewN ?_ _) | with_reducible (refine Row.drew ?_) | with_reducible (refine Row.alloc ?_ _) | (with_reducible (refine Row.far ?_ ?_ _ _); rotate_left; focus (first | (simp; done) | (simp; omega) | omega)) | with_reducible (refine Row.since ?_ hS9) | with_reducible (refine Row.since ?_ hS8) | with_reducible (refine Row.since ?_ hS7) )))
  case rest =>
    obtain ⟨p, q, rfl, rfl, hp1, hq1, hpq, hS1, rP, rQ⟩ := hcut
    have hz1 := hS1.below.size
    have rA := rA.since hS1
    have rB := rB.since hS1
    have rC := rC.since hS1
    have rR := rR.since hS1
    have hS := hS.trans hS1
    clear hS1 a1 a2 a3 a4 a5 b1 b2 b3 b4 b5
    obtain ⟨b1, b2, b3, b4, b5⟩ := lcells rB
    obtain ⟨q1, q2, q3⟩ := pcells rQ
    go_wp2_with fail
    refine wp_named fun w1 hw1 => ?_
    obtain rfl := hw1
    go_cut [9] (fun z wx => ∃ r : Nat, z = .pointer (some ⟨r, 0, none⟩) ∧ w1.heap.size ≤ r ∧ Since w1 wx ∧ Row wx r 1 (Of (.int .i64 n)))
    case first =>
      clear rA rB rC rR rP rQ HN1 HN2 H1 H2
      have tok8 : True := trivial
      have tok9 : True := trivial
      (refine wp_named fun wr1 hwr1 => ?_; go_region_held3 (fun w' => (∀ b o, b < wr1.heap.size → w'.cell? ⟨b, o, none⟩ = wr1.cell? ⟨b, o, none⟩) ∧ (∀ b o, b < wr1.heap.size → w'.frozen? ⟨b, o, none⟩ = wr1.frozen? ⟨b, o, none⟩) ∧ (∀ k, k < wr1.heap.size → k < w'.heap.size) ∧ Below wr1.heap.size wr1 w') ((subst hwr1; (repeat (with_reducible (refine since_put ?_ ?_ _); rotate_left; focus (first | (simp; done) | (simp; omega) | omega))); first | assumption | (refine since_step (by assumption) ?_; first | assumption | ((repeat (first | with_reducible (exact Since.refl _) | with_reducible assumption | with_reducible (refine Since.drew ?_) | with_reducible (refine Since.drewN ?_ _) | with_reducible (refine Since.alloc ?_ _) | (with_reducible (refine Since.setCell ?_ ?_ _); rotate_left; focus (first | (simp; done) | (simp; omega) | omega)))); done)) | (refine since_step (Since.refl _) ?_; first | assumption | ((repeat (first | with_reducible (exact Since.refl _) | with_reducible assumption | with_reducible (refine Since.drew ?_) | with_reducible (refine Since.drewN ?_ _) | with_reducible (refine Since.alloc ?_ _) | (with_reducible (refine Since.setCell ?_ ?_ _); rotate_left; focus (first | (simp; done) | (simp; omega) | omega)) | (with_reducible (refine Since.trans ?_ (by with_reducible assumption))))); done)))) (first | (go_at_call 97; have _t := tok8; refine (H3.out _).mono ?_; rintro e w8 ⟨rfl, hS8⟩; have hZ := hS8.below.size; (try simp at hZ); have hT := hS8; obtain ⟨hc8, hf8, hz8, hb8⟩ := hT; (try (have hq8_w1_0 := hz8 (w1.heap.size) (by first | with_reducible assumption | (simp; done) | (simp; omega)); have hp8_w1_0 := Nat.ne_of_lt hq8_w1_0; have hl8_w1_0 := Nat.le_of_lt hq8_w1_0)); (try (have hq8_w1_1 := hz8 (w1.heap.size + 1) (by first | with_reducible assumption | (simp; done) | (simp; omega)); have hp8_w1_1 := Nat.ne_of_lt hq8_w1_1; have hl8_w1_1 := Nat.le_of_lt hq8_w1_1)); clear tok8) | (go_at_call 96; have _t := tok9; refine (HP1.out _).mono ?_; rintro e w9 ⟨rfl, hS9⟩; have hZ := hS9.below.size; (try simp at hZ); have hT := hS9; obtain ⟨hc9, hf9, hz9, hb9⟩ := hT; (try (have hq9_w1_0 := hz9 (w1.heap.size) (by first | with_reducible assumption | (simp; done) | (simp; omega)); have hp9_w1_0 := Nat.ne_of_lt hq9_w1_0; have hl9_w1_0 := Nat.le_of_lt hq9_w1_0)); (try (have hq9_w1_1 := hz9 (w1.heap.size + 1) (by first | with_reducible assumption | (simp; done) | (simp; omega)); have hp9_w1_1 := Nat.ne_of_lt hq9_w1_1; have hl9_w1_1 := Nat.le_of_lt hq9_w1_1)); (try (have hq9_w8_0 := hz9 (w8.heap.size) (by first | with_reducible assumption | (simp; done) | (simp; omega)); have hp9_w8_0 := Nat.ne_of_lt hq9_w8_0; have hl9_w8_0 := Nat.le_of_lt hq9_w8_0)); (try (have hq9_w8_1 := hz9 (w8.heap.size + 1) (by first | with_reducible assumption | (simp; done) | (simp; omega)); have hp9_w8_1 := Nat.ne_of_lt hq9_w8_1; have hl9_w8_1 := Nat.le_of_lt hq9_w8_1)); clear tok9)); all_goals (rename_i hHeld; have hR1 : Since wr1 _ := hHeld; obtain ⟨hcR1, hfR1, hzR1, hbR1⟩ := hHeld; subst hwr1))
      all_goals (go_wp2_with fail)
      all_goals go_meet
      all_goals ((try clear hp8_w1_0); (try clear hl8_w1_0); (try clear hp8_w1_1); (try clear hl8_w1_1); (try clear hp9_w1_0); (try clear hl9_w1_0); (try clear hp9_w1_1); (try clear hl9_w1_1); (try clear hp9_w8_0); (try clear hl9_w8_0); (try clear hp9_w8_1); (try clear hl9_w8_1))
      all_goals refine ⟨_, rfl, ?_, ?_, ?_⟩
      any_goals ((show _ ≤ _); first | omega | (simp; omega))
      any_goals ((show Since _ _); (repeat (first | with_reducible (exact Since.refl _) | with_reducible assumption | with_reducible (refine Since.drew ?_) | with_reducible (refine Since.drewN ?_ _) | with_reducible (refine Since.alloc ?_ _) | (with_reducible (refine Since.setCell ?_ ?_ _); rotate_left; focus (first | (simp; done) | (simp; omega) | omega)) | (with_reducible (refine Since.trans ?_ (by with_reducible assumption))))); done)
      all_goals ((repeat (first | with_reducible assumption | (with_reducible (refine wrow _ _ ?_ _ _); first | with_reducible rfl | (simp; done)) | (with_reducible (refine wzero _ _ ?_ _); first | with_reducible rfl | (simp; done)) | with_reducible (refine wput ?_ _) | (with_reducible (refine prow _ _ ?_ _ _ _); first | with_reducible rfl | (simp; done)) | (with_reducible (refine orow _ _ ?_ _ _); first | with_reducible rfl | (simp; done)) | with_reducible (refine pput0 ?_ _ _) | with_reducible (refine oput0 ?_ _) | with_reducible (refine Row.drewN ?_ _) | with_reducible (refine Row.drew ?_) | with_reducible (refine Row.alloc ?_ _) | (with_reducible (refine Row.far ?_ ?_ _ _); rotate_left; focus (first | (simp; done) | (simp; omega) | omega)) | with_reducible (refine Row.since ?_ hS9) | with_reducible (refine Row.since ?_ hS8) | with_reducible (refine Row.since ?_ hS7) )))
    case rest =>
      obtain ⟨r, rfl, hr1, hS1, rN⟩ := hcut
      have hz2 := hS1.below.size
      have hpl := rP.2.2
      have rA := rA.since hS1
      have rC := rC.since hS1
      have rR := rR.since hS1
      have rP := rP.since hS1
      have rQ := rQ.since hS1
      have hS := hS.trans hS1
      clear rB hS1 b1 b2 b3 b4 b5 q1 q2 q3
      obtain ⟨p1, p2, p3⟩ := pcells rP
      obtain ⟨q1, q2, q3⟩ := pcells rQ
      go_upto_if 33 with (go_at_call 96; (with_reducible refine (HP2.out _).mono ?_); rintro e w2 ⟨rfl, hS2⟩; have rA := rA.since hS2; have rC := rC.since hS2; have rR := rR.since hS2; have rP := rP.since hS2; have rN := rN.since hS2; have hS := hS.trans hS2; have hz3 := hS2.below.size; clear rQ hS2 p1 p2 p3 q1 q2 q3; obtain ⟨c1, c2⟩ := ocell rC; obtain ⟨n1, n2⟩ := ocell rN; have cF := rC.2.1 0; have nF := rN.2.1 0)
      go_cut [10] (fun z wx => ∃ N M C : Int, z = .int .i64 M ∧ Hid (crossPos ⟨ax, ay, bx, bz⟩ N M C = RES) ∧ -562949953421312 ≤ N ∧ N ≤ 562949953421312 ∧ 0 < C ∧ C ≤ 562949953421312 ∧ Since w wx ∧ Row wx w.heap.size 4 (Lf ⟨ax, ay, bx, bz⟩) ∧ Row wx (w.heap.size + 1 + 1) 1 (Of (.int .i64 C)) ∧ Row wx (w.heap.size + 1 + 1 + 1) 6 (Cf cpNone) ∧ Row wx p 2 (Pf (bx - ax) (bz - ay)) ∧ Row wx r 1 (Of (.int .i64 N)))
      case first =>
        clear HN1 HN2 H1 H2 H3 HP1 HP2
        by_cases hneg : c < 0
        · have hd : decide (c < 0) = true := decide_eq_true hneg
          go_wp2_with fail
          go_region
          all_goals (go_wp2_with fail)
          all_goals go_meet
          case rel =>
            have e1 : r ≠ w.heap.size := by omega
            have e2 : r ≠ w.heap.size + 1 + 1 := by omega
            have e3 : r ≠ w.heap.size + 1 + 1 + 1 := by omega
            have e4 : r ≠ p := by omega
            have e5 : w.heap.size + 1 + 1 ≠ p := by omega
            exact ⟨-n, -m, -c, rfl, Lib.hid (by rw [← HRES.out, if_pos hneg]), by omega, by omega, by omega, by omega, ((hS.setCell (by simp; omega) _).setCell (by simp; omega) _).drew, ((rA.far e1 0 _).far (by omega) 0 _).drew, (oput (rC.far e2 0 _) _).drew, ((rR.far e3 0 _).far (by omega) 0 _).drew, ((rP.far e4 0 _).far e5 0 _).drew, ((oput rN _).far (by omega) 0 _).drew⟩
        · have hd : decide (c < 0) = false := decide_eq_false hneg
          go_wp2_with fail
          all_goals go_meet
          case rel => exact ⟨n, m, c, rfl, Lib.hid (by rw [← HRES.out, if_neg (by omega)]), hnB.1, hnB.2, by omega, hcB.2, hS, rA, rC, rR, rP, rN⟩
      case rest =>
        obtain ⟨N, M, C, rfl, hE, hN1, hN2, hC1, hC2, hS, rA, rC, rR, rP, rN⟩ := hcut
        obtain ⟨a1, a2, a3, a4, a5⟩ := lcells rA
        obtain ⟨p1, p2, p3⟩ := pcells rP
        obtain ⟨c1, c2⟩ := ocell rC
        obtain ⟨n1, n2⟩ := ocell rN
        obtain ⟨r1, r2, r3, r4, r5, r6, r7⟩ := ccells rR
        have rF := rR.2.1
        have f0 := rF 0; have f1 := rF 1; have f2 := rF 2; have f3 := rF 3; have f4 := rF 4; have f5 := rF 5
        unfold cpNone at r1 r2 r3 r4 r5 r6
        simp only at r1 r2 r3 r4 r5 r6
        clear rF
        have hcases : (decide (N < 0) = true ∧ in01 N M C = false) ∨ (decide (N < 0) = false ∧ decide (C < N) = true ∧ in01 N M C = false) ∨ (decide (N < 0) = false ∧ decide (C < N) = false ∧ decide (M < 0) = true ∧ in01 N M C = false) ∨ (decide (N < 0) = false ∧ decide (C < N) = false ∧ decide (M < 0) = false ∧ decide (C < M) = true ∧ in01 N M C = false) ∨ (decide (N < 0) = false ∧ decide (C < N) = false ∧ decide (M < 0) = false ∧ decide (C < M) = false ∧ in01 N M C = true) := by
          exact in01_cases N M C
        rcases hcases with ⟨d1, hin⟩ | ⟨d1, d2, hin⟩ | ⟨d1, d2, d3, hin⟩ | ⟨d1, d2, d3, d4, hin⟩ | ⟨d1, d2, d3, d4, hin⟩
        rotate_left 4
        · have hE2 := hE.out
          have hin0 := hin
          unfold crossPos at hE2
          rw [hin, if_pos rfl] at hE2
          have HE := Lib.hid hE2
          clear hE2 hE hin HN1 HN2 H1 H2 H3 HP1 HP2
          have hb0 := in01_iff.1 hin0
          have bX := along_in ax bx N C (by omega) (by omega) (by omega) (by omega) hb0.1 hb0.2.1
          have bY := along_in ay bz N C (by omega) (by omega) (by omega) (by omega) hb0.1 hb0.2.1
          have HX := Lib.hid (along_hid ax (bx - ax) C N (w.heap.size + 1 + 1) r (by unfold InW; omega) (by unfold InW; omega) (by unfold InW; omega) (by unfold InW; omega) bX)
          have HY := Lib.hid (along_hid ay (bz - ay) C N (w.heap.size + 1 + 1) r (by unfold InW; omega) (by unfold InW; omega) (by unfold InW; omega) (by unfold InW; omega) bY)
          have hOC : OneAt wc.drew (w.heap.size + 1 + 1) (.int .i64 C) := ⟨c1, c2⟩
          have hON : OneAt wc.drew r (.int .i64 N) := ⟨n1, n2⟩
          have e1 : p ≠ w.heap.size + 1 + 1 + 1 := by omega
          have e2 : w.heap.size ≠ w.heap.size + 1 + 1 + 1 := by omega
          have e3 : w.heap.size + 1 + 1 ≠ w.heap.size + 1 + 1 + 1 := by omega
          clear bX bY hb0 hin0 k1 k2 k3 k4 hnB hmB hcB hN1 hN2 hC1 hC2 rP rC rA hp1 hq1 hpq hz1 hz2 hz3
          have HE3 : Hid ((⟨1, ax * C + (bx - ax) * N, ay * C + (bz - ay) * N, C⟩ : Cp) = RES) := HE
          clear HE
          generalize ax * C + (bx - ax) * N = X at *
          generalize ay * C + (bz - ay) * N = Y at *
          go_wp2_with fail
          have tok8 : True := trivial
          have tok9 : True := trivial
          (refine wp_named fun wr1 hwr1 => ?_; go_region_held3 (fun w' => (∀ b o, b < wr1.heap.size → b ≠ (w.heap.size + 1 + 1 + 1) → w'.cell? ⟨b, o, none⟩ = wr1.cell? ⟨b, o, none⟩) ∧ (∀ b o, b < wr1.heap.size → w'.frozen? ⟨b, o, none⟩ = wr1.frozen? ⟨b, o, none⟩) ∧ (∀ k, k < wr1.heap.size → k < w'.heap.size) ∧ Since w w' ∧ (∀ o, o < 6 → w'.cell? ⟨(w.heap.size + 1 + 1 + 1), o, none⟩ = some (cellD w' ((w.heap.size + 1 + 1 + 1)) o))) ((subst hwr1; (repeat with_reducible (refine sx_set (by omega) ?_ _ _)); first | with_reducible assumption | (refine sx_step (by first | assumption | omega | (simp; done) | (simp; omega)) (by with_reducible assumption) ?_; first | with_reducible assumption | (repeat (first | with_reducible (exact Since.refl _) | with_reducible assumption | with_reducible (refine Since.drew ?_) | with_reducible (refine Since.drewN ?_ _) | with_reducible (refine Since.alloc ?_ _) | (with_reducible (refine Since.setCell ?_ ?_ _); rotate_left; focus (first | (simp; done) | (simp; omega) | omega))))) | (refine sx_step (by first | assumption | omega | (simp; done) | (simp; omega)) (sx_start (by (repeat (first | with_reducible (exact Since.refl _) | with_reducible assumption | with_reducible (refine Since.drew ?_) | with_reducible (refine Since.drewN ?_ _) | with_reducible (refine Since.alloc ?_ _) | (with_reducible (refine Since.setCell ?_ ?_ _); rotate_left; focus (first | (simp; done) | (simp; omega) | omega)) | (with_reducible (refine Since.trans ?_ (by with_reducible assumption)))))) (fun o ho => by (have ho' : o = 0 ∨ o = 1 ∨ o = 2 ∨ o = 3 ∨ o = 4 ∨ o = 5 := by omega); rcases ho' with rfl | rfl | rfl | rfl | rfl | rfl <;> (first | (simp [go_sem]; done) | simp_all))) ?_; first | with_reducible assumption | (repeat (first | with_reducible (exact Since.refl _) | with_reducible assumption | with_reducible (refine Since.drew ?_) | with_reducible (refine Since.drewN ?_ _) | with_reducible (refine Since.alloc ?_ _) | (with_reducible (refine Since.setCell ?_ ?_ _); rotate_left; focus (first | (simp; done) | (simp; omega) | omega))))))) (first | (go_at_call 125; have _t := tok8; (with_reducible refine (HX.out _ (by first | exact hOC9 | exact hOC) (by first | exact hON9 | exact hON)).mono ?_); rintro e w8 ⟨rfl, hS8⟩; have hOC8 := OneAt.since (by first | exact hOC9 | exact hOC) hS8; have hON8 := OneAt.since (by first | exact hON9 | exact hON) hS8; have hZ := hS8.below.size; (try simp at hZ); clear tok8) | (go_at_call 125; have _t := tok9; (with_reducible refine (HY.out _ (by first | exact hOC8 | exact hOC) (by first | exact hON8 | exact hON)).mono ?_); rintro e w9 ⟨rfl, hS9⟩; have hOC9 := OneAt.since (by first | exact hOC8 | exact hOC) hS9; have hON9 := OneAt.since (by first | exact hON8 | exact hON) hS9; have hZ := hS9.below.size; (try simp at hZ); clear tok9)); all_goals (rename_i hHeld; obtain ⟨hcR1, hfR1, hzR1, hR1, hoR1⟩ := hHeld; have hiR := fun o ho => there_of (hoR1 o ho); (try simp only [there_set] at hiR); clear hoR1; subst hwr1))
          all_goals go_wp2
          all_goals refine ret_agg (P := Tryz.prog) Tryz.results98 rfl (cp_stored hiR ⟨1, X, Y, C⟩) Tryz.underlying117 rfl (by kernel_rfl) rfl ⟨by rw [← HE3.out]; rfl, ?_⟩
          all_goals ((repeat (first | with_reducible (exact Since.refl _) | with_reducible assumption | with_reducible (refine Since.drew ?_) | with_reducible (refine Since.drewN ?_ _) | with_reducible (refine Since.alloc ?_ _) | (with_reducible (refine Since.setCell ?_ ?_ _); rotate_left; focus (first | (simp; done) | (simp; omega) | omega)) | (with_reducible (refine Since.trans ?_ (by with_reducible assumption))))))
        all_goals
          have hE2 := hE.out
          unfold crossPos at hE2
          rw [hin, if_neg (by simp)] at hE2
          have HE := Lib.hid hE2
          clear hE2 hE hin HN1 HN2 H1 H2 H3 HP1 HP2
          go_wp2
          refine ret_agg (P := Tryz.prog) Tryz.results98 rfl (cp_range (cput rR cpNone)) Tryz.underlying117 rfl (by kernel_rfl) rfl ⟨by rw [← HE.out]; rfl, ?_⟩
          (repeat (first | with_reducible (exact Since.refl _) | with_reducible assumption | with_reducible (refine Since.drew ?_) | with_reducible (refine Since.drewN ?_ _) | with_reducible (refine Since.alloc ?_ _) | (with_reducible (refine Since.setCell ?_ ?_ _); rotate_left; focus (first | (simp; done) | (simp; omega) | omega)) | (with_reducible (refine Since.trans ?_ (by with_reducible assumption)))))
end Go.Proofs.YtcfghkphkmoikaaGreat

/-
  Points as keys of a map.
-/
namespace Go.Proofs.YtcfghkphkmoikaaGreat
set_option maxRecDepth 100000
open Go.RowKit Go.Maps
set_option linter.unusedVariables false

theorem laidOut0 : laidOutB Tryz.prog = true := by kernel_rfl
theorem rowPt : (23 : TypeId) < Tryz.prog.types.size := of_decide_eq_true (by kernel_rfl)
theorem widePt : (match Tryz.prog.underlying 23 with | some (.array _ _) | some (.struct _) => true | _ => false) = true := by kernel_rfl
set_option maxRecDepth 100000 in
theorem lawPt : Keyed Tryz.prog 23 := Keyed.of_law (deep_law_laid laidOut0 (m := 2) (by omega) rowPt (by kernel_rfl) widePt)
theorem keyPt : Tryz.prog.keyType 23 = true := by kernel_rfl
theorem cellsPt : Tryz.prog.cellsOf 23 = 2 := by kernel_rfl
theorem cellsIn : Tryz.prog.cellsOf 3 = 1 := by kernel_rfl
theorem sizeTy : ∃ n, Tryz.prog.types.size = n + 1 := Nat.exists_eq_succ_of_ne_zero (fun h => by have := rowPt; rw [h] at this; exact absurd this (Nat.not_lt_zero _))
/-- A point as a key. -/
def kP (x y : Int) : Lit := .string (keyBytes [.int .i64 x, .int .i64 y])
theorem lits_int {d : Nat} {n : Int} (h : (Lit.int .i64 n).wf = true) : Tryz.prog.keyLits (d + 1) 3 [.int .i64 n] = some [.int .i64 n] := by
  simp [Program.keyLits, Tryz.underlying3, h]
theorem keyOf_pt {x y : Int} (hx : (Lit.int .i64 x).wf = true) (hy : (Lit.int .i64 y).wf = true) : keyOf Tryz.prog 23 (Pt x y) = some (kP x y) := by
  obtain ⟨n, hn⟩ := sizeTy
  have hu := Tryz.underlying23
  unfold keyOf
  rw [hu]
  have hf : (Pt x y).formed Tryz.prog 23 = true := by
    unfold Pt
    simp [Value.formed, hu, cellsPt]
  have hl : Tryz.prog.keyLits (Tryz.prog.types.size + 1) 23 (Pt x y).cells.toList = some [.int .i64 x, .int .i64 y] := by
    rw [hn]
    unfold Pt
    simp only [Program.keyLits, hu, Value.cells, cellsPt]
    simp [cellsIn, Tryz.underlying3, hx, hy]
  simp only [keyPt, hf, hl]
  rfl
theorem wf_of64 {x : Int} (h : In64 x) : (Lit.int .i64 x).wf = true := WalkArith.wf_i64 (by unfold In64 at h; omega)
theorem kP_key {x y : Int} (hx : (Lit.int .i64 x).wf = true) (hy : (Lit.int .i64 y).wf = true) : WideAt.IsKeyLit (kP x y) := lawPt.key (keyOf_pt hx hy)
theorem kP_inj {x y u v : Int} (hx : (Lit.int .i64 x).wf = true) (hy : (Lit.int .i64 y).wf = true) (hu : (Lit.int .i64 u).wf = true) (hv : (Lit.int .i64 v).wf = true) (h : kP x y = kP u v) : x = u ∧ y = v := by
  have e := lawPt.inj (keyOf_pt hx hy) (h ▸ keyOf_pt hu hv)
  unfold Pt at e
  simpa using e
set_option maxRecDepth 100000 in
theorem keyOf_pt_inv {v : Value} {kl : Lit} (h : keyOf Tryz.prog 23 v = some kl) : ∃ x y : Int, v = Pt x y ∧ kl = kP x y ∧ (Lit.int .i64 x).wf = true ∧ (Lit.int .i64 y).wf = true := by
  obtain ⟨n, hn⟩ := sizeTy
  have hu := Tryz.underlying23
  have h0 := h
  unfold keyOf at h
  rw [hu] at h
  simp only [keyPt, Bool.true_and] at h
  split at h
  · rename_i hf
    cases v <;> simp [Value.formed, hu] at hf
    rename_i cs
    rw [cellsPt] at hf
    obtain ⟨l⟩ := cs
    match l, hf with
    | [c0, c1], _ =>
      rw [hn] at h
      simp only [Program.keyLits, hu, Value.cells, cellsPt] at h
      cases c0 <;> first | (simp [cellsIn, Tryz.underlying3] at h; done) | skip
      cases c1 <;> first | (simp [cellsIn, Tryz.underlying3] at h; done) | skip
      rename_i q x r y hy
      simp [cellsIn, Tryz.underlying3] at h
      by_cases c : q = .i64 ∧ (Lit.int .i64 x).wf = true
      · by_cases c' : r = .i64 ∧ (Lit.int .i64 y).wf = true
        · obtain ⟨rfl, wx⟩ := c
          obtain ⟨rfl, wy⟩ := c'
          have hk := keyOf_pt wx wy
          exact ⟨x, y, rfl, Option.some.inj (h0.symm.trans hk), wx, wy⟩
        · rw [if_pos c, if_neg c'] at h; simp at h
      · rw [if_neg c] at h; simp at h
  · cases h
/-- The keys of a list of points. -/
def kL (L : List (Int × Int)) : List Lit := L.map fun e => kP e.1 e.2
def WfL (L : List (Int × Int)) : Prop := ∀ e ∈ L, (Lit.int .i64 e.1).wf = true ∧ (Lit.int .i64 e.2).wf = true
theorem kL_key {L : List (Int × Int)} (h : WfL L) : ∀ x ∈ kL L, WideAt.IsKeyLit x := by
  intro x hx
  obtain ⟨e, he, rfl⟩ := List.mem_map.1 hx
  exact kP_key (h e he).1 (h e he).2
theorem mem_addKey {L : List Lit} {x y : Lit} (h : x ∈ L ∨ x = y) : x ∈ addKey L y := by
  unfold addKey
  split
  · rename_i ha
    rcases h with h | rfl
    · exact h
    · obtain ⟨z, hz, hs⟩ := List.any_eq_true.1 ha
      rw [← WideAt.sameKey_eq hs]
      exact hz
  · rcases h with h | rfl
    · exact List.mem_append_left _ h
    · simp
theorem mem_addKeys : ∀ (xs L : List Lit) (x : Lit), (x ∈ L ∨ x ∈ xs) → x ∈ xs.foldl addKey L
  | [], L, x, h => by simpa using h
  | y :: r, L, x, h => by
    rw [List.foldl_cons]
    refine mem_addKeys r _ x ?_
    rcases h with h | h
    · exact .inl (mem_addKey (.inl h))
    · rcases List.mem_cons.1 h with rfl | h
      · exact .inl (mem_addKey (.inr rfl))
      · exact .inr h
theorem all_addKeys {k : Lit} (hk : WideAt.IsKeyLit k) : ∀ xs : List Lit, (∀ x ∈ xs, x = k) → xs.foldl addKey [k] = [k]
  | [], _ => rfl
  | y :: r, h => by
    rw [List.foldl_cons, h y (by simp)]
    have e : addKey [k] k = [k] := by unfold addKey; simp [WideAt.sameKey_self hk]
    rw [e]
    exact all_addKeys hk r (fun x hx => h x (by simp [hx]))
theorem two_mem {L : List Lit} {a b : Lit} (ha : a ∈ L) (hb : b ∈ L) (hne : a ≠ b) : 2 ≤ L.length := by
  match L, ha, hb with
  | [x], ha, hb => simp at ha hb; exact absurd (ha.trans hb.symm) hne
  | x :: y :: r, _, _ => simp
section
variable {u : DataW Unit} {L : List (Int × Int)}
/-- How many different points there are: none, one, more. -/
theorem size_one {e : Int × Int} (h : WfL L) (he : e ∈ L) (hall : ∀ x ∈ L, x = e) : Maps.size (setOf u (kL L)) = 1 := by
  rw [size_setOf u _ (kL_key h)]
  cases L with
  | nil => cases he
  | cons a r =>
    have ha := hall a (by simp)
    subst ha
    show ((r.map fun e => kP e.1 e.2).foldl addKey (addKey [] (kP a.1 a.2))).length = 1
    have e1 : addKey [] (kP a.1 a.2) = [kP a.1 a.2] := rfl
    rw [e1, all_addKeys (kP_key (h a (by simp)).1 (h a (by simp)).2) _ (fun x hx => by
      obtain ⟨y, hy, rfl⟩ := List.mem_map.1 hx
      rw [hall y (by simp [hy])])]
    rfl
theorem size_two {e f : Int × Int} (h : WfL L) (he : e ∈ L) (hf : f ∈ L) (hne : e ≠ f) : 2 ≤ Maps.size (setOf u (kL L)) := by
  rw [size_setOf u _ (kL_key h)]
  refine two_mem (a := kP e.1 e.2) (b := kP f.1 f.2) (mem_addKeys _ _ _ (.inr (List.mem_map.2 ⟨e, he, rfl⟩))) (mem_addKeys _ _ _ (.inr (List.mem_map.2 ⟨f, hf, rfl⟩))) (fun hh => hne ?_)
  obtain ⟨h1, h2⟩ := kP_inj (h e he).1 (h e he).2 (h f hf).1 (h f hf).2 hh
  exact Prod.ext h1 h2
theorem size_nil : Maps.size (setOf u (kL [])) = 0 := rfl
theorem has_kL {x y : Int} (h : WfL L) (hx : (Lit.int .i64 x).wf = true) (hy : (Lit.int .i64 y).wf = true) : Maps.has (setOf u (kL L)) (kP x y) = true ↔ (x, y) ∈ L := by
  rw [has_setOf u _ _ (kL_key h), List.any_eq_true]
  constructor
  · rintro ⟨z, hz, hs⟩
    obtain ⟨e, he, rfl⟩ := List.mem_map.1 hz
    obtain ⟨h1, h2⟩ := kP_inj (h e he).1 (h e he).2 hx hy (WideAt.sameKey_eq hs)
    rw [← h1, ← h2]
    exact he
  · exact fun hh => ⟨kP x y, List.mem_map.2 ⟨(x, y), hh, rfl⟩, WideAt.sameKey_self (kP_key hx hy)⟩
end
theorem Row.grown {w w' : World} {b n B : Nat} {f : Nat → Value} (h : Row w b n f) (hg : w.grownBy w' (some B)) (hb : b ≠ B) : Row w' b n f := by
  have e := hg.block b h.2.2 (by simpa using hb)
  refine ⟨fun j hj => ?_, fun j => ?_, Nat.lt_of_lt_of_le h.2.2 hg.size⟩
  · rw [← h.1 j hj]; simp only [World.cell?, e]
  · rw [← h.2.1 j]; simp only [World.frozen?, e]
end Go.Proofs.YtcfghkphkmoikaaGreat

/-
  Layer 15: 'touching', walked.
-/
namespace Go.Proofs.YtcfghkphkmoikaaGreat
set_option maxRecDepth 100000
open Go.RowKit Go.Maps
set_option linter.unusedVariables false

def pts (b : Bool) (x y : Int) : List (Int × Int) := if b then [(x, y)] else []
theorem ends_pts (s t : Ln) : ends s t = pts (onB s.ax s.ay t) s.ax s.ay ++ pts (onB s.bx s.bz t) s.bx s.bz ++ pts (onB t.ax t.ay s) t.ax t.ay ++ pts (onB t.bx t.bz s) t.bx t.bz := rfl
set_option maxRecDepth 100000 in
theorem ix0 (a b c d e f g h i j k l m n o p : Value) (w : World) : (Instr.index 188 (.agg #[a, b, c, d, e, f, g, h, i, j, k, l, m, n, o, p]) (.int .i64 0)).run Tryz.prog w = .ok (.agg #[a, b, c, d, e, f, g, h]) w := by rfl
set_option maxRecDepth 100000 in
theorem ix1 (a b c d e f g h i j k l m n o p : Value) (w : World) : (Instr.index 188 (.agg #[a, b, c, d, e, f, g, h, i, j, k, l, m, n, o, p]) (.int .i64 1)).run Tryz.prog w = .ok (.agg #[i, j, k, l, m, n, o, p]) w := by rfl
set_option maxRecDepth 100000 in
theorem iy0 (a b c d : Value) (w : World) : (Instr.index 52 (.agg #[a, b, c, d]) (.int .i64 0)).run Tryz.prog w = .ok (.agg #[a, b]) w := by rfl
set_option maxRecDepth 100000 in
theorem iy1 (a b c d : Value) (w : World) : (Instr.index 52 (.agg #[a, b, c, d]) (.int .i64 1)).run Tryz.prog w = .ok (.agg #[c, d]) w := by rfl
theorem map_since {P : Program} {k : TypeId} {R : Value → Option (DataW Unit × List MemPlace)} {b n : Nat} {D : DataW Unit} {w w' : World} (h : w.ownsMap P k R b n D) (s : Since w w') : w'.ownsMap P k R b n D := by
  have hlt := h.lt
  obtain ⟨es, clock, hb, r⟩ := h
  exact ⟨es, clock, by rw [s.below.block b hlt]; exact hb, r⟩
/-- The map holds these points. -/
def MapOf (w : World) (b n : Nat) (L : List (Int × Int)) : Prop := w.ownsMap Tryz.prog 23 (unitElem (H := Unit)) b n (setOf (.agg []) (kL L))
theorem map_made (w : World) (b : Nat) (hb : b = w.heap.size) : MapOf (w.alloc (.map #[] 0)) b 0 [] := by
  subst hb
  exact World.ownsMap_made _ _ _ _
theorem MapOf.since {w w' : World} {b n : Nat} {L : List (Int × Int)} (h : MapOf w b n L) (s : Since w w') : MapOf w' b n L := map_since h s
/-- A pair of lines in memory. -/
def Xf (s t : Ln) (j : Nat) : Value := if j < 4 then Lf s j else Lf t (j - 4)
theorem xrow (w : World) (b : Nat) (hb : b = w.heap.size) (ty : TypeId) (s t : Ln) : Row (w.alloc (.cells #[.int .i64 s.ax, .int .i64 s.ay, .int .i64 s.bx, .int .i64 s.bz, .int .i64 t.ax, .int .i64 t.ay, .int .i64 t.bx, .int .i64 t.bz] ty)) b 8 (Xf s t) := by
  subst hb
  refine Row.of_cells fun j hj => ?_
  have h : j = 0 ∨ j = 1 ∨ j = 2 ∨ j = 3 ∨ j = 4 ∨ j = 5 ∨ j = 6 ∨ j = 7 := by omega
  rcases h with rfl | rfl | rfl | rfl | rfl | rfl | rfl | rfl <;> rfl
theorem xcells {w : World} {b : Nat} {s t : Ln} (h : Row w b 8 (Xf s t)) : w.cell? ⟨b, 4, none⟩ = some (.int .i64 t.ax) ∧ w.cell? ⟨b, 5, none⟩ = some (.int .i64 t.ay) ∧ w.cell? ⟨b, 6, none⟩ = some (.int .i64 t.bx) ∧ w.cell? ⟨b, 7, none⟩ = some (.int .i64 t.bz) ∧ b < w.heap.size := ⟨h.1 4 (by omega), h.1 5 (by omega), h.1 6 (by omega), h.1 7 (by omega), h.2.2⟩
theorem zero97 (w : World) : (zeroValue 111).run Tryz.prog w = .ok (.agg #[]) w := by kernel_rfl
theorem wf_good {x y : Int} (h : goodB x y = true) : (Lit.int .i64 x).wf = true ∧ (Lit.int .i64 y).wf = true := by
  have := goodB_iff.1 h
  exact ⟨wf_of64 (by unfold In64; omega), wf_of64 (by unfold In64; omega)⟩
theorem kL_snoc (L : List (Int × Int)) (x y : Int) : setOf (H := Unit) (.agg []) (kL (L ++ [(x, y)])) = (setOf (.agg []) (kL L)).put (kP x y) (.agg []) := by
  unfold kL
  rw [List.map_append, List.map_singleton, setOf_snoc]
theorem wfl_pts (b : Bool) {x y : Int} (h : goodB x y = true) : WfL (pts b x y) := by
  intro e he
  cases b
  · cases he
  · obtain rfl : e = (x, y) := by simpa [pts] using he
    exact wf_good h
theorem wfl_nil : WfL [] := fun _ h => by cases h
theorem WfL.app {L M : List (Int × Int)} (h : WfL L) (k : WfL M) : WfL (L ++ M) := fun e he => by
  rcases List.mem_append.1 he with he | he
  · exact h e he
  · exact k e he
theorem inw_wf {x : Int} (h : (Lit.int .i64 x).wf = true) : InW x := by
  have h : -9223372036854775808 ≤ x ∧ x ≤ 9223372036854775807 := by simpa [Lit.wf, IntKind.min, IntKind.max, IntKind.signed, IntKind.bits] using h
  unfold InW
  omega
theorem invK (key : Value) (kl : Lit) (h : keyOf Tryz.prog 23 key = some kl) : ∃ x : Int × Int, key = Pt x.1 x.2 := by
  obtain ⟨x, y, h, _⟩ := keyOf_pt_inv h
  exact ⟨(x, y), h⟩
theorem invV (v : Value) (y : DataW Unit × List MemPlace) (h : unitElem v = some y) : ∃ c : Unit, v = (fun _ => Value.agg #[]) c := ⟨(), (unitElem_inv h).1⟩
theorem mem_of_left {L : List (Int × Int)} (hL : WfL L) {x : Int × Int} {kl : Lit} (h : keyOf Tryz.prog 23 (Pt x.1 x.2) = some kl) (hl : Maps.has (setOf (H := Unit) (.agg []) (kL L)) kl = true) : x ∈ L := by
  obtain ⟨u, v, e, rfl, w1, w2⟩ := keyOf_pt_inv h
  unfold Pt at e
  obtain ⟨e1, e2⟩ : x.1 = u ∧ x.2 = v := by simpa using e
  subst e1 e2
  exact (has_kL hL w1 w2).1 hl
set_option maxRecDepth 100000 in
set_option maxHeartbeats 16000000 in
theorem cr_touching_x (ax ay bx bz cx cy dx dz : Int) (o1 o2 o3 o4 : Bool) (hg1 : goodB ax ay = true) (hg2 : goodB bx bz = true) (hg3 : goodB cx cy = true) (hg4 : goodB dx dz = true)
    (ho1 : ∀ w, Calls Tryz.prog 128 #[.agg #[.int .i64 ax, .int .i64 ay], .agg #[.int .i64 cx, .int .i64 cy, .int .i64 dx, .int .i64 dz]] w fun e w' => e = .returned (.bool o1) ∧ Since w w')
    (ho2 : ∀ w, Calls Tryz.prog 128 #[.agg #[.int .i64 bx, .int .i64 bz], .agg #[.int .i64 cx, .int .i64 cy, .int .i64 dx, .int .i64 dz]] w fun e w' => e = .returned (.bool o2) ∧ Since w w')
    (ho3 : ∀ w, Calls Tryz.prog 128 #[.agg #[.int .i64 cx, .int .i64 cy], .agg #[.int .i64 ax, .int .i64 ay, .int .i64 bx, .int .i64 bz]] w fun e w' => e = .returned (.bool o3) ∧ Since w w')
    (ho4 : ∀ w, Calls Tryz.prog 128 #[.agg #[.int .i64 dx, .int .i64 dz], .agg #[.int .i64 ax, .int .i64 ay, .int .i64 bx, .int .i64 bz]] w fun e w' => e = .returned (.bool o4) ∧ Since w w')
    (RV : Value) (hres : (touchOf (pts o1 ax ay ++ pts o2 bx bz ++ pts o3 cx cy ++ pts o4 dx dz)).v = RV) (w : World) :
    Calls Tryz.prog 99 #[.agg #[.int .i64 ax, .int .i64 ay, .int .i64 bx, .int .i64 bz], .agg #[.int .i64 cx, .int .i64 cy, .int .i64 dx, .int .i64 dz]] w fun e w' => e = .returned RV ∧ Since w w' := by
  have hmm := @run_makeMap Tryz.prog
  have hi0 := ix0
  have hi1 := ix1
  have hj0 := iy0
  have hj1 := iy1
  have HRES := Lib.hid hres
  have HO1 := Lib.hid ho1
  have HO2 := Lib.hid ho2
  have HO3 := Lib.hid ho3
  have HO4 := Lib.hid ho4
  have HK1 := Lib.hid (keyOf_pt (wf_good hg1).1 (wf_good hg1).2)
  have HK2 := Lib.hid (keyOf_pt (wf_good hg2).1 (wf_good hg2).2)
  have HK3 := Lib.hid (keyOf_pt (wf_good hg3).1 (wf_good hg3).2)
  have HK4 := Lib.hid (keyOf_pt (wf_good hg4).1 (wf_good hg4).2)
  have HG1 := Lib.hid hg1
  have HG2 := Lib.hid hg2
  have HG3 := Lib.hid hg3
  have HG4 := Lib.hid hg4
  have HX1 := Lib.hid (fun w b hb ty => xrow w b hb ty ⟨ax, ay, bx, bz⟩ ⟨cx, cy, dx, dz⟩)
  have HX2 := Lib.hid (fun w b hb ty => xrow w b hb ty ⟨cx, cy, dx, dz⟩ ⟨ax, ay, bx, bz⟩)
  clear hres ho1 ho2 ho3 ho4 hg1 hg2 hg3 hg4
  go_enter Tryz.func99, Tryz.ntmps99
  go_wp2
  refine wp_named fun w0 hw0 => ?_
  have hM : MapOf w0 (w.heap.size + 1 + 1 + 1) 0 [] := by subst hw0; exact map_made _ _ (by simp)
  have hS : Since w w0 := by subst hw0; (repeat (first | with_reducible (exact Since.refl _) | with_reducible assumption | with_reducible (refine Since.drew ?_) | with_reducible (refine Since.drewN ?_ _) | with_reducible (refine Since.alloc ?_ _) | (with_reducible (refine Since.setCell ?_ ?_ _); rotate_left; focus (first | (simp; done) | (simp; omega) | omega)) | (with_reducible (refine Since.trans ?_ (by with_reducible assumption)))))
  have rR : Row w0 (w.heap.size + 1 + 1) 6 (Cf cpNone) := by subst hw0; exact (crow0 _ _ (by simp) _).alloc _
  have hz : w.heap.size + 4 ≤ w0.heap.size := by subst hw0; simp
  clear hw0
  refine wp_loop_rounds 3 ?_
  rw [rounds_succ]
  go_wp2_with fail
  refine wp_loop_rounds 3 ?_
  rw [rounds_succ]
  go_upto_block 3 with fail
  go_cut [] (fun wx => ∃ n : Nat, n ≤ 1 ∧ MapOf wx (w.heap.size + 1 + 1 + 1) n ([] ++ pts o1 ax ay) ∧ Since w wx ∧ Row wx (w.heap.size + 1 + 1) 6 (Cf cpNone) ∧ w.heap.size + 4 ≤ wx.heap.size ∧ Row wx (w0.heap.size) 8 (Xf ⟨ax, ay, bx, bz⟩ ⟨cx, cy, dx, dz⟩))
  case first =>
    have hb0 : w.heap.size + 1 + 1 ≠ w.heap.size + 1 + 1 + 1 := by omega
    have hb1 : w0.heap.size ≠ w.heap.size + 1 + 1 + 1 := by omega
    cases o1
    · go_wp2_with (go_at_call 128; (with_reducible refine (HO1.out _).mono ?_); rintro e w1 ⟨rfl, hS1⟩; have rX := ((HX1.out w0 _ rfl _).alloc _).since hS1; have hT1 : Since w0 w1 := (by (repeat (first | with_reducible (exact Since.refl _) | with_reducible assumption | with_reducible (refine Since.drew ?_) | with_reducible (refine Since.drewN ?_ _) | with_reducible (refine Since.alloc ?_ _) | (with_reducible (refine Since.setCell ?_ ?_ _); rotate_left; focus (first | (simp; done) | (simp; omega) | omega)) | (with_reducible (refine Since.trans ?_ (by with_reducible assumption)))))); have hM := hM.since hT1; have hS := hS.trans hT1; have rR := rR.since hT1; have hz := Nat.le_trans hz hT1.below.size; clear hT1 hS1)
      go_meet
      case rel => exact ⟨_, Nat.zero_le _, by rw [show [] ++ pts false ax ay = [] ++ [] by rfl, List.append_nil]; exact hM, hS, rR, hz, rX⟩
    · go_wp2_with (first | (go_at_call 128; (with_reducible refine (HO1.out _).mono ?_); rintro e w1 ⟨rfl, hS1⟩; have rX := ((HX1.out w0 _ rfl _).alloc _).since hS1; have hE := (prow _ (w0.heap.size + 1) (by simp) _ ax ay).since hS1; obtain ⟨e1, e2, e3⟩ := pcells hE; clear hE; have hT1 : Since w0 w1 := (by (repeat (first | with_reducible (exact Since.refl _) | with_reducible assumption | with_reducible (refine Since.drew ?_) | with_reducible (refine Since.drewN ?_ _) | with_reducible (refine Since.alloc ?_ _) | (with_reducible (refine Since.setCell ?_ ?_ _); rotate_left; focus (first | (simp; done) | (simp; omega) | omega)) | (with_reducible (refine Since.trans ?_ (by with_reducible assumption)))))); have hM := hM.since hT1; have hS := hS.trans hT1; have rR := rR.since hT1; have hz := Nat.le_trans hz hT1.below.size; clear hT1 hS1) | (at_mapUpdate; refine wpList_mapUpdate_own _ rfl _ _ _ 109 rfl 23 111 lawPt Tryz.underlying109 (unitElem (H := Unit)) (w.heap.size + 1 + 1 + 1) 0 _ rfl hM (by unfold maxLen; omega) _ _ _ rfl rfl (HK1.out) _ [] unitElem_mk ?_; intro v1 hown hgr))
      go_meet
      case rel => exact ⟨_, Nat.le_refl _, by show World.ownsMap _ _ _ _ _ _ (setOf (.agg []) (kL ([] ++ [(ax, ay)]))); rw [kL_snoc]; exact hown, since_grown hS hgr (fun k hk => by injection hk with hk; omega), rR.grown hgr hb0, Nat.le_trans hz hgr.size, rX.grown hgr hb1⟩
  obtain ⟨n, hn, hM, hS, rR, hz, rX⟩ := hcut
  obtain ⟨x1, x2, x3, x4, x5⟩ := xcells rX
  go_wp2_with fail
  rw [rounds_succ]
  go_upto_block 3 with fail
  go_cut [] (fun wx => ∃ n : Nat, n ≤ 2 ∧ MapOf wx (w.heap.size + 1 + 1 + 1) n ([] ++ pts o1 ax ay ++ pts o2 bx bz) ∧ Since w wx ∧ Row wx (w.heap.size + 1 + 1) 6 (Cf cpNone) ∧ w.heap.size + 4 ≤ wx.heap.size ∧ Row wx (w0.heap.size) 8 (Xf ⟨ax, ay, bx, bz⟩ ⟨cx, cy, dx, dz⟩))
  case first =>
    have hb0 : w.heap.size + 1 + 1 ≠ w.heap.size + 1 + 1 + 1 := by omega
    have hb1 : w0.heap.size ≠ w.heap.size + 1 + 1 + 1 := by omega
    cases o2
    · go_wp2_with (go_at_call 128; (with_reducible refine (HO2.out _).mono ?_); rintro e w2 ⟨rfl, hS2⟩; have rX := (rX.alloc _).since hS2; have hT2 : Since wc w2 := (by (repeat (first | with_reducible (exact Since.refl _) | with_reducible assumption | with_reducible (refine Since.drew ?_) | with_reducible (refine Since.drewN ?_ _) | with_reducible (refine Since.alloc ?_ _) | (with_reducible (refine Since.setCell ?_ ?_ _); rotate_left; focus (first | (simp; done) | (simp; omega) | omega)) | (with_reducible (refine Since.trans ?_ (by with_reducible assumption)))))); have hM := hM.since hT2; have hS := hS.trans hT2; have rR := rR.since hT2; have hz := Nat.le_trans hz hT2.below.size; clear hT2 hS2)
      go_meet
      case rel => exact ⟨_, Nat.le_succ_of_le hn, by rw [show [] ++ pts o1 ax ay ++ pts false bx bz = [] ++ pts o1 ax ay ++ [] by rfl, List.append_nil]; exact hM, hS, rR, hz, rX⟩
    · go_wp2_with (first | (go_at_call 128; (with_reducible refine (HO2.out _).mono ?_); rintro e w2 ⟨rfl, hS2⟩; have rX := (rX.alloc _).since hS2; have hE := (prow _ wc.heap.size rfl _ bx bz).since hS2; obtain ⟨e1, e2, e3⟩ := pcells hE; clear hE; have hT2 : Since wc w2 := (by (repeat (first | with_reducible (exact Since.refl _) | with_reducible assumption | with_reducible (refine Since.drew ?_) | with_reducible (refine Since.drewN ?_ _) | with_reducible (refine Since.alloc ?_ _) | (with_reducible (refine Since.setCell ?_ ?_ _); rotate_left; focus (first | (simp; done) | (simp; omega) | omega)) | (with_reducible (refine Since.trans ?_ (by with_reducible assumption)))))); have hM := hM.since hT2; have hS := hS.trans hT2; have rR := rR.since hT2; have hz := Nat.le_trans hz hT2.below.size; clear hT2 hS2) | (at_mapUpdate; refine wpList_mapUpdate_own _ rfl _ _ _ 109 rfl 23 111 lawPt Tryz.underlying109 (unitElem (H := Unit)) (w.heap.size + 1 + 1 + 1) n _ rfl hM (by unfold maxLen; omega) _ _ _ rfl rfl (HK2.out) _ [] unitElem_mk ?_; intro v2 hown hgr))
      go_meet
      case rel => exact ⟨_, Nat.succ_le_succ hn, by show World.ownsMap _ _ _ _ _ _ (setOf (.agg []) (kL ([] ++ pts o1 ax ay ++ [(bx, bz)]))); rw [kL_snoc]; exact hown, since_grown hS hgr (fun k hk => by injection hk with hk; omega), rR.grown hgr hb0, Nat.le_trans hz hgr.size, rX.grown hgr hb1⟩
  obtain ⟨n, hn, hM, hS, rR, hz, rX⟩ := hcut
  clear rX
  go_wp2_with fail
  rw [rounds_succ]
  go_wp2_with fail
  rw [rounds_succ]
  go_wp2_with fail
  refine wp_named fun wn hwn => ?_
  have rX : Row wn wc.heap.size 8 (Xf ⟨cx, cy, dx, dz⟩ ⟨ax, ay, bx, bz⟩) := by subst hwn; exact HX2.out wc _ rfl _
  have hT : Since wc wn := by subst hwn; (repeat (first | with_reducible (exact Since.refl _) | with_reducible assumption | with_reducible (refine Since.drew ?_) | with_reducible (refine Since.drewN ?_ _) | with_reducible (refine Since.alloc ?_ _) | (with_reducible (refine Since.setCell ?_ ?_ _); rotate_left; focus (first | (simp; done) | (simp; omega) | omega)) | (with_reducible (refine Since.trans ?_ (by with_reducible assumption)))))
  have hM := hM.since hT
  have hS := hS.trans hT
  have rR := rR.since hT
  have hz9 := Nat.le_trans hz hT.below.size
  clear hT hwn
  generalize wc.heap.size = xb at *
  obtain ⟨x1, x2, x3, x4, x5⟩ := xcells rX
  refine wp_loop_rounds 3 ?_
  rw [rounds_succ]
  go_upto_block 3 with fail
  go_cut [] (fun wx => ∃ n : Nat, n ≤ 3 ∧ MapOf wx (w.heap.size + 1 + 1 + 1) n ([] ++ pts o1 ax ay ++ pts o2 bx bz ++ pts o3 cx cy) ∧ Since w wx ∧ Row wx (w.heap.size + 1 + 1) 6 (Cf cpNone) ∧ w.heap.size + 4 ≤ wx.heap.size ∧ Row wx (xb) 8 (Xf ⟨cx, cy, dx, dz⟩ ⟨ax, ay, bx, bz⟩))
  case first =>
    have hb0 : w.heap.size + 1 + 1 ≠ w.heap.size + 1 + 1 + 1 := by omega
    have hb1 : xb ≠ w.heap.size + 1 + 1 + 1 := by omega
    cases o3
    · go_wp2_with (go_at_call 128; (with_reducible refine (HO3.out _).mono ?_); rintro e w3 ⟨rfl, hS3⟩; have rX := (rX.alloc _).since hS3; have hT3 : Since wn w3 := (by (repeat (first | with_reducible (exact Since.refl _) | with_reducible assumption | with_reducible (refine Since.drew ?_) | with_reducible (refine Since.drewN ?_ _) | with_reducible (refine Since.alloc ?_ _) | (with_reducible (refine Since.setCell ?_ ?_ _); rotate_left; focus (first | (simp; done) | (simp; omega) | omega)) | (with_reducible (refine Since.trans ?_ (by with_reducible assumption)))))); have hM := hM.since hT3; have hS := hS.trans hT3; have rR := rR.since hT3; have hz := Nat.le_trans hz9 hT3.below.size; clear hT3 hS3)
      go_meet
      case rel => exact ⟨_, Nat.le_succ_of_le hn, by rw [show [] ++ pts o1 ax ay ++ pts o2 bx bz ++ pts false cx cy = [] ++ pts o1 ax ay ++ pts o2 bx bz ++ [] by rfl, List.append_nil]; exact hM, hS, rR, hz, rX⟩
    · go_wp2_with (first | (go_at_call 128; (with_reducible refine (HO3.out _).mono ?_); rintro e w3 ⟨rfl, hS3⟩; have rX := (rX.alloc _).since hS3; have hE := (prow _ wn.heap.size rfl _ cx cy).since hS3; obtain ⟨e1, e2, e3⟩ := pcells hE; clear hE; have hT3 : Since wn w3 := (by (repeat (first | with_reducible (exact Since.refl _) | with_reducible assumption | with_reducible (refine Since.drew ?_) | with_reducible (refine Since.drewN ?_ _) | with_reducible (refine Since.alloc ?_ _) | (with_reducible (refine Since.setCell ?_ ?_ _); rotate_left; focus (first | (simp; done) | (simp; omega) | omega)) | (with_reducible (refine Since.trans ?_ (by with_reducible assumption)))))); have hM := hM.since hT3; have hS := hS.trans hT3; have rR := rR.since hT3; have hz := Nat.le_trans hz9 hT3.below.size; clear hT3 hS3) | (at_mapUpdate; refine wpList_mapUpdate_own _ rfl _ _ _ 109 rfl 23 111 lawPt Tryz.underlying109 (unitElem (H := Unit)) (w.heap.size + 1 + 1 + 1) n _ rfl hM (by unfold maxLen; omega) _ _ _ rfl rfl (HK3.out) _ [] unitElem_mk ?_; intro v3 hown hgr))
      go_meet
      case rel => exact ⟨_, Nat.succ_le_succ hn, by show World.ownsMap _ _ _ _ _ _ (setOf (.agg []) (kL ([] ++ pts o1 ax ay ++ pts o2 bx bz ++ [(cx, cy)]))); rw [kL_snoc]; exact hown, since_grown hS hgr (fun k hk => by injection hk with hk; omega), rR.grown hgr hb0, Nat.le_trans hz hgr.size, rX.grown hgr hb1⟩
  obtain ⟨n, hn, hM, hS, rR, hz, rX⟩ := hcut
  obtain ⟨x1, x2, x3, x4, x5⟩ := xcells rX
  go_wp2_with fail
  rw [rounds_succ]
  go_upto_block 3 with fail
  go_cut [] (fun wx => ∃ n : Nat, n ≤ 4 ∧ MapOf wx (w.heap.size + 1 + 1 + 1) n ([] ++ pts o1 ax ay ++ pts o2 bx bz ++ pts o3 cx cy ++ pts o4 dx dz) ∧ Since w wx ∧ Row wx (w.heap.size + 1 + 1) 6 (Cf cpNone) ∧ w.heap.size + 4 ≤ wx.heap.size ∧ Row wx (xb) 8 (Xf ⟨cx, cy, dx, dz⟩ ⟨ax, ay, bx, bz⟩))
  case first =>
    have hb0 : w.heap.size + 1 + 1 ≠ w.heap.size + 1 + 1 + 1 := by omega
    have hb1 : xb ≠ w.heap.size + 1 + 1 + 1 := by omega
    cases o4
    · go_wp2_with (go_at_call 128; (with_reducible refine (HO4.out _).mono ?_); rintro e w4 ⟨rfl, hS4⟩; have rX := (rX.alloc _).since hS4; have hT4 : Since wc w4 := (by (repeat (first | with_reducible (exact Since.refl _) | with_reducible assumption | with_reducible (refine Since.drew ?_) | with_reducible (refine Since.drewN ?_ _) | with_reducible (refine Since.alloc ?_ _) | (with_reducible (refine Since.setCell ?_ ?_ _); rotate_left; focus (first | (simp; done) | (simp; omega) | omega)) | (with_reducible (refine Since.trans ?_ (by with_reducible assumption)))))); have hM := hM.since hT4; have hS := hS.trans hT4; have rR := rR.since hT4; have hz := Nat.le_trans hz hT4.below.size; clear hT4 hS4)
      go_meet
      case rel => exact ⟨_, Nat.le_succ_of_le hn, by rw [show [] ++ pts o1 ax ay ++ pts o2 bx bz ++ pts o3 cx cy ++ pts false dx dz = [] ++ pts o1 ax ay ++ pts o2 bx bz ++ pts o3 cx cy ++ [] by rfl, List.append_nil]; exact hM, hS, rR, hz, rX⟩
    · go_wp2_with (first | (go_at_call 128; (with_reducible refine (HO4.out _).mono ?_); rintro e w4 ⟨rfl, hS4⟩; have rX := (rX.alloc _).since hS4; have hE := (prow _ wc.heap.size rfl _ dx dz).since hS4; obtain ⟨e1, e2, e3⟩ := pcells hE; clear hE; have hT4 : Since wc w4 := (by (repeat (first | with_reducible (exact Since.refl _) | with_reducible assumption | with_reducible (refine Since.drew ?_) | with_reducible (refine Since.drewN ?_ _) | with_reducible (refine Since.alloc ?_ _) | (with_reducible (refine Since.setCell ?_ ?_ _); rotate_left; focus (first | (simp; done) | (simp; omega) | omega)) | (with_reducible (refine Since.trans ?_ (by with_reducible assumption)))))); have hM := hM.since hT4; have hS := hS.trans hT4; have rR := rR.since hT4; have hz := Nat.le_trans hz hT4.below.size; clear hT4 hS4) | (at_mapUpdate; refine wpList_mapUpdate_own _ rfl _ _ _ 109 rfl 23 111 lawPt Tryz.underlying109 (unitElem (H := Unit)) (w.heap.size + 1 + 1 + 1) n _ rfl hM (by unfold maxLen; omega) _ _ _ rfl rfl (HK4.out) _ [] unitElem_mk ?_; intro v4 hown hgr))
      go_meet
      case rel => exact ⟨_, Nat.succ_le_succ hn, by show World.ownsMap _ _ _ _ _ _ (setOf (.agg []) (kL ([] ++ pts o1 ax ay ++ pts o2 bx bz ++ pts o3 cx cy ++ [(dx, dz)]))); rw [kL_snoc]; exact hown, since_grown hS hgr (fun k hk => by injection hk with hk; omega), rR.grown hgr hb0, Nat.le_trans hz hgr.size, rX.grown hgr hb1⟩
  obtain ⟨n, hn, hM, hS, rR, hz, rX⟩ := hcut
  have hW : WfL ([] ++ pts o1 ax ay ++ pts o2 bx bz ++ pts o3 cx cy ++ pts o4 dx dz) := (((wfl_nil.app (wfl_pts o1 HG1.out)).app (wfl_pts o2 HG2.out)).app (wfl_pts o3 HG3.out)).app (wfl_pts o4 HG4.out)
  have HR2 : Hid ((touchOf ([] ++ pts o1 ax ay ++ pts o2 bx bz ++ pts o3 cx cy ++ pts o4 dx dz)).v = RV) := Lib.hid (by rw [List.nil_append]; exact HRES.out)
  generalize [] ++ pts o1 ax ay ++ pts o2 bx bz ++ pts o3 cx cy ++ pts o4 dx dz = LL at *
  clear rX hi0 hi1 hj0 hj1 HO1 HO2 HO3 HO4 HK1 HK2 HK3 HK4 HG1 HG2 HG3 HG4 HX1 HX2 HRES
  have HW := Lib.hid hW
  clear hW
  obtain ⟨r1, r2, r3, r4, r5, r6, r7⟩ := ccells rR
  have rF := rR.2.1
  have f0 := rF 0; have f1 := rF 1; have f2 := rF 2; have f3 := rF 3; have f4 := rF 4; have f5 := rF 5
  unfold cpNone at r1 r2 r3 r4 r5 r6
  simp only at r1 r2 r3 r4 r5 r6
  clear rF
  go_wp2_with fail
  rw [rounds_succ]
  go_wp2_with fail
  rw [rounds_succ]
  by_cases h2 : 2 ≤ Maps.size (setOf (H := Unit) (.agg []) (kL LL))
  · have hd : decide ((1 : Int) < (Maps.size (setOf (H := Unit) (.agg []) (kL LL)) : Int)) = true := by simp; omega
    go_wp2_with (first | (at_len; refine wpList_len_own _ rfl _ 109 rfl 23 111 Tryz.underlying109 (unitElem (H := Unit)) (w.heap.size + 1 + 1 + 1) n _ rfl hM ?_))
    obtain ⟨m, hm⟩ : ∃ m, m = Maps.size (setOf (H := Unit) (.agg []) (kL LL)) := ⟨_, rfl⟩
    have hno : touchOf LL = ⟨2, 0, 0, 0⟩ := by
      rcases touch_cases LL with ⟨e, _⟩ | ⟨e, he, e1⟩ | e
      · rw [e] at h2; rw [size_nil] at h2; omega
      · by_cases hall : ∀ x ∈ LL, x = e
        · rw [size_one HW.out he hall] at h2; omega
        · obtain ⟨z, hz1⟩ := Classical.not_forall.1 hall
          obtain ⟨hz1, hz2⟩ := Classical.not_imp.1 hz1
          exact touch_two hz1 he hz2
      · exact e
    refine ret_agg (P := Tryz.prog) Tryz.results99 rfl (cp_range (cput rR ⟨2, 0, 0, 0⟩)) Tryz.underlying117 rfl (by kernel_rfl) rfl ⟨by rw [← HR2.out, hno]; rfl, ?_⟩
    (repeat (first | with_reducible (exact Since.refl _) | with_reducible assumption | with_reducible (refine Since.drew ?_) | with_reducible (refine Since.drewN ?_ _) | with_reducible (refine Since.alloc ?_ _) | (with_reducible (refine Since.setCell ?_ ?_ _); rotate_left; focus (first | (simp; done) | (simp; omega) | omega)) | (with_reducible (refine Since.trans ?_ (by with_reducible assumption)))))
  · have hd : decide ((1 : Int) < (Maps.size (setOf (H := Unit) (.agg []) (kL LL)) : Int)) = false := by simp; omega
    have hone : ∀ x ∈ LL, ∀ y ∈ LL, x = y := fun x hx y hy => by
      by_cases e : x = y
      · exact e
      · exact absurd (size_two (u := .agg []) HW.out hx hy e) h2
    have HONE := Lib.hid hone
    clear hone h2
    go_wp2_with (first | (at_len; refine wpList_len_own _ rfl _ 109 rfl 23 111 Tryz.underlying109 (unitElem (H := Unit)) (w.heap.size + 1 + 1 + 1) n _ rfl hM ?_) | (at_range; refine wpList_range_own _ rfl _ 109 rfl 23 111 lawPt Tryz.underlying109 (unitElem (H := Unit)) (w.heap.size + 1 + 1 + 1) n _ rfl hM ?_; intro v9 hrg hgr9 hsz9))
    go_frame
    have hT9 : Since wc v9 := since_grown (Since.refl _) hgr9 (fun k hk => by cases hk)
    have rR := rR.since hT9
    have hS := hS.trans hT9
    have hrb : w.heap.size + 4 ≤ wc.heap.size := hz
    have hz := Nat.le_trans hz hT9.below.size
    clear hT9 hgr9 hsz9 hM r1 r2 r3 r4 r5 r6 r7 f0 f1 f2 f3 f4 f5
    refine wp_loop_rounds 2 ?_
    rw [rounds_succ]
    go_wp2_with (first | (at_next; refine wpList_next_ranges _ rfl _ rfl 23 lawPt (unitElem (H := Unit)) (fun x : Int × Int => Pt x.1 x.2) (fun _ : Unit => .agg #[]) invK invV (w.heap.size + 1 + 1 + 1) wc.heap.size n _ _ _ rfl hrg ?_ ?_))
    · intro hc0 hl0
      have hnil : LL = [] := by
        cases LL with
        | nil => rfl
        | cons a r =>
          have h1 := hl0 (kP a.1 a.2)
          rw [(has_kL HW.out (HW.out a (by simp)).1 (HW.out a (by simp)).2).2 (by simp)] at h1
          cases h1
      have hRV : RV = cpNone.v := by rw [← HR2.out, hnil]; rfl
      have HRV := Lib.hid hRV
      clear hRV hnil hl0 hc0 hrg HR2 HONE HW
      obtain ⟨r1, r2, r3, r4, r5, r6, r7⟩ := ccells rR
      have rF := rR.2.1
      have f0 := rF 0; have f1 := rF 1; have f2 := rF 2; have f3 := rF 3; have f4 := rF 4; have f5 := rF 5
      clear rF
      go_wp2
      refine ret_agg (P := Tryz.prog) Tryz.results99 rfl (cp_range (cput rR cpNone)) Tryz.underlying117 rfl (by kernel_rfl) rfl ⟨by rw [HRV.out]; rfl, ?_⟩
      (repeat (first | with_reducible (exact Since.refl _) | with_reducible assumption | with_reducible (refine Since.drew ?_) | with_reducible (refine Since.drewN ?_ _) | with_reducible (refine Since.alloc ?_ _) | (with_reducible (refine Since.setCell ?_ ?_ _); rotate_left; focus (first | (simp; done) | (simp; omega) | omega)) | (with_reducible (refine Since.trans ?_ (by with_reducible assumption)))))
    · intro px py kl y1 y2 w5 cnt5 hkey hlk hv hat hrg5 hlt hgr5 hsz5 hen
      have hx := mem_of_left (x := (px, py)) HW.out hkey hlk
      have hwx := HW.out (px, py) hx
      have hRV : RV = (⟨1, px, py, 1⟩ : Cp).v := by rw [← HR2.out, touch_one hx (fun z hz => HONE.out z hz (px, py) hx)]
      have HRV := Lib.hid hRV
      have i1 := inw_wf hwx.1
      have i2 := inw_wf hwx.2
      clear hRV hkey hlk hv hat hlt hx hwx HW HONE HR2 hrg hrg5
      simp only at i1 i2
      unfold Pt at hen
      have hof1 := Lib.hid (fun w => wide_of px i1 w)
      have hof2 := Lib.hid (fun w => wide_of py i2 w)
      clear i1 i2
      have rR := rR.grown hgr5 (by omega)
      have hS := since_grown hS hgr5 (fun k hk => by injection hk with hk; omega)
      have hz := Nat.le_trans hz hgr5.size
      clear hgr5 hsz5
      go_wp2_with fail
      refine wp_named fun w6 hw6 => ?_
      have rP : Row w6 w5.heap.size 2 (Pf px py) := by subst hw6; exact prow _ _ rfl _ _ _
      have rR : Row w6 (w.heap.size + 1 + 1) 6 (Cf cpNone) := by subst hw6; exact rR.alloc _
      have hS0 : Since w w6 := by subst hw6; exact hS.alloc _
      clear hw6 hS
      obtain ⟨r1, r2, r3, r4, r5, r6, r7⟩ := ccells rR
      obtain ⟨p1, p2, p3⟩ := pcells rP
      have rF := rR.2.1
      have f0 := rF 0; have f1 := rF 1; have f2 := rF 2; have f3 := rF 3; have f4 := rF 4; have f5 := rF 5
      clear rF rP rR
      have e1 : w5.heap.size ≠ w.heap.size + 1 + 1 := by omega
      have tok8 : True := trivial
      have tok9 : True := trivial
      (refine wp_named fun wr1 hwr1 => ?_; go_region_held3 (fun w' => (∀ b o, b < wr1.heap.size → b ≠ (w.heap.size + 1 + 1) → w'.cell? ⟨b, o, none⟩ = wr1.cell? ⟨b, o, none⟩) ∧ (∀ b o, b < wr1.heap.size → w'.frozen? ⟨b, o, none⟩ = wr1.frozen? ⟨b, o, none⟩) ∧ (∀ k, k < wr1.heap.size → k < w'.heap.size) ∧ Since w w' ∧ (∀ o, o < 6 → w'.cell? ⟨(w.heap.size + 1 + 1), o, none⟩ = some (cellD w' ((w.heap.size + 1 + 1)) o))) ((subst hwr1; (repeat with_reducible (refine sx_set (by omega) ?_ _ _)); first | with_reducible assumption | (refine sx_step (by first | assumption | omega | (simp; done) | (simp; omega)) (by with_reducible assumption) ?_; first | with_reducible assumption | (repeat (first | with_reducible (exact Since.refl _) | with_reducible assumption | with_reducible (refine Since.drew ?_) | with_reducible (refine Since.drewN ?_ _) | with_reducible (refine Since.alloc ?_ _) | (with_reducible (refine Since.setCell ?_ ?_ _); rotate_left; focus (first | (simp; done) | (simp; omega) | omega))))) | (refine sx_step (by first | assumption | omega | (simp; done) | (simp; omega)) (sx_start (by (repeat (first | with_reducible (exact Since.refl _) | with_reducible assumption | with_reducible (refine Since.drew ?_) | with_reducible (refine Since.drewN ?_ _) | with_reducible (refine Since.alloc ?_ _) | (with_reducible (refine Since.setCell ?_ ?_ _); rotate_left; focus (first | (simp; done) | (simp; omega) | omega)) | (with_reducible (refine Since.trans ?_ (by with_reducible assumption)))))) (fun o ho => by (have ho' : o = 0 ∨ o = 1 ∨ o = 2 ∨ o = 3 ∨ o = 4 ∨ o = 5 := by omega); rcases ho' with rfl | rfl | rfl | rfl | rfl | rfl <;> (first | (simp [go_sem]; done) | simp_all))) ?_; first | with_reducible assumption | (repeat (first | with_reducible (exact Since.refl _) | with_reducible assumption | with_reducible (refine Since.drew ?_) | with_reducible (refine Since.drewN ?_ _) | with_reducible (refine Since.alloc ?_ _) | (with_reducible (refine Since.setCell ?_ ?_ _); rotate_left; focus (first | (simp; done) | (simp; omega) | omega))))))) (first | (go_at_call 129; have _t := tok8; (with_reducible refine (hof1.out _).mono ?_); rintro e w8 ⟨rfl, hS8⟩; have hZ := hS8.below.size; (try simp at hZ); clear tok8) | (go_at_call 129; have _t := tok9; (with_reducible refine (hof2.out _).mono ?_); rintro e w9 ⟨rfl, hS9⟩; have hZ := hS9.below.size; (try simp at hZ); clear tok9)); all_goals (rename_i hHeld; obtain ⟨hcR1, hfR1, hzR1, hR1, hoR1⟩ := hHeld; have hiR := fun o ho => there_of (hoR1 o ho); (try simp only [there_set] at hiR); clear hoR1; subst hwr1))
      all_goals go_wp2
      all_goals refine ret_agg (P := Tryz.prog) Tryz.results99 rfl (cp_stored hiR ⟨1, px, py, 1⟩) Tryz.underlying117 rfl (by kernel_rfl) rfl ⟨by rw [HRV.out]; rfl, ?_⟩
      all_goals ((repeat (first | with_reducible (exact Since.refl _) | with_reducible assumption | with_reducible (refine Since.drew ?_) | with_reducible (refine Since.drewN ?_ _) | with_reducible (refine Since.alloc ?_ _) | (with_reducible (refine Since.setCell ?_ ?_ _); rotate_left; focus (first | (simp; done) | (simp; omega) | omega)) | (with_reducible (refine Since.trans ?_ (by with_reducible assumption))))))
end Go.Proofs.YtcfghkphkmoikaaGreat
