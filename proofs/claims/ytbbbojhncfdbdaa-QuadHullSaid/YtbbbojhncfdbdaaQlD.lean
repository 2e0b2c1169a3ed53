/-
  Layer 13: the laws' own functions 'seg' and 'apart', walked.
-/
import Derived.Test.YtbbbojhncfdbdaaQlC
import Derived.Test.YtbbbojhncfdbdaaQlB
namespace Go.Proofs.Ytbbbojhncfdbdaa
open Go.RowKit
set_option linter.unusedVariables false

/-- A piece's numbers, as it came in. -/
structure Pc where
  (a0 a1 c0 c1 b0 b1 : Int) (k : Bool)
def Pc.v (x : Pc) : Value := .agg #[.int .i32 x.a0, .int .i32 x.a1, .int .i32 x.c0, .int .i32 x.c1, .int .i32 x.b0, .int .i32 x.b1, .bool x.k]
def Pc.wf (x : Pc) : Prop := In32 x.a0 ∧ In32 x.a1 ∧ In32 x.c0 ∧ In32 x.c1 ∧ In32 x.b0 ∧ In32 x.b1
def Pc.s (x : Pc) : Sg := ⟨sm x.a0, sm x.a1, if x.k then sm x.c0 else 0, if x.k then sm x.c1 else 0, sm x.b0, sm x.b1, x.k⟩
def PcAt (w : World) (b : Nat) (x : Pc) : Prop := w.cell? ⟨b, 0, none⟩ = some (.int .i32 x.a0) ∧ w.cell? ⟨b, 1, none⟩ = some (.int .i32 x.a1) ∧ w.cell? ⟨b, 2, none⟩ = some (.int .i32 x.c0) ∧ w.cell? ⟨b, 3, none⟩ = some (.int .i32 x.c1) ∧ w.cell? ⟨b, 4, none⟩ = some (.int .i32 x.b0) ∧ w.cell? ⟨b, 5, none⟩ = some (.int .i32 x.b1) ∧ w.cell? ⟨b, 6, none⟩ = some (.bool x.k) ∧ b < w.heap.size
section
variable {w w' : World} {b : Nat} {x : Pc}
theorem PcAt.since (h : PcAt w b x) (k : Since w w') : PcAt w' b x := by
  obtain ⟨h1, h2, h3, h4, h5, h6, h7, h8⟩ := h
  exact ⟨(k.1 _ _ h8).trans h1, (k.1 _ _ h8).trans h2, (k.1 _ _ h8).trans h3, (k.1 _ _ h8).trans h4, (k.1 _ _ h8).trans h5, (k.1 _ _ h8).trans h6, (k.1 _ _ h8).trans h7, k.2.2.1 _ h8⟩
theorem PcAt.alloc (h : PcAt w b x) (o : Obj) : PcAt (w.alloc o) b x := h.since ((Since.refl w).alloc o)
theorem PcAt.drew (h : PcAt w b x) : PcAt w.drew b x := h
theorem pc_new (w : World) (b : Nat) (hb : b = w.heap.size) (x : Pc) (t : TypeId) : PcAt (w.alloc (.cells #[.int .i32 x.a0, .int .i32 x.a1, .int .i32 x.c0, .int .i32 x.c1, .int .i32 x.b0, .int .i32 x.b1, .bool x.k] t)) b x := by
  subst hb
  refine ⟨?_, ?_, ?_, ?_, ?_, ?_, ?_, by simp⟩ <;> (rw [World.cell?_alloc_new]; rfl)
end
theorem pc_nr {x : Pc} (h : x.wf) : Nr x.s.ax ∧ Nr x.s.ay ∧ Nr x.s.cx ∧ Nr x.s.cy ∧ Nr x.s.bx ∧ Nr x.s.bz := by
  obtain ⟨h1, h2, h3, h4, h5, h6⟩ := h
  have := sm_range h1; have := sm_range h2; have := sm_range h3; have := sm_range h4; have := sm_range h5; have := sm_range h6
  unfold Nr Pc.s
  simp only
  refine ⟨by omega, by omega, ?_, ?_, by omega, by omega⟩ <;> split <;> omega
theorem pc_swf {x : Pc} (h : x.wf) : x.s.wf := by
  have := pc_nr h
  unfold Nr at this
  unfold Sg.wf InP In64
  omega
theorem good_nr {x y : Int} (h : Nr x) (k : Nr y) : goodB x y = true := goodB_iff.2 (by unfold Nr at *; omega)
theorem near_nr {x y : Int} (h : Nr x) (k : Nr y) : nearB x y = true := nearB_iff.2 (by unfold Nr at *; omega)
theorem pc_inR {x : Pc} (h : x.wf) : inR x.s = true := by
  obtain ⟨h1, h2, h3, h4, h5, h6⟩ := pc_nr h
  unfold inR
  rw [good_nr h1 h2, good_nr h3 h4, good_nr h5 h6]
  simp
theorem pc_split {x : Pc} (h : x.wf) : splitOK x.s = true := by
  obtain ⟨h1, h2, h3, h4, h5, h6⟩ := pc_nr h
  unfold splitOK
  rw [near_nr h1 h2, near_nr h3 h4, near_nr h5 h6]
  simp
set_option maxHeartbeats 8000000 in
theorem law_seg (x : Pc) (h : x.wf) (w : World) :
    Calls Try.prog 46 #[x.v] w fun e w' => e = .returned x.s.v ∧ Since w w' := by
  obtain ⟨h1, h2, h3, h4, h5, h6⟩ := h
  obtain ⟨a0, a1, c0, c1, b0, b1, k⟩ := x
  simp only at h1 h2 h3 h4 h5 h6
  unfold In32 at *
  have u1 : IntKind.i64.wrap a0 = a0 := IntWalk.i64_in _ (by omega)
  have u2 : IntKind.i64.wrap a1 = a1 := IntWalk.i64_in _ (by omega)
  have u3 : IntKind.i64.wrap c0 = c0 := IntWalk.i64_in _ (by omega)
  have u4 : IntKind.i64.wrap c1 = c1 := IntWalk.i64_in _ (by omega)
  have u5 : IntKind.i64.wrap b0 = b0 := IntWalk.i64_in _ (by omega)
  have u6 : IntKind.i64.wrap b1 = b1 := IntWalk.i64_in _ (by omega)
  have v1 : IntKind.i64.wrap (a0 / 2048) = a0 / 2048 := IntWalk.i64_in _ (by omega)
  have v2 : IntKind.i64.wrap (a1 / 2048) = a1 / 2048 := IntWalk.i64_in _ (by omega)
  have v3 : IntKind.i64.wrap (c0 / 2048) = c0 / 2048 := IntWalk.i64_in _ (by omega)
  have v4 : IntKind.i64.wrap (c1 / 2048) = c1 / 2048 := IntWalk.i64_in _ (by omega)
  have v5 : IntKind.i64.wrap (b0 / 2048) = b0 / 2048 := IntWalk.i64_in _ (by omega)
  have v6 : IntKind.i64.wrap (b1 / 2048) = b1 / 2048 := IntWalk.i64_in _ (by omega)
  unfold Pc.v Sg.v Pc.s sm
  simp only
  clear h1 h2 h3 h4 h5 h6
  cases k
  all_goals
    simp only [Bool.false_eq_true, if_false, if_true]
    go_enter Try.func46, Try.ntmps46
    go_wp2
    refine bodyPost_ret (by simp only [results, Try.results46]; go_simp) rfl ⟨rfl, ?_⟩
    (repeat (first | with_reducible (exact Since.refl _) | with_reducible assumption | with_reducible (refine Since.drew ?_) | with_reducible (refine Since.drewN ?_ _) | with_reducible (refine Since.alloc ?_ _) | (with_reducible (refine Since.setCell ?_ ?_ _); rotate_left; focus (first | (simp; done) | (simp; omega) | omega)) | (with_reducible (refine Since.trans ?_ (by with_reducible assumption)))))
end Go.Proofs.Ytbbbojhncfdbdaa
