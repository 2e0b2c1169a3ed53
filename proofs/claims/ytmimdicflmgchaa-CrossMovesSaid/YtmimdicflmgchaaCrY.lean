/-
  Layer 15: two lines out of a pair, walked.
-/
import Derived.Test.YtmimdicflmgchaaCrX
namespace Go.Proofs.Ytmimdicflmgchaa
open Go.RowKit
set_option linter.unusedVariables false

def In32 (x : Int) : Prop := -2147483648 ≤ x ∧ x ≤ 2147483647
theorem in32_wf {a : Int} (h : (Lit.int .i32 a).wf = true) : In32 a := by
  have h : -2147483648 ≤ a ∧ a ≤ 2147483647 := by simpa [Lit.wf, IntKind.min, IntKind.max, IntKind.signed, IntKind.bits] using h
  exact h
def sm (x : Int) : Int := x / 2048
theorem sm_range {x : Int} (h : In32 x) : -1048576 ≤ sm x ∧ sm x ≤ 1048576 := by unfold In32 at h; unfold sm; omega
theorem cell_far {w : World} {b b' o o' : Nat} {v : Value} (h : b ≠ b') : (w.setCell ⟨b, o, none⟩ v).cell? ⟨b', o', none⟩ = w.cell? ⟨b', o', none⟩ := by rw [cell_set, if_neg (fun e => h e.1)]
theorem cell_drew (w : World) (p : Addr) : w.drew.cell? p = w.cell? p := rfl
/-- Eight numbers of a pair. -/
def P8 (ax ay bx bz cx cy dx dz : Int) (j : Nat) : Value := if j = 0 then .int .i32 ax else if j = 1 then .int .i32 ay else if j = 2 then .int .i32 bx else if j = 3 then .int .i32 bz else if j = 4 then .int .i32 cx else if j = 5 then .int .i32 cy else if j = 6 then .int .i32 dx else .int .i32 dz
theorem p8row (w : World) (b : Nat) (hb : b = w.heap.size) (ty : TypeId) (ax ay bx bz cx cy dx dz : Int) : Row (w.alloc (.cells #[.int .i32 ax, .int .i32 ay, .int .i32 bx, .int .i32 bz, .int .i32 cx, .int .i32 cy, .int .i32 dx, .int .i32 dz] ty)) b 8 (P8 ax ay bx bz cx cy dx dz) := by
  subst hb
  refine Row.of_cells fun j hj => ?_
  have h : j = 0 ∨ j = 1 ∨ j = 2 ∨ j = 3 ∨ j = 4 ∨ j = 5 ∨ j = 6 ∨ j = 7 := by omega
  rcases h with rfl | rfl | rfl | rfl | rfl | rfl | rfl | rfl <;> rfl
theorem p8cells {w : World} {b : Nat} {ax ay bx bz cx cy dx dz : Int} (h : Row w b 8 (P8 ax ay bx bz cx cy dx dz)) : w.cell? ⟨b, 0, none⟩ = some (.int .i32 ax) ∧ w.cell? ⟨b, 1, none⟩ = some (.int .i32 ay) ∧ w.cell? ⟨b, 2, none⟩ = some (.int .i32 bx) ∧ w.cell? ⟨b, 3, none⟩ = some (.int .i32 bz) ∧ w.cell? ⟨b, 4, none⟩ = some (.int .i32 cx) ∧ w.cell? ⟨b, 5, none⟩ = some (.int .i32 cy) ∧ w.cell? ⟨b, 6, none⟩ = some (.int .i32 dx) ∧ w.cell? ⟨b, 7, none⟩ = some (.int .i32 dz) ∧ b < w.heap.size := ⟨h.1 0 (by omega), h.1 1 (by omega), h.1 2 (by omega), h.1 3 (by omega), h.1 4 (by omega), h.1 5 (by omega), h.1 6 (by omega), h.1 7 (by omega), h.2.2⟩
theorem lput {w : World} {b : Nat} {l0 : Ln} (h : Row w b 4 (Lf l0)) (l : Ln) : Row ((((w.setCell ⟨b, 0, none⟩ (.int .i64 l.ax)).setCell ⟨b, 1, none⟩ (.int .i64 l.ay)).setCell ⟨b, 2, none⟩ (.int .i64 l.bx)).setCell ⟨b, 3, none⟩ (.int .i64 l.bz)) b 4 (Lf l) := by
  refine ((((h.set 0 _).set 1 _).set 2 _).set 3 _).congr fun j hj => ?_
  have hh : j = 0 ∨ j = 1 ∨ j = 2 ∨ j = 3 := by omega
  rcases hh with rfl | rfl | rfl | rfl <;> rfl
theorem ln_range {w : World} {b : Nat} {l : Ln} (h : Row w b 4 (Lf l)) : w.rangeAt b 0 [.int .i64 l.ax, .int .i64 l.ay, .int .i64 l.bx, .int .i64 l.bz] := row_range h _ fun j v hv => by
  have hlt := (List.getElem?_eq_some_iff.1 hv).1
  simp only [List.length_cons, List.length_nil] at hlt
  have hh : j = 0 ∨ j = 1 ∨ j = 2 ∨ j = 3 := by omega
  rcases hh with rfl | rfl | rfl | rfl <;> (simp only [List.getElem?_cons_zero, List.getElem?_cons_succ, Option.some.injEq] at hv; subst hv; exact ⟨by omega, rfl⟩)
section
variable {P : Program} {fn : Func} {R : Ending → World → Prop} {a : Act} {w : World}
/-- The end of a function whose two results are structs in memory. -/
theorem ret_agg2 {p q ty ty' : Nat} {b b' : Nat} {cs cs' : List Value} {d d' : TypeDesc} (hf : fn.results = #[.cell p ty, .cell q ty']) (hp : a.tmps.getD p undef = .pointer (some ⟨b, 0, none⟩)) (hq : a.tmps.getD q undef = .pointer (some ⟨b', 0, none⟩)) (hc : w.rangeAt b 0 cs) (hc' : w.rangeAt b' 0 cs')
    (hu : P.underlying ty = some d) (hd : d.isRow = true) (hi : (P.info? ty).map (·.size) = some cs.length) (hu' : P.underlying ty' = some d') (hd' : d'.isRow = true) (hi' : (P.info? ty').map (·.size) = some cs'.length) (hdf : a.defers = []) (hR : R (.returned (.tuple #[.agg cs.toArray, .agg cs'.toArray])) w) : bodyPost P fn R .ret a w := by
  refine bodyPost_ret (v := .tuple #[.agg cs.toArray, .agg cs'.toArray]) ?_ hdf hR
  simp only [results, hf]
  have hl := run_loadVar_mid (P := P) w b 0 ty cs d hc hu hd hi
  have hl' := run_loadVar_mid (P := P) w b' 0 ty' cs' d' hc' hu' hd' hi'
  have hp' : a.tmps[p]?.getD undef = .pointer (some ⟨b, 0, none⟩) := by simpa using hp
  have hq' : a.tmps[q]?.getD undef = .pointer (some ⟨b', 0, none⟩) := by simpa using hq
  simp [hp', hq', asAddr, hl, hl']
end
set_option maxRecDepth 100000 in
set_option maxHeartbeats 16000000 in
theorem law_lines (ax ay bx bz cx cy dx dz : Int) (h1 : In32 ax) (h2 : In32 ay) (h3 : In32 bx) (h4 : In32 bz) (h5 : In32 cx) (h6 : In32 cy) (h7 : In32 dx) (h8 : In32 dz) (w : World) :
    Calls Try.prog 16 #[.agg #[.int .i32 ax, .int .i32 ay, .int .i32 bx, .int .i32 bz, .int .i32 cx, .int .i32 cy, .int .i32 dx, .int .i32 dz]] w fun e w' => e = .returned (.tuple #[(⟨sm ax, sm ay, sm bx, sm bz⟩ : Ln).v, (⟨sm cx, sm cy, sm dx, sm dz⟩ : Ln).v]) ∧ Since w w' := by
  unfold In32 at *
  have HN := Lib.hid (fun w b hb ty => p8row w b hb ty ax ay bx bz cx cy dx dz)
  have u1 : IntKind.i64.wrap ax = ax := IntWalk.i64_in _ (by omega)
  have v1 : IntKind.i64.wrap (ax / 2048) = ax / 2048 := IntWalk.i64_in _ (by omega)
  have u2 : IntKind.i64.wrap ay = ay := IntWalk.i64_in _ (by omega)
  have v2 : IntKind.i64.wrap (ay / 2048) = ay / 2048 := IntWalk.i64_in _ (by omega)
  have u3 : IntKind.i64.wrap bx = bx := IntWalk.i64_in _ (by omega)
  have v3 : IntKind.i64.wrap (bx / 2048) = bx / 2048 := IntWalk.i64_in _ (by omega)
  have u4 : IntKind.i64.wrap bz = bz := IntWalk.i64_in _ (by omega)
  have v4 : IntKind.i64.wrap (bz / 2048) = bz / 2048 := IntWalk.i64_in _ (by omega)
  have u5 : IntKind.i64.wrap cx = cx := IntWalk.i64_in _ (by omega)
  have v5 : IntKind.i64.wrap (cx / 2048) = cx / 2048 := IntWalk.i64_in _ (by omega)
  have u6 : IntKind.i64.wrap cy = cy := IntWalk.i64_in _ (by omega)
  have v6 : IntKind.i64.wrap (cy / 2048) = cy / 2048 := IntWalk.i64_in _ (by omega)
  have u7 : IntKind.i64.wrap dx = dx := IntWalk.i64_in _ (by omega)
  have v7 : IntKind.i64.wrap (dx / 2048) = dx / 2048 := IntWalk.i64_in _ (by omega)
  have u8 : IntKind.i64.wrap dz = dz := IntWalk.i64_in _ (by omega)
  have v8 : IntKind.i64.wrap (dz / 2048) = dz / 2048 := IntWalk.i64_in _ (by omega)
  unfold sm
  clear h1 h2 h3 h4 h5 h6 h7 h8
  go_enter Try.func16, Try.ntmps16
  go_wp2_with fail
  refine wp_named fun w0 hw0 => ?_
  have rX : Row w0 w.heap.size 8 (P8 ax ay bx bz cx cy dx dz) := by subst hw0; exact ((HN.out w _ rfl _).alloc _).alloc _
  have rA : Row w0 (w.heap.size + 1) 4 (Lf ⟨0, 0, 0, 0⟩) := by subst hw0; exact (lrow _ _ (by simp) _ ⟨0, 0, 0, 0⟩).alloc _
  have rB : Row w0 (w.heap.size + 1 + 1) 4 (Lf ⟨0, 0, 0, 0⟩) := by subst hw0; exact lrow _ _ (by simp) _ ⟨0, 0, 0, 0⟩
  have hT : Since w w0 := by subst hw0; (repeat (first | with_reducible (exact Since.refl _) | with_reducible assumption | with_reducible (refine Since.drew ?_) | with_reducible (refine Since.drewN ?_ _) | with_reducible (refine Since.alloc ?_ _) | (with_reducible (refine Since.setCell ?_ ?_ _); rotate_left; focus (first | (simp; done) | (simp; omega) | omega)) | (with_reducible (refine Since.trans ?_ (by with_reducible assumption)))))
  clear hw0 HN
  have n1 : w.heap.size + 1 ≠ w.heap.size := by omega
  have n2 : w.heap.size + 1 + 1 ≠ w.heap.size := by omega
  obtain ⟨x1, x2, x3, x4, x5, x6, x7, x8, x9⟩ := p8cells rX
  obtain ⟨a1, a2, a3, a4, a5⟩ := lcells rA
  obtain ⟨b1, b2, b3, b4, b5⟩ := lcells rB
  (have fa0 := rA.2.1 0; have fa1 := rA.2.1 1; have fa2 := rA.2.1 2; have fa3 := rA.2.1 3; have fb0 := rB.2.1 0; have fb1 := rB.2.1 1; have fb2 := rB.2.1 2; have fb3 := rB.2.1 3)
  have rX := rX.drew
  have rA := rA.drew
  have rB := rB.drew
  have hT := hT.drew
  go_region_held3 (fun w' => w'.cell? ⟨w.heap.size, 0, none⟩ = some (.int .i32 ax) ∧ w'.cell? ⟨w.heap.size, 1, none⟩ = some (.int .i32 ay) ∧ w'.cell? ⟨w.heap.size, 2, none⟩ = some (.int .i32 bx) ∧ w'.cell? ⟨w.heap.size, 3, none⟩ = some (.int .i32 bz) ∧ w'.cell? ⟨w.heap.size, 4, none⟩ = some (.int .i32 cx) ∧ w'.cell? ⟨w.heap.size, 5, none⟩ = some (.int .i32 cy) ∧ w'.cell? ⟨w.heap.size, 6, none⟩ = some (.int .i32 dx) ∧ w'.cell? ⟨w.heap.size, 7, none⟩ = some (.int .i32 dz)) ((refine ⟨?_, ?_, ?_, ?_, ?_, ?_, ?_, ?_⟩ <;> (first | with_reducible assumption | ((repeat (first | rw [cell_far n1] | rw [cell_far n2] | rw [cell_drew])); with_reducible assumption)))) ((first | (go_at_call 31; (with_reducible refine (law_line _ _ _ _ _).mono ?_); rintro e wk ⟨rfl, hSk⟩; have rX := rX.since hSk; have rA := rA.since hSk; have rB := rB.since hSk; have hT := hT.trans hSk; clear hSk x1 x2 x3 x4 x5 x6 x7 x8 x9 a1 a2 a3 a4 a5 b1 b2 b3 b4 b5 fa0 fa1 fa2 fa3 fb0 fb1 fb2 fb3; obtain ⟨x1, x2, x3, x4, x5, x6, x7, x8, x9⟩ := p8cells rX; obtain ⟨a1, a2, a3, a4, a5⟩ := lcells rA; obtain ⟨b1, b2, b3, b4, b5⟩ := lcells rB; have fa0 := rA.2.1 0; have fa1 := rA.2.1 1; have fa2 := rA.2.1 2; have fa3 := rA.2.1 3; have fb0 := rB.2.1 0; have fb1 := rB.2.1 1; have fb2 := rB.2.1 2; have fb3 := rB.2.1 3)))
  all_goals (try simp only at a1 a2 a3 a4 b1 b2 b3 b4)
  all_goals go_wp2
  all_goals refine ret_agg2 (P := Try.prog) Try.results16 rfl rfl (ln_range (((((lput rA ⟨ax / 2048, ay / 2048, bx / 2048, bz / 2048⟩).far (by omega) 0 _).far (by omega) 1 _).far (by omega) 2 _).far (by omega) 3 _)) (ln_range (lput ((((rB.far (by omega) 0 _).far (by omega) 1 _).far (by omega) 2 _).far (by omega) 3 _) ⟨cx / 2048, cy / 2048, dx / 2048, dz / 2048⟩)) Try.underlying25 rfl (by kernel_rfl) Try.underlying25 rfl (by kernel_rfl) rfl ⟨rfl, ?_⟩
  all_goals ((repeat (first | with_reducible (exact Since.refl _) | with_reducible assumption | with_reducible (refine Since.drew ?_) | with_reducible (refine Since.drewN ?_ _) | with_reducible (refine Since.alloc ?_ _) | (with_reducible (refine Since.setCell ?_ ?_ _); rotate_left; focus (first | (simp; done) | (simp; omega) | omega)) | (with_reducible (refine Since.trans ?_ (by with_reducible assumption))))))
end Go.Proofs.Ytmimdicflmgchaa
