/-
  The law ExpandMoves: for every input it returns true and leaves its arguments as they read. No condition.
-/
import Derived.Test.YtcjjcjpkmjbfkaaExP
import Derived.Test.YtcjjcjpkmjbfkaaKit6
import Derived.Lib.SmallJoins
namespace Go.Proofs.Ytcjjcjpkmjbfkaa.expandMoves
open Go.ChangeShapes Go.WideShapes Go.ChangeAt Go.RowKit Go.Joins
set_option linter.unusedVariables false

theorem own : ownKnob Try.prog.godebug = none := by kernel_rfl
theorem laidOut : laidOutB Try.prog = true := by kernel_rfl
theorem wf_i16 {x : Int} (h : (Lit.int .i16 x).wf = true) : -32768 ≤ x ∧ x ≤ 32767 := by
  simpa [Lit.wf, IntKind.min, IntKind.max, IntKind.signed, IntKind.bits] using h
theorem wf_i32 {x : Int} (h : (Lit.int .i32 x).wf = true) : -2147483648 ≤ x ∧ x ≤ 2147483647 := by
  simpa [Lit.wf, IntKind.min, IntKind.max, IntKind.signed, IntKind.bits] using h

set_option maxRecDepth 100000 in
theorem lifted (os : Os) (started : os.Started) (H : Type) (enc : TypeId × Value → H) :
    ReturnsInHanded {} Try.checked os 4 .any (Rows.expandMovesSpec.pre6 enc Try.prog Try.f4 Rows.expandMovesRow.domain false) (Rows.expandMovesSpec.post enc Try.prog Try.f4 false true false false) := by
  refine returnsInHanded_of_change_sized (C := Try.checked) own started (by kernel_rfl) Try.func4
    (ChangeSpec.witness6 (enc := enc) (C := Try.checked) false ⟨#[], #[.agg #[.int .i16 0, .int .i16 0, .int .i16 0, .int .i16 0, .int .i16 0, .int .i16 0, .int .i32 0, .int .i32 0]], []⟩ 8 (by kernel_rfl) (by kernel_rfl) (by kernel_rfl) (by kernel_rfl)) ?_
  intro W0 base args ds gs before hval0 hW hcnd hsz0 _
  have hsz : (DataW.weightsEach Try.prog (Try.f4.params.toList ++ Rows.expandMovesSpec.plain.varTypes Try.prog) (ds ++ gs)).all (· ≤ reachBytes) = true := hsz0
  have hval : ∀ (j : Nat) t v, Try.f4.params[j]? = some t → args[j]? = some v → Value.okWide Try.prog W0 .any base t v := hval0
  have hW' := hW
  obtain ⟨p, q, hA0, hV, rfl, hfz, hnd⟩ := hW
  have hA : DataW.TrodAll enc Try.prog W0 0 (fun _ => true) true Try.f4.params.toList args.toList ds p := hA0
  rw [Try.params4] at hA hval hsz
  obtain ⟨v0, vs0, d0, ds0, p0, q0, hargs, rfl, rfl, h0, r0⟩ := trodAll_cons hA
  obtain ⟨rfl, rfl, rfl⟩ := trodAll_nil r0
  obtain rfl : args = #[v0] := by cases args; simp_all
  obtain ⟨rfl, rfl⟩ := trodVars_none hV
  clear hA0 hval0 hsz0
  have hlt := hW'.lt
  obtain ⟨cs0, rfl, hs0⟩ := okWide_agg (P := Try.prog) (t := 41) (by kernel_rfl) (hval 0 41 v0 rfl rfl)
  obtain ⟨a0_0, g0_0, w0_0⟩ := leaf_int (n := 6) (j := 0) (t' := 37) (by kernel_rfl) Try.underlying37 h0
  obtain ⟨a0_1, g0_1, w0_1⟩ := leaf_int (n := 6) (j := 1) (t' := 37) (by kernel_rfl) Try.underlying37 h0
  obtain ⟨a0_2, g0_2, w0_2⟩ := leaf_int (n := 6) (j := 2) (t' := 37) (by kernel_rfl) Try.underlying37 h0
  obtain ⟨a0_3, g0_3, w0_3⟩ := leaf_int (n := 6) (j := 3) (t' := 37) (by kernel_rfl) Try.underlying37 h0
  obtain ⟨a0_4, g0_4, w0_4⟩ := leaf_int (n := 6) (j := 4) (t' := 37) (by kernel_rfl) Try.underlying37 h0
  obtain ⟨a0_5, g0_5, w0_5⟩ := leaf_int (n := 6) (j := 5) (t' := 37) (by kernel_rfl) Try.underlying37 h0
  obtain ⟨a0_6, g0_6, w0_6⟩ := leaf_int (n := 6) (j := 6) (t' := 21) (by kernel_rfl) Try.underlying21 h0
  obtain ⟨a0_7, g0_7, w0_7⟩ := leaf_int (n := 6) (j := 7) (t' := 21) (by kernel_rfl) Try.underlying21 h0
  obtain rfl : cs0 = #[.int .i16 a0_0, .int .i16 a0_1, .int .i16 a0_2, .int .i16 a0_3, .int .i16 a0_4, .int .i16 a0_5, .int .i32 a0_6, .int .i32 a0_7] := agg_cells (l := [.int .i16 a0_0, .int .i16 a0_1, .int .i16 a0_2, .int .i16 a0_3, .int .i16 a0_4, .int .i16 a0_5, .int .i32 a0_6, .int .i32 a0_7]) (hs0.trans (by kernel_rfl)) (fun k hk => by
    have hk' : k = 0 ∨ k = 1 ∨ k = 2 ∨ k = 3 ∨ k = 4 ∨ k = 5 ∨ k = 6 ∨ k = 7 := by simp only [List.length_cons, List.length_nil] at hk; omega
    rcases hk' with rfl | rfl | rfl | rfl | rfl | rfl | rfl | rfl
    · exact g0_0
    · exact g0_1
    · exact g0_2
    · exact g0_3
    · exact g0_4
    · exact g0_5
    · exact g0_6
    · exact g0_7)
  simp only [List.append_nil] at hW'
  have C : Calls Try.prog 4 #[.agg #[.int .i16 a0_0, .int .i16 a0_1, .int .i16 a0_2, .int .i16 a0_3, .int .i16 a0_4, .int .i16 a0_5, .int .i32 a0_6, .int .i32 a0_7]] W0 fun e w' => e = .returned (.bool true) ∧ Since W0 w' := by
    exact walk_expandmoves a0_0 a0_1 a0_2 a0_3 a0_4 a0_5 a0_6 a0_7 W0 (wf_i16 w0_0) (wf_i16 w0_1) (wf_i16 w0_2) (wf_i16 w0_3) (wf_i16 w0_4) (wf_i16 w0_5) (wf_i32 w0_6) (wf_i32 w0_7)
  refine C.mono fun e W' ⟨he, hS⟩ => ?_
  subst he
  exact ⟨_, rfl, post_true laidOut (by kernel_rfl) (by simpa only [List.append_nil] using hW') rfl rfl Try.underlying4 rfl rfl rfl hS⟩

theorem over : Rows.expandMovesRow.holds Try.pinned (OpenSpec.ofChange Rows.expandMovesSpec) :=
  OpenClaim.holds_of_wide 4 Try.f4 rfl rfl rfl rfl rfl rfl rfl ⟨rfl, rfl, rfl, rfl, rfl⟩ rfl rfl rfl rfl rfl (by kernel_rfl) Try.func4 (by kernel_rfl)
    (of_decide_eq_true (by kernel_rfl)) (by unfold Func.isWrapper; first | (rw [if_pos (by decide +kernel)]; kernel_rfl) | (rw [if_neg (by decide +kernel)]; exact ⟨rfl, rfl⟩))
    (fun os started H enc _ => lifted os started H enc)

theorem proved : Rows.ExpandMovesSaid := over
end Go.Proofs.Ytcjjcjpkmjbfkaa.expandMoves
