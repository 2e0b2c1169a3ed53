/-
  The law QuadAt: for every input it returns true and leaves its arguments as they read. No condition.
-/
import Derived.Test.YtbbbojhncfdbdaaQlA
import Derived.Test.YtbbbojhncfdbdaaKit6
import Derived.Lib.SmallJoins
namespace Go.Proofs.Ytbbbojhncfdbdaa.quadAt
open Go.ChangeShapes Go.WideShapes Go.ChangeAt Go.RowKit Go.Joins
set_option linter.unusedVariables false

theorem own : ownKnob Try.prog.godebug = none := by kernel_rfl
theorem laidOut : laidOutB Try.prog = true := by kernel_rfl

set_option maxRecDepth 100000 in
theorem lifted (os : Os) (started : os.Started) (H : Type) (enc : TypeId × Value → H) :
    ReturnsInHanded {} Try.checked os 9 .any (Rows.quadAtSpec.pre6 enc Try.prog Try.f9 Rows.quadAtRow.domain false) (Rows.quadAtSpec.post enc Try.prog Try.f9 false true false false) := by
  refine returnsInHanded_of_change_sized (C := Try.checked) own started (by kernel_rfl) Try.func9
    (ChangeSpec.witness6 (enc := enc) (C := Try.checked) false ⟨#[], #[.agg #[.int .i64 0, .int .i64 0, .int .i64 0, .int .i64 0, .int .i64 0, .int .i64 0, .bool false], .int .i64 0, .int .i64 0], []⟩ 8 (by kernel_rfl) (by kernel_rfl) (by kernel_rfl) (by kernel_rfl)) ?_
  intro W0 base args ds gs before hval0 hW hcnd hsz0 _
  have hsz : (DataW.weightsEach Try.prog (Try.f9.params.toList ++ Rows.quadAtSpec.plain.varTypes Try.prog) (ds ++ gs)).all (· ≤ reachBytes) = true := hsz0
  have hval : ∀ (j : Nat) t v, Try.f9.params[j]? = some t → args[j]? = some v → Value.okWide Try.prog W0 .any base t v := hval0
  have hW' := hW
  obtain ⟨p, q, hA0, hV, rfl, hfz, hnd⟩ := hW
  have hA : DataW.TrodAll enc Try.prog W0 0 (fun _ => true) true Try.f9.params.toList args.toList ds p := hA0
  rw [Try.params9] at hA hval hsz
  obtain ⟨v0, vs0, d0, ds0, p0, q0, hargs, rfl, rfl, h0, r0⟩ := trodAll_cons hA
  obtain ⟨v1, vs1, d1, ds1, p1, q1, rfl, rfl, rfl, h1, r1⟩ := trodAll_cons r0
  obtain ⟨v2, vs2, d2, ds2, p2, q2, rfl, rfl, rfl, h2, r2⟩ := trodAll_cons r1
  obtain ⟨rfl, rfl, rfl⟩ := trodAll_nil r2
  obtain rfl : args = #[v0, v1, v2] := by cases args; simp_all
  obtain ⟨rfl, rfl⟩ := trodVars_none hV
  clear hA0 hval0 hsz0
  have hlt := hW'.lt
  obtain ⟨cs0, rfl, hs0⟩ := okWide_agg (P := Try.prog) (t := 57) (by kernel_rfl) (hval 0 57 v0 rfl rfl)
  obtain ⟨a0_0, g0_0, w0_0⟩ := leaf_int (n := 6) (j := 0) (t' := 3) (by kernel_rfl) Try.underlying3 h0
  obtain ⟨a0_1, g0_1, w0_1⟩ := leaf_int (n := 6) (j := 1) (t' := 3) (by kernel_rfl) Try.underlying3 h0
  obtain ⟨a0_2, g0_2, w0_2⟩ := leaf_int (n := 6) (j := 2) (t' := 3) (by kernel_rfl) Try.underlying3 h0
  obtain ⟨a0_3, g0_3, w0_3⟩ := leaf_int (n := 6) (j := 3) (t' := 3) (by kernel_rfl) Try.underlying3 h0
  obtain ⟨a0_4, g0_4, w0_4⟩ := leaf_int (n := 6) (j := 4) (t' := 3) (by kernel_rfl) Try.underlying3 h0
  obtain ⟨a0_5, g0_5, w0_5⟩ := leaf_int (n := 6) (j := 5) (t' := 3) (by kernel_rfl) Try.underlying3 h0
  obtain ⟨a0_6, g0_6⟩ := leaf_bool (n := 6) (j := 6) (t' := 4) (by kernel_rfl) Try.underlying4 h0
  obtain rfl : cs0 = #[.int .i64 a0_0, .int .i64 a0_1, .int .i64 a0_2, .int .i64 a0_3, .int .i64 a0_4, .int .i64 a0_5, .bool a0_6] := agg_cells (l := [.int .i64 a0_0, .int .i64 a0_1, .int .i64 a0_2, .int .i64 a0_3, .int .i64 a0_4, .int .i64 a0_5, .bool a0_6]) (hs0.trans (by kernel_rfl)) (fun k hk => by
    have hk' : k = 0 ∨ k = 1 ∨ k = 2 ∨ k = 3 ∨ k = 4 ∨ k = 5 ∨ k = 6 := by simp only [List.length_cons, List.length_nil] at hk; omega
    rcases hk' with rfl | rfl | rfl | rfl | rfl | rfl | rfl
    · exact g0_0
    · exact g0_1
    · exact g0_2
    · exact g0_3
    · exact g0_4
    · exact g0_5
    · exact g0_6)
  obtain ⟨a1, rfl, rfl, rfl, w1⟩ := open_int Try.underlying3 (hval 1 3 v1 rfl rfl) h1
  obtain ⟨a2, rfl, rfl, rfl, w2⟩ := open_int Try.underlying3 (hval 2 3 v2 rfl rfl) h2
  simp only [List.append_nil] at hW'
  have C : Calls Try.prog 9 #[.agg #[.int .i64 a0_0, .int .i64 a0_1, .int .i64 a0_2, .int .i64 a0_3, .int .i64 a0_4, .int .i64 a0_5, .bool a0_6], .int .i64 a1, .int .i64 a2] W0 fun e w' => e = .returned (.bool true) ∧ Since W0 w' := by
    exact walk_quadat ⟨a0_0, a0_1, a0_2, a0_3, a0_4, a0_5, a0_6⟩ ⟨⟨wf_i64 w0_0, wf_i64 w0_1⟩, ⟨wf_i64 w0_2, wf_i64 w0_3⟩, ⟨wf_i64 w0_4, wf_i64 w0_5⟩⟩ a1 a2 (wf_i64 w1) (wf_i64 w2) W0
  refine C.mono fun e W' ⟨he, hS⟩ => ?_
  subst he
  exact ⟨_, rfl, post_true laidOut (by kernel_rfl) (by simpa only [List.append_nil] using hW') rfl rfl Try.underlying4 rfl rfl rfl hS⟩

theorem over : Rows.quadAtRow.holds Try.pinned (OpenSpec.ofChange Rows.quadAtSpec) :=
  OpenClaim.holds_of_wide 9 Try.f9 rfl rfl rfl rfl rfl rfl rfl ⟨rfl, rfl, rfl, rfl, rfl⟩ rfl rfl rfl rfl rfl (by kernel_rfl) Try.func9 (by kernel_rfl)
    (of_decide_eq_true (by kernel_rfl)) (by unfold Func.isWrapper; first | (rw [if_pos (by decide +kernel)]; kernel_rfl) | (rw [if_neg (by decide +kernel)]; exact ⟨rfl, rfl⟩))
    (fun os started H enc _ => lifted os started H enc)

theorem proved : Rows.QuadAtSaid := over
end Go.Proofs.Ytbbbojhncfdbdaa.quadAt
