/-
  The law PixelHits: for every input it returns true and leaves its arguments as they read. No condition.
-/
import Derived.Test.YtckochcocflleaaPqBz
import Derived.Lib.SmallJoins
namespace Go.Proofs.Ytckochcocflleaa.pixelHits
open Go.ChangeShapes Go.WideShapes Go.ChangeAt Go.RowKit Go.Joins
set_option linter.unusedVariables false

theorem own : ownKnob Try.prog.godebug = none := by kernel_rfl
theorem laidOut : laidOutB Try.prog = true := by kernel_rfl

set_option maxRecDepth 100000 in
theorem lifted (os : Os) (started : os.Started) (H : Type) (enc : TypeId × Value → H) :
    ReturnsInHanded {} Try.checked os 5 .any (Rows.pixelHitsSpec.pre6 enc Try.prog Try.f5 Rows.pixelHitsRow.domain false) (Rows.pixelHitsSpec.post enc Try.prog Try.f5 false true false false) := by
  refine returnsInHanded_of_change_sized (C := Try.checked) own started (by kernel_rfl) Try.func5
    (ChangeSpec.witness6 (enc := enc) (C := Try.checked) false ⟨#[], #[.agg #[.int .i64 0, .int .i64 0, .int .i64 0, .int .i64 0], .agg #[.int .i64 0, .int .i64 0]], []⟩ 8 (by kernel_rfl) (by kernel_rfl) (by kernel_rfl) (by kernel_rfl)) ?_
  intro W0 base args ds gs before hval0 hW hcnd hsz0 _
  have hsz : (DataW.weightsEach Try.prog (Try.f5.params.toList ++ Rows.pixelHitsSpec.plain.varTypes Try.prog) (ds ++ gs)).all (· ≤ reachBytes) = true := hsz0
  have hval : ∀ (j : Nat) t v, Try.f5.params[j]? = some t → args[j]? = some v → Value.okWide Try.prog W0 .any base t v := hval0
  have hW' := hW
  obtain ⟨p, q, hA0, hV, rfl, hfz, hnd⟩ := hW
  have hA : DataW.TrodAll enc Try.prog W0 0 (fun _ => true) true Try.f5.params.toList args.toList ds p := hA0
  rw [Try.params5] at hA hval hsz
  obtain ⟨v0, vs0, d0, ds0, p0, q0, hargs, rfl, rfl, h0, r0⟩ := trodAll_cons hA
  obtain ⟨v1, vs1, d1, ds1, p1, q1, rfl, rfl, rfl, h1, r1⟩ := trodAll_cons r0
  obtain ⟨rfl, rfl, rfl⟩ := trodAll_nil r1
  obtain rfl : args = #[v0, v1] := by cases args; simp_all
  obtain ⟨rfl, rfl⟩ := trodVars_none hV
  clear hA0 hval0 hsz0
  have hlt := hW'.lt
  obtain ⟨cs0, rfl, hs0⟩ := okWide_agg (P := Try.prog) (t := 38) (by kernel_rfl) (hval 0 38 v0 rfl rfl)
  obtain ⟨a0_0, g0_0, w0_0⟩ := leaf_int (n := 6) (j := 0) (t' := 3) (by kernel_rfl) Try.underlying3 h0
  obtain ⟨a0_1, g0_1, w0_1⟩ := leaf_int (n := 6) (j := 1) (t' := 3) (by kernel_rfl) Try.underlying3 h0
  obtain ⟨a0_2, g0_2, w0_2⟩ := leaf_int (n := 6) (j := 2) (t' := 3) (by kernel_rfl) Try.underlying3 h0
  obtain ⟨a0_3, g0_3, w0_3⟩ := leaf_int (n := 6) (j := 3) (t' := 3) (by kernel_rfl) Try.underlying3 h0
  obtain rfl : cs0 = #[.int .i64 a0_0, .int .i64 a0_1, .int .i64 a0_2, .int .i64 a0_3] := agg_cells (l := [.int .i64 a0_0, .int .i64 a0_1, .int .i64 a0_2, .int .i64 a0_3]) (hs0.trans (by kernel_rfl)) (fun k hk => by
    have hk' : k = 0 ∨ k = 1 ∨ k = 2 ∨ k = 3 := by simp only [List.length_cons, List.length_nil] at hk; omega
    rcases hk' with rfl | rfl | rfl | rfl
    · exact g0_0
    · exact g0_1
    · exact g0_2
    · exact g0_3)
  obtain ⟨cs1, rfl, hs1⟩ := okWide_agg (P := Try.prog) (t := 34) (by kernel_rfl) (hval 1 34 v1 rfl rfl)
  obtain ⟨a1_0, g1_0, w1_0⟩ := leaf_int (n := 6) (j := 0) (t' := 3) (by kernel_rfl) Try.underlying3 h1
  obtain ⟨a1_1, g1_1, w1_1⟩ := leaf_int (n := 6) (j := 1) (t' := 3) (by kernel_rfl) Try.underlying3 h1
  obtain rfl : cs1 = #[.int .i64 a1_0, .int .i64 a1_1] := agg_cells (l := [.int .i64 a1_0, .int .i64 a1_1]) (hs1.trans (by kernel_rfl)) (fun k hk => by
    have hk' : k = 0 ∨ k = 1 := by simp only [List.length_cons, List.length_nil] at hk; omega
    rcases hk' with rfl | rfl
    · exact g1_0
    · exact g1_1)
  simp only [List.append_nil] at hW'
  have C : Calls Try.prog 5 #[.agg #[.int .i64 a0_0, .int .i64 a0_1, .int .i64 a0_2, .int .i64 a0_3], .agg #[.int .i64 a1_0, .int .i64 a1_1]] W0 fun e w' => e = .returned (.bool true) ∧ Since W0 w' := by
    exact walk_pixelhits ⟨a0_0, a0_1, a0_2, a0_3⟩ ⟨⟨in64_lit w0_0, in64_lit w0_1⟩, ⟨in64_lit w0_2, in64_lit w0_3⟩⟩ a1_0 a1_1 W0
  refine C.mono fun e W' ⟨he, hS⟩ => ?_
  subst he
  exact ⟨_, rfl, post_true laidOut (by kernel_rfl) (by simpa only [List.append_nil] using hW') rfl rfl Try.underlying4 rfl rfl rfl hS⟩

theorem over : Rows.pixelHitsRow.holds Try.pinned (OpenSpec.ofChange Rows.pixelHitsSpec) :=
  OpenClaim.holds_of_wide 5 Try.f5 rfl rfl rfl rfl rfl rfl rfl ⟨rfl, rfl, rfl, rfl, rfl⟩ rfl rfl rfl rfl rfl (by kernel_rfl) Try.func5 (by kernel_rfl)
    (of_decide_eq_true (by kernel_rfl)) (by unfold Func.isWrapper; first | (rw [if_pos (by decide +kernel)]; kernel_rfl) | (rw [if_neg (by decide +kernel)]; exact ⟨rfl, rfl⟩))
    (fun os started H enc _ => lifted os started H enc)

theorem proved : Rows.PixelHitsSaid := over
end Go.Proofs.Ytckochcocflleaa.pixelHits
