/-
  The law GaussWays: for every input it returns true and leaves its arguments as they read. No condition.
-/
import Derived.Test.YtbbbojhncfdbdaaGaT
import Derived.Test.YtbbbojhncfdbdaaKit6
import Derived.Lib.SmallJoins
namespace Go.Proofs.Ytbbbojhncfdbdaa.gaussWays
open Go.ChangeShapes Go.WideShapes Go.ChangeAt Go.RowKit Go.Joins
set_option linter.unusedVariables false

theorem own : ownKnob Try.prog.godebug = none := by kernel_rfl
theorem laidOut : laidOutB Try.prog = true := by kernel_rfl
theorem cells_pr : Try.prog.cellsOf 49 = 2 := by kernel_rfl
theorem cells_pq : Try.prog.cellsOf 21 = 1 := by kernel_rfl

set_option maxRecDepth 100000 in
theorem lifted (os : Os) (started : os.Started) (H : Type) (enc : TypeId × Value → H) :
    ReturnsInHanded {} Try.checked os 8 .any (Rows.gaussWaysSpec.pre6 enc Try.prog Try.f8 Rows.gaussWaysRow.domain false) (Rows.gaussWaysSpec.post enc Try.prog Try.f8 false true false false) := by
  refine returnsInHanded_of_change_sized (C := Try.checked) own started (by kernel_rfl) Try.func8
    (ChangeSpec.witness6 (enc := enc) (C := Try.checked) false ⟨#[], #[.slice none 0 0, .agg #[.int .i32 0, .int .i32 0], .int .u8 0], []⟩ 8 (by kernel_rfl) (by kernel_rfl) (by kernel_rfl) (by kernel_rfl)) ?_
  intro W0 base args ds gs before hval0 hW hcnd hsz0 _
  have hsz : (DataW.weightsEach Try.prog (Try.f8.params.toList ++ Rows.gaussWaysSpec.plain.varTypes Try.prog) (ds ++ gs)).all (· ≤ reachBytes) = true := hsz0
  have hval : ∀ (j : Nat) t v, Try.f8.params[j]? = some t → args[j]? = some v → Value.okWide Try.prog W0 .any base t v := hval0
  have hW' := hW
  obtain ⟨p, q, hA0, hV, rfl, hfz, hnd⟩ := hW
  have hA : DataW.TrodAll enc Try.prog W0 0 (fun _ => true) true Try.f8.params.toList args.toList ds p := hA0
  rw [Try.params8] at hA hval hsz
  obtain ⟨v0, vs0, d0, ds0, p0, q0, hargs, rfl, rfl, h0, r0⟩ := trodAll_cons hA
  obtain ⟨v1, vs1, d1, ds1, p1, q1, rfl, rfl, rfl, h1, r1⟩ := trodAll_cons r0
  obtain ⟨v2, vs2, d2, ds2, p2, q2, rfl, rfl, rfl, h2, r2⟩ := trodAll_cons r1
  obtain ⟨rfl, rfl, rfl⟩ := trodAll_nil r2
  obtain rfl : args = #[v0, v1, v2] := by cases args; simp_all
  obtain ⟨rfl, rfl⟩ := trodVars_none hV
  clear hA0 hval0 hsz0
  have hlt := hW'.lt
  obtain ⟨A0, n0, c0, X0, Y0, rfl, hnc0, hcm0, hr0, hi0, hz0⟩ := open_pairs (k := .i32) Try.underlying54 Try.underlying49 Try.underlying21 cells_pr cells_pq (hval 0 54 v0 rfl rfl) h0 (fun x hx => hlt x (by simp [hx]))
  obtain ⟨cs1, rfl, hs1⟩ := okWide_agg (P := Try.prog) (t := 49) (by kernel_rfl) (hval 1 49 v1 rfl rfl)
  obtain ⟨a1_0, g1_0, w1_0⟩ := leaf_int (n := 6) (j := 0) (t' := 21) (by kernel_rfl) Try.underlying21 h1
  obtain ⟨a1_1, g1_1, w1_1⟩ := leaf_int (n := 6) (j := 1) (t' := 21) (by kernel_rfl) Try.underlying21 h1
  obtain rfl : cs1 = #[.int .i32 a1_0, .int .i32 a1_1] := agg_cells (l := [.int .i32 a1_0, .int .i32 a1_1]) (hs1.trans (by kernel_rfl)) (fun k hk => by
    have hk' : k = 0 ∨ k = 1 := by simp only [List.length_cons, List.length_nil] at hk; omega
    rcases hk' with rfl | rfl
    · exact g1_0
    · exact g1_1)
  obtain ⟨a2, rfl, rfl, rfl, w2⟩ := open_int Try.underlying5 (hval 2 5 v2 rfl rfl) h2
  simp only [List.append_nil] at hW'
  have C : Calls Try.prog 8 #[.slice A0 n0 c0, .agg #[.int .i32 a1_0, .int .i32 a1_1], .int .u8 a2] W0 fun e w' => e = .returned (.bool true) ∧ Since W0 w' := by
    exact walk_ways A0 n0 c0 X0 Y0 a1_0 a1_1 a2 W0 hr0 (fun j hj => ⟨in32_wf (hi0 j hj).1, in32_wf (hi0 j hj).2⟩) (in32_wf w1_0) (in32_wf w1_1) (wf_u8 w2).1 (wf_u8 w2).2 (by omega)
  refine C.mono fun e W' ⟨he, hS⟩ => ?_
  subst he
  exact ⟨_, rfl, post_true laidOut (by kernel_rfl) (by simpa only [List.append_nil] using hW') rfl rfl Try.underlying4 rfl rfl rfl hS⟩

theorem over : Rows.gaussWaysRow.holds Try.pinned (OpenSpec.ofChange Rows.gaussWaysSpec) :=
  OpenClaim.holds_of_wide 8 Try.f8 rfl rfl rfl rfl rfl rfl rfl ⟨rfl, rfl, rfl, rfl, rfl⟩ rfl rfl rfl rfl rfl (by kernel_rfl) Try.func8 (by kernel_rfl)
    (of_decide_eq_true (by kernel_rfl)) (by unfold Func.isWrapper; first | (rw [if_pos (by decide +kernel)]; kernel_rfl) | (rw [if_neg (by decide +kernel)]; exact ⟨rfl, rfl⟩))
    (fun os started H enc _ => lifted os started H enc)

theorem proved : Rows.GaussWaysSaid := over
end Go.Proofs.Ytbbbojhncfdbdaa.gaussWays
