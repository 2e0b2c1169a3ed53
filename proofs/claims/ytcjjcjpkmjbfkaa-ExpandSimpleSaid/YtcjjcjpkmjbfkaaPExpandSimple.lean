/-
  The law ExpandSimple: for every input it returns true and leaves its arguments as they read. No condition.
-/
import Derived.Test.YtcjjcjpkmjbfkaaExS
import Derived.Test.YtcjjcjpkmjbfkaaKitGl
import Derived.Test.YtcjjcjpkmjbfkaaKit6
import Derived.Lib.SmallJoins
namespace Go.Proofs.Ytcjjcjpkmjbfkaa.expandSimple
open Go.ChangeShapes Go.WideShapes Go.ChangeAt Go.RowKit Go.Joins
set_option linter.unusedVariables false

theorem own : ownKnob Try.prog.godebug = none := by kernel_rfl
theorem laidOut : laidOutB Try.prog = true := by kernel_rfl
theorem cells_gl : Try.prog.cellsOf 51 = 2 := by kernel_rfl
theorem cells_ct : Try.prog.cellsOf 64 = 1 := by kernel_rfl
theorem cells_kn : Try.prog.cellsOf 62 = 3 := by kernel_rfl
theorem cells_by : Try.prog.cellsOf 5 = 1 := by kernel_rfl
theorem leaf_kn0 : leafAt Try.prog 6 62 0 = some 3 := by kernel_rfl
theorem leaf_kn1 : leafAt Try.prog 6 62 1 = some 3 := by kernel_rfl
theorem leaf_kn2 : leafAt Try.prog 6 62 2 = some 4 := by kernel_rfl

set_option maxRecDepth 100000 in
theorem lifted (os : Os) (started : os.Started) (H : Type) (enc : TypeId × Value → H) :
    ReturnsInHanded {} Try.checked os 5 .any (Rows.expandSimpleSpec.pre6 enc Try.prog Try.f5 Rows.expandSimpleRow.domain false) (Rows.expandSimpleSpec.post enc Try.prog Try.f5 false true false false) := by
  refine returnsInHanded_of_change_sized (C := Try.checked) own started (by kernel_rfl) Try.func5
    (ChangeSpec.witness6 (enc := enc) (C := Try.checked) false ⟨#[], #[.agg #[.slice none 0 0, .slice none 0 0]], []⟩ 8 (by kernel_rfl) (by kernel_rfl) (by kernel_rfl) (by kernel_rfl)) ?_
  intro W0 base args ds gs before hval0 hW hcnd hsz0 _
  have hsz : (DataW.weightsEach Try.prog (Try.f5.params.toList ++ Rows.expandSimpleSpec.plain.varTypes Try.prog) (ds ++ gs)).all (· ≤ reachBytes) = true := hsz0
  have hval : ∀ (j : Nat) t v, Try.f5.params[j]? = some t → args[j]? = some v → Value.okWide Try.prog W0 .any base t v := hval0
  have hW' := hW
  obtain ⟨p, q, hA0, hV, rfl, hfz, hnd⟩ := hW
  have hA : DataW.TrodAll enc Try.prog W0 0 (fun _ => true) true Try.f5.params.toList args.toList ds p := hA0
  rw [Try.params5] at hA hval hsz
  obtain ⟨v0, vs0, d0, ds0, p0, q0, hargs, rfl, rfl, h0, r0⟩ := trodAll_cons hA
  obtain ⟨rfl, rfl, rfl⟩ := trodAll_nil r0
  obtain rfl : args = #[v0] := by cases args; simp_all
  obtain ⟨rfl, rfl⟩ := trodVars_none hV
  clear hA0 hval0 hsz0
  have hlt := hW'.lt
  obtain ⟨A0, c0, LL0, B0, m0, k0, f0, rfl, hl0, hr0, hm0, hi0, hmk0, hkx0, hrb0, hwb0⟩ := open_glyph (to_ := 28) (te := 64) (tq := 62) (tb := 25) (tu := 5) (t0 := 3) (t2 := 4) Try.underlying51 (by kernel_rfl) cells_gl rfl rfl Try.underlying28 Try.underlying64 cells_ct cells_kn leaf_kn0 leaf_kn1 leaf_kn2 Try.underlying3 Try.underlying4 Try.underlying25 Try.underlying5 cells_by (hval 0 51 v0 rfl rfl) h0 (fun x hx => hlt x (by simp [hx]))
  simp only [List.append_nil] at hW'
  have C : Calls Try.prog 5 #[.agg #[.slice A0 LL0.length c0, .slice B0 m0 k0]] W0 fun e w' => e = .returned (.bool true) ∧ Since W0 w' := by
    exact walk_expandsimple A0 c0 LL0 B0 m0 k0 ((List.range m0).map f0) W0 hr0 hl0 hm0 (rdb_map hrb0) (by simp) (by omega) (bytes_map (fun j hj => wf_u8 (hwb0 j hj)))
  refine C.mono fun e W' ⟨he, hS⟩ => ?_
  subst he
  exact ⟨_, rfl, post_true laidOut (by kernel_rfl) (by simpa only [List.append_nil] using hW') rfl rfl Try.underlying4 rfl rfl rfl hS⟩

theorem over : Rows.expandSimpleRow.holds Try.pinned (OpenSpec.ofChange Rows.expandSimpleSpec) :=
  OpenClaim.holds_of_wide 5 Try.f5 rfl rfl rfl rfl rfl rfl rfl ⟨rfl, rfl, rfl, rfl, rfl⟩ rfl rfl rfl rfl rfl (by kernel_rfl) Try.func5 (by kernel_rfl)
    (of_decide_eq_true (by kernel_rfl)) (by unfold Func.isWrapper; first | (rw [if_pos (by decide +kernel)]; kernel_rfl) | (rw [if_neg (by decide +kernel)]; exact ⟨rfl, rfl⟩))
    (fun os started H enc _ => lifted os started H enc)

theorem proved : Rows.ExpandSimpleSaid := over
end Go.Proofs.Ytcjjcjpkmjbfkaa.expandSimple
