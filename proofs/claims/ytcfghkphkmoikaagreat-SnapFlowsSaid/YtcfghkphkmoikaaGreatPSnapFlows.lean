/-
  The law SnapFlows: for every input it returns true and leaves its arguments as they read. No condition.
-/
import Derived.Test.YtcfghkphkmoikaaGreatSnFd
import Derived.Test.YtcfghkphkmoikaaGreatMqL
import Derived.Lib.SmallJoins
namespace Go.Proofs.YtcfghkphkmoikaaGreat.snapFlows
open Go.ChangeShapes Go.WideShapes Go.ChangeAt Go.RowKit Go.Joins
set_option linter.unusedVariables false

theorem own : ownKnob Tryz.prog.godebug = none := by kernel_rfl
theorem laidOut : laidOutB Tryz.prog = true := by kernel_rfl
theorem cells_ln : Tryz.prog.cellsOf 25 = 4 := by kernel_rfl
theorem bytes_ln : Tryz.prog.bytesOf 25 = 32 := by kernel_rfl

set_option maxRecDepth 100000 in
theorem lifted (os : Os) (started : os.Started) (H : Type) (enc : TypeId × Value → H) :
    ReturnsInHanded {} Tryz.checked os 6 .any (Rows.snapFlowsSpec.pre6 enc Tryz.prog Tryz.f6 Rows.snapFlowsRow.domain false) (Rows.snapFlowsSpec.post enc Tryz.prog Tryz.f6 false true false false) := by
  refine returnsInHanded_of_change_sized (C := Tryz.checked) own started (by kernel_rfl) Tryz.func6
    (ChangeSpec.witness6 (enc := enc) (C := Tryz.checked) false ⟨#[], #[.agg #[.slice none 0 0, .slice none 0 0]], []⟩ 8 (by kernel_rfl) (by kernel_rfl) (by kernel_rfl) (by kernel_rfl)) ?_
  intro W0 base args ds gs before hval0 hW hcnd hsz0 _
  have hsz : (DataW.weightsEach Tryz.prog (Tryz.f6.params.toList ++ Rows.snapFlowsSpec.plain.varTypes Tryz.prog) (ds ++ gs)).all (· ≤ reachBytes) = true := hsz0
  have hval : ∀ (j : Nat) t v, Tryz.f6.params[j]? = some t → args[j]? = some v → Value.okWide Tryz.prog W0 .any base t v := hval0
  have hW' := hW
  obtain ⟨p, q, hA0, hV, rfl, hfz, hnd⟩ := hW
  have hA : DataW.TrodAll enc Tryz.prog W0 0 (fun _ => true) true Tryz.f6.params.toList args.toList ds p := hA0
  rw [Tryz.params6] at hA hval hsz
  obtain ⟨v0, vs0, d0, ds0, p0, q0, hargs, rfl, rfl, h0, r0⟩ := trodAll_cons hA
  obtain ⟨rfl, rfl, rfl⟩ := trodAll_nil r0
  obtain rfl : args = #[v0] := by cases args; simp_all
  obtain ⟨rfl, rfl⟩ := trodVars_none hV
  clear hA0 hval0 hsz0
  have hlt := hW'.lt
  obtain ⟨A0, B0, c0, e0, L0, M0, rfl, hr0, hm0, hwl0, hwm0, hc0, he0, hz0, hy0⟩ := open_twolines (t0 := 3) Tryz.underlying35 (by kernel_rfl) (by kernel_rfl) rfl rfl Tryz.underlying26 cells_ln (by kernel_rfl) (by kernel_rfl) (by kernel_rfl) (by kernel_rfl) Tryz.underlying3 (hval 0 35 v0 rfl rfl) h0 (fun x hx => hlt x (by simp [hx])) 32 (by omega) bytes_ln (fun x hx => by
    have := List.all_eq_true.1 hsz _ (DataW.weights_mem_each (j := 0) rfl rfl x hx)
    simpa using this)
  simp only [reachBytes] at hz0 hy0
  simp only [List.append_nil] at hW'
  have C : Calls Tryz.prog 6 #[.agg #[.slice A0 L0.length c0, .slice B0 M0.length e0]] W0 fun e w' => e = .returned (.bool true) ∧ Since W0 w' := by
    exact walk_snapflows A0 B0 c0 e0 L0 M0 W0 hr0 hm0 hwl0 hwm0 (by omega)
  refine C.mono fun e W' ⟨he, hS⟩ => ?_
  subst he
  exact ⟨_, rfl, post_true laidOut (by kernel_rfl) (by simpa only [List.append_nil] using hW') rfl rfl Tryz.underlying4 rfl rfl rfl hS⟩

theorem over : Rows.snapFlowsRow.holds Tryz.pinned (OpenSpec.ofChange Rows.snapFlowsSpec) :=
  OpenClaim.holds_of_wide 6 Tryz.f6 rfl rfl rfl rfl rfl rfl rfl ⟨rfl, rfl, rfl, rfl, rfl⟩ rfl rfl rfl rfl rfl (by kernel_rfl) Tryz.func6 (by kernel_rfl)
    (of_decide_eq_true (by kernel_rfl)) (by unfold Func.isWrapper; first | (rw [if_pos (by decide +kernel)]; kernel_rfl) | (rw [if_neg (by decide +kernel)]; exact ⟨rfl, rfl⟩))
    (fun os started H enc _ => lifted os started H enc)

theorem proved : Rows.SnapFlowsSaid := over
end Go.Proofs.YtcfghkphkmoikaaGreat.snapFlows
