/-
  The law SimpleReads: for every input it returns true and leaves its arguments as they read. No condition.
-/
import Derived.Test.YtpplnapfpoloiaaSjR
import Derived.Test.YtpplnapfpoloiaaKit6
import Derived.Lib.SmallJoins
namespace Go.Proofs.Ytpplnapfpoloiaa.simpleReads
open Go.ChangeShapes Go.WideShapes Go.ChangeAt Go.RowKit Go.Joins
set_option linter.unusedVariables false

theorem own : ownKnob Try.prog.godebug = none := by kernel_rfl
theorem laidOut : laidOutB Try.prog = true := by kernel_rfl
theorem cells_u8 : Try.prog.cellsOf 5 = 1 := by kernel_rfl
theorem bytes_u8 : Try.prog.bytesOf 5 = 1 := by kernel_rfl

set_option maxRecDepth 100000 in
theorem lifted (os : Os) (started : os.Started) (H : Type) (enc : TypeId × Value → H) :
    ReturnsInHanded {} Try.checked os 8 .any (Rows.simpleReadsSpec.pre6 enc Try.prog Try.f8 Rows.simpleReadsRow.domain false) (Rows.simpleReadsSpec.post enc Try.prog Try.f8 false true false false) := by
  refine returnsInHanded_of_change_sized (C := Try.checked) own started (by kernel_rfl) Try.func8
    (ChangeSpec.witness6 (enc := enc) (C := Try.checked) false ⟨#[], #[.slice none 0 0], []⟩ 8 (by kernel_rfl) (by kernel_rfl) (by kernel_rfl) (by kernel_rfl)) ?_
  intro W0 base args ds gs before hval0 hW hcnd hsz0 _
  have hsz : (DataW.weightsEach Try.prog (Try.f8.params.toList ++ Rows.simpleReadsSpec.plain.varTypes Try.prog) (ds ++ gs)).all (· ≤ reachBytes) = true := hsz0
  have hval : ∀ (j : Nat) t v, Try.f8.params[j]? = some t → args[j]? = some v → Value.okWide Try.prog W0 .any base t v := hval0
  have hW' := hW
  obtain ⟨p, q, hA0, hV, rfl, hfz, hnd⟩ := hW
  have hA : DataW.TrodAll enc Try.prog W0 0 (fun _ => true) true Try.f8.params.toList args.toList ds p := hA0
  rw [Try.params8] at hA hval hsz
  obtain ⟨v0, vs0, d0, ds0, p0, q0, hargs, rfl, rfl, h0, r0⟩ := trodAll_cons hA
  obtain ⟨rfl, rfl, rfl⟩ := trodAll_nil r0
  obtain rfl : args = #[v0] := by cases args; simp_all
  obtain ⟨rfl, rfl⟩ := trodVars_none hV
  clear hA0 hval0 hsz0
  have hlt := hW'.lt
  obtain ⟨A0, n0, c0, f0, rfl, hnc0, hcm0, hr0, hw0, hz0⟩ := open_rd Try.underlying26 Try.underlying5 cells_u8 (hval 0 26 v0 rfl rfl) h0 (fun x hx => hlt x (by simp [hx]))
  have hsz0 : c0 * 1 ≤ 140737488351232 := by
    rcases hz0 with h0 | ⟨el, sp, rfl, hlen⟩
    · omega
    · have := sized_slice hsz (j := 0) (t := 26) (e := 5) rfl rfl Try.underlying26
      rw [bytes_u8] at this
      simp only [reachBytes] at this
      omega
  simp only [List.append_nil] at hW'
  have C : Calls Try.prog 8 #[.slice A0 n0 c0] W0 fun e w' => e = .returned (.bool true) ∧ Since W0 w' := by
    exact walk_simplereads A0 n0 c0 ((List.range n0).map f0) W0 (rdb_map hr0) (by simp) (bytes_map (fun j hj => wf_u8 (hw0 j hj))) (by omega) hnc0
  refine C.mono fun e W' ⟨he, hS⟩ => ?_
  subst he
  exact ⟨_, rfl, post_true laidOut (by kernel_rfl) (by simpa only [List.append_nil] using hW') rfl rfl Try.underlying4 rfl rfl rfl hS⟩

theorem over : Rows.simpleReadsRow.holds Try.pinned (OpenSpec.ofChange Rows.simpleReadsSpec) :=
  OpenClaim.holds_of_wide 8 Try.f8 rfl rfl rfl rfl rfl rfl rfl ⟨rfl, rfl, rfl, rfl, rfl⟩ rfl rfl rfl rfl rfl (by kernel_rfl) Try.func8 (by kernel_rfl)
    (of_decide_eq_true (by kernel_rfl)) (by unfold Func.isWrapper; first | (rw [if_pos (by decide +kernel)]; kernel_rfl) | (rw [if_neg (by decide +kernel)]; exact ⟨rfl, rfl⟩))
    (fun os started H enc _ => lifted os started H enc)

theorem proved : Rows.SimpleReadsSaid := over
end Go.Proofs.Ytpplnapfpoloiaa.simpleReads
