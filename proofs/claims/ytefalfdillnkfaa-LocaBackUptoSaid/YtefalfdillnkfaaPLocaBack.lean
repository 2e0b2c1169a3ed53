/-
  The law LocaBack: for every input it returns true and leaves its arguments as they read. No condition.
-/
import Derived.Test.YtefalfdillnkfaaLoI
import Derived.Test.YtefalfdillnkfaaKit6
import Derived.Lib.SmallJoins
namespace Go.Proofs.Ytefalfdillnkfaa.locaBack
open Go.ChangeShapes Go.WideShapes Go.ChangeAt Go.RowKit Go.Joins
set_option linter.unusedVariables false

theorem own : ownKnob Try.prog.godebug = none := by kernel_rfl
theorem laidOut : laidOutB Try.prog = true := by kernel_rfl
theorem cells_i64 : Try.prog.cellsOf 3 = 1 := by kernel_rfl
theorem bytes_i64 : Try.prog.bytesOf 3 = 8 := by kernel_rfl
theorem cells_u8 : Try.prog.cellsOf 5 = 1 := by kernel_rfl
theorem bytes_u8 : Try.prog.bytesOf 5 = 1 := by kernel_rfl

set_option maxRecDepth 100000 in
theorem lifted (os : Os) (started : os.Started) (H : Type) (enc : TypeId × Value → H) (F : Stop.Interp) :
    ReturnsInHanded {} Try.checked os 5 .any ((Rows.OpenSpec.upto Rows.locaBackSpec).pre6 enc Try.prog Try.f5 Rows.locaBackUptoRow.domain false) (((Rows.OpenSpec.upto Rows.locaBackSpec).at F).post enc Try.prog Try.f5 false true false false) := by
  refine returnsInHanded_of_cond (C := Try.checked) (s := Rows.OpenSpec.upto Rows.locaBackSpec) (k := Rows.uptoSmall) rfl own started (by kernel_rfl) Try.func5
    (OpenSpec.witness (enc := enc) (C := Try.checked) (s := Rows.OpenSpec.upto Rows.locaBackSpec) (k := Rows.uptoSmall) rfl false ⟨#[], #[.slice none 0 0, .bool false, .slice none 0 0], []⟩ 8 (by kernel_rfl) (by kernel_rfl) (by kernel_rfl)
      (x := ([.nil, .lit (.bool false), .nil], [], [])) (by kernel_rfl) rfl (by kernel_rfl)) ?_
  intro W0 base args ds gs before hval0 hW0 _ hk0 _
  have hW : DataW.Whole enc Try.prog Try.f5.params.toList Rows.locaBackSpec.vars false W0 args.toList ds gs before := hW0
  have hk : Rows.uptoSmall H (ds ++ gs) = true := hk0
  have hval : ∀ (j : Nat) t v, Try.f5.params[j]? = some t → args[j]? = some v → Value.okWide Try.prog W0 .any base t v := hval0
  suffices hC : Calls Try.prog 5 args W0 fun e W' => ∃ v, e = .returned v ∧ Rows.locaBackSpec.post enc Try.prog Try.f5 false true false false W0 args v W' from hC
  have hsz0 := True.intro
  clear hW0 hk0
  have hW' := hW
  obtain ⟨p, q, hA0, hV, rfl, hfz, hnd⟩ := hW
  have hA : DataW.TrodAll enc Try.prog W0 0 (fun _ => true) true Try.f5.params.toList args.toList ds p := hA0
  rw [Try.params5] at hA hval
  obtain ⟨v0, vs0, d0, ds0, p0, q0, hargs, rfl, rfl, h0, r0⟩ := trodAll_cons hA
  obtain ⟨v1, vs1, d1, ds1, p1, q1, rfl, rfl, rfl, h1, r1⟩ := trodAll_cons r0
  obtain ⟨v2, vs2, d2, ds2, p2, q2, rfl, rfl, rfl, h2, r2⟩ := trodAll_cons r1
  obtain ⟨rfl, rfl, rfl⟩ := trodAll_nil r2
  obtain rfl : args = #[v0, v1, v2] := by cases args; simp_all
  obtain ⟨rfl, rfl⟩ := trodVars_none hV
  clear hA0 hval0 hsz0
  have hlt := hW'.lt
  obtain ⟨A0, n0, c0, f0, rfl, hnc0, hcm0, hr0, hw0, hz0⟩ := open_rd Try.underlying25 Try.underlying3 cells_i64 (hval 0 25 v0 rfl rfl) h0 (fun x hx => hlt x (by simp [hx]))
  have hu0 := bulk_slice hz0
  obtain ⟨a1, rfl, rfl, rfl⟩ := open_bool Try.underlying4 (hval 1 4 v1 rfl rfl) h1
  obtain ⟨A2, n2, c2, f2, rfl, hnc2, hcm2, hr2, hw2, hz2⟩ := open_rd Try.underlying22 Try.underlying5 cells_u8 (hval 2 22 v2 rfl rfl) h2 (fun x hx => hlt x (by simp [hx]))
  have hu2 := bulk_slice hz2
  have hB := bulk_all hk
  simp only [Rows.uptoBulkAll] at hB
  simp only [List.append_nil] at hW'
  have C : Calls Try.prog 5 #[.slice A0 n0 c0, .bool a1, .slice A2 n2 c2] W0 fun e w' => e = .returned (.bool true) ∧ Since W0 w' := by
    exact walk_locaback A0 A2 n0 c0 n2 c2 f0 f2 a1 W0 hr0 hr2 (fun j hj => wf_i64 (hw0 j hj)) (fun j hj => wf_u8 (hw2 j hj)) (by omega)
  refine C.mono fun e W' ⟨he, hS⟩ => ?_
  subst he
  exact ⟨_, rfl, post_true laidOut (by kernel_rfl) (by simpa only [List.append_nil] using hW') rfl rfl Try.underlying4 rfl rfl rfl hS⟩

theorem over : Rows.locaBackUptoRow.holds Try.pinned (Rows.OpenSpec.upto Rows.locaBackSpec) :=
  OpenClaim.holds_of_cond 5 Try.f5 rfl rfl rfl rfl rfl rfl rfl ⟨rfl, rfl, rfl, rfl, rfl⟩ rfl rfl rfl rfl rfl (by kernel_rfl) Try.func5 (by kernel_rfl)
    (of_decide_eq_true (by kernel_rfl)) (by unfold Func.isWrapper; first | (rw [if_pos (by decide +kernel)]; kernel_rfl) | (rw [if_neg (by decide +kernel)]; exact ⟨rfl, rfl⟩))
    (fun os started H enc _ F => lifted os started H enc F)

theorem proved : Rows.LocaBackUptoSaid := over
end Go.Proofs.Ytefalfdillnkfaa.locaBack
