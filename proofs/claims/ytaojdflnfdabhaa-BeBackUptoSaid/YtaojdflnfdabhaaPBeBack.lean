/-
  The law BeBack: for every input it returns true and leaves its arguments as they read. No condition.
-/
import Derived.Test.YtaojdflnfdabhaaBeM
import Derived.Test.YtaojdflnfdabhaaKit6
import Derived.Lib.SmallJoins
namespace Go.Proofs.Ytaojdflnfdabhaa.beBack
open Go.ChangeShapes Go.WideShapes Go.ChangeAt Go.RowKit Go.Joins
set_option linter.unusedVariables false

theorem own : ownKnob Try.prog.godebug = none := by kernel_rfl
theorem laidOut : laidOutB Try.prog = true := by kernel_rfl
theorem cells_u8 : Try.prog.cellsOf 5 = 1 := by kernel_rfl
theorem bytes_u8 : Try.prog.bytesOf 5 = 1 := by kernel_rfl

set_option maxRecDepth 100000 in
theorem lifted (os : Os) (started : os.Started) (H : Type) (enc : TypeId × Value → H) (F : Stop.Interp) :
    ReturnsInHanded {} Try.checked os 6 .any ((Rows.OpenSpec.upto Rows.beBackSpec).pre6 enc Try.prog Try.f6 Rows.beBackUptoRow.domain false) (((Rows.OpenSpec.upto Rows.beBackSpec).at F).post enc Try.prog Try.f6 false true false false) := by
  refine returnsInHanded_of_cond (C := Try.checked) (s := Rows.OpenSpec.upto Rows.beBackSpec) (k := Rows.uptoSmall) rfl own started (by kernel_rfl) Try.func6
    (OpenSpec.witness (enc := enc) (C := Try.checked) (s := Rows.OpenSpec.upto Rows.beBackSpec) (k := Rows.uptoSmall) rfl false ⟨#[], #[.int .i32 0, .slice none 0 0, .slice none 0 0], []⟩ 8 (by kernel_rfl) (by kernel_rfl) (by kernel_rfl)
      (x := ([.lit (.int .i32 0), .nil, .nil], [], [])) (by kernel_rfl) rfl (by kernel_rfl)) ?_
  intro W0 base args ds gs before hval0 hW0 _ hk0 _
  have hW : DataW.Whole enc Try.prog Try.f6.params.toList Rows.beBackSpec.vars false W0 args.toList ds gs before := hW0
  have hk : Rows.uptoSmall H (ds ++ gs) = true := hk0
  have hval : ∀ (j : Nat) t v, Try.f6.params[j]? = some t → args[j]? = some v → Value.okWide Try.prog W0 .any base t v := hval0
  suffices hC : Calls Try.prog 6 args W0 fun e W' => ∃ v, e = .returned v ∧ Rows.beBackSpec.post enc Try.prog Try.f6 false true false false W0 args v W' from hC
  have hsz0 := True.intro
  clear hW0 hk0
  have hW' := hW
  obtain ⟨p, q, hA0, hV, rfl, hfz, hnd⟩ := hW
  have hA : DataW.TrodAll enc Try.prog W0 0 (fun _ => true) true Try.f6.params.toList args.toList ds p := hA0
  rw [Try.params6] at hA hval
  obtain ⟨v0, vs0, d0, ds0, p0, q0, hargs, rfl, rfl, h0, r0⟩ := trodAll_cons hA
  obtain ⟨v1, vs1, d1, ds1, p1, q1, rfl, rfl, rfl, h1, r1⟩ := trodAll_cons r0
  obtain ⟨v2, vs2, d2, ds2, p2, q2, rfl, rfl, rfl, h2, r2⟩ := trodAll_cons r1
  obtain ⟨rfl, rfl, rfl⟩ := trodAll_nil r2
  obtain rfl : args = #[v0, v1, v2] := by cases args; simp_all
  obtain ⟨rfl, rfl⟩ := trodVars_none hV
  clear hA0 hval0 hsz0
  have hlt := hW'.lt
  obtain ⟨a0, rfl, rfl, rfl, w0⟩ := open_int Try.underlying21 (hval 0 21 v0 rfl rfl) h0
  obtain ⟨A1, n1, c1, f1, rfl, hnc1, hcm1, hr1, hw1, hz1⟩ := open_rd Try.underlying22 Try.underlying5 cells_u8 (hval 1 22 v1 rfl rfl) h1 (fun x hx => hlt x (by simp [hx]))
  have hu1 := bulk_slice hz1
  obtain ⟨A2, n2, c2, f2, rfl, hnc2, hcm2, hr2, hw2, hz2⟩ := open_rd Try.underlying22 Try.underlying5 cells_u8 (hval 2 22 v2 rfl rfl) h2 (fun x hx => hlt x (by simp [hx]))
  have hu2 := bulk_slice hz2
  have hB := bulk_all hk
  simp only [Rows.uptoBulkAll] at hB
  simp only [List.append_nil] at hW'
  have C : Calls Try.prog 6 #[.int .i32 a0, .slice A1 n1 c1, .slice A2 n2 c2] W0 fun e w' => e = .returned (.bool true) ∧ Since W0 w' := by
    have h32 : -2147483648 ≤ a0 ∧ a0 ≤ 2147483647 := by simpa [Lit.wf, IntKind.min, IntKind.max, IntKind.signed, IntKind.bits] using w0
    exact walk_back a0 A1 A2 n1 c1 n2 c2 f1 f2 W0 h32 hr1 hr2 (fun j hj => wf_u8 (hw1 j hj)) (fun j hj => wf_u8 (hw2 j hj)) (by omega)
  refine C.mono fun e W' ⟨he, hS⟩ => ?_
  subst he
  exact ⟨_, rfl, post_true laidOut (by kernel_rfl) (by simpa only [List.append_nil] using hW') rfl rfl Try.underlying4 rfl rfl rfl hS⟩

theorem over : Rows.beBackUptoRow.holds Try.pinned (Rows.OpenSpec.upto Rows.beBackSpec) :=
  OpenClaim.holds_of_cond 6 Try.f6 rfl rfl rfl rfl rfl rfl rfl ⟨rfl, rfl, rfl, rfl, rfl⟩ rfl rfl rfl rfl rfl (by kernel_rfl) Try.func6 (by kernel_rfl)
    (of_decide_eq_true (by kernel_rfl)) (by unfold Func.isWrapper; first | (rw [if_pos (by decide +kernel)]; kernel_rfl) | (rw [if_neg (by decide +kernel)]; exact ⟨rfl, rfl⟩))
    (fun os started H enc _ F => lifted os started H enc F)

theorem proved : Rows.BeBackUptoSaid := over
end Go.Proofs.Ytaojdflnfdabhaa.beBack
