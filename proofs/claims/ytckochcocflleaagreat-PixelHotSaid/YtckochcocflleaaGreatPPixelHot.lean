/-
  The law PixelHot: for every input it returns true and leaves its arguments as they read. No condition.
-/
import Derived.Test.YtckochcocflleaaGreatMgZ
import Derived.Test.YtckochcocflleaaGreatMgL
import Derived.Lib.SmallJoins
namespace Go.Proofs.YtckochcocflleaaGreat.pixelHot
open Go.ChangeShapes Go.WideShapes Go.ChangeAt Go.RowKit Go.Joins
set_option linter.unusedVariables false

theorem own : ownKnob Tryz.prog.godebug = none := by kernel_rfl
theorem laidOut : laidOutB Tryz.prog = true := by kernel_rfl
theorem cells_ln : Tryz.prog.cellsOf 36 = 4 := by kernel_rfl
theorem bytes_ln : Tryz.prog.bytesOf 36 = 32 := by kernel_rfl

set_option maxRecDepth 100000 in
theorem lifted (os : Os) (started : os.Started) (H : Type) (enc : TypeId × Value → H) :
    ReturnsInHanded {} Tryz.checked os 3 .any (Rows.pixelHotSpec.pre6 enc Tryz.prog Tryz.f3 Rows.pixelHotRow.domain false) (Rows.pixelHotSpec.post enc Tryz.prog Tryz.f3 false true false false) := by
  refine returnsInHanded_of_change_sized (C := Tryz.checked) own started (by kernel_rfl) Tryz.func3
    (ChangeSpec.witness6 (enc := enc) (C := Tryz.checked) false ⟨#[], #[.slice none 0 0], []⟩ 8 (by kernel_rfl) (by kernel_rfl) (by kernel_rfl) (by kernel_rfl)) ?_
  intro W0 base args ds gs before hval0 hW hcnd hsz0 _
  have hsz : (DataW.weightsEach Tryz.prog (Tryz.f3.params.toList ++ Rows.pixelHotSpec.plain.varTypes Tryz.prog) (ds ++ gs)).all (· ≤ reachBytes) = true := hsz0
  have hval : ∀ (j : Nat) t v, Tryz.f3.params[j]? = some t → args[j]? = some v → Value.okWide Tryz.prog W0 .any base t v := hval0
  have hW' := hW
  obtain ⟨p, q, hA0, hV, rfl, hfz, hnd⟩ := hW
  have hA : DataW.TrodAll enc Tryz.prog W0 0 (fun _ => true) true Tryz.f3.params.toList args.toList ds p := hA0
  rw [Tryz.params3] at hA hval hsz
  obtain ⟨v0, vs0, d0, ds0, p0, q0, hargs, rfl, rfl, h0, r0⟩ := trodAll_cons hA
  obtain ⟨rfl, rfl, rfl⟩ := trodAll_nil r0
  obtain rfl : args = #[v0] := by cases args; simp_all
  obtain ⟨rfl, rfl⟩ := trodVars_none hV
  clear hA0 hval0 hsz0
  have hlt := hW'.lt
  obtain ⟨A0, c0, L0, rfl, hn0, hr0, hw0, hc0, hz0⟩ := open_lnc (t0 := 3) Tryz.underlying22 cells_ln (by kernel_rfl) (by kernel_rfl) (by kernel_rfl) (by kernel_rfl) Tryz.underlying3 (hval 0 22 v0 rfl rfl) h0 (fun x hx => hlt x (by simp [hx]))
  have hsz0 : c0 * 32 ≤ 140737488351232 := by
    rcases hz0 with h0 | ⟨el, sp, rfl, hlen⟩
    · omega
    · have := sized_slice hsz (j := 0) (t := 22) (e := 36) rfl rfl Tryz.underlying22
      rw [bytes_ln] at this
      simp only [reachBytes] at this
      omega
  simp only [List.append_nil] at hW'
  have C : Calls Tryz.prog 3 #[.slice A0 L0.length c0] W0 fun e w' => e = .returned (.bool true) ∧ Since W0 w' := by
    exact walk_pixelhot A0 c0 L0 W0 hr0 hw0 hc0 (by omega) hn0
  refine C.mono fun e W' ⟨he, hS⟩ => ?_
  subst he
  exact ⟨_, rfl, post_true laidOut (by kernel_rfl) (by simpa only [List.append_nil] using hW') rfl rfl Tryz.underlying4 rfl rfl rfl hS⟩

theorem over : Rows.pixelHotRow.holds Tryz.pinned (OpenSpec.ofChange Rows.pixelHotSpec) :=
  OpenClaim.holds_of_wide 3 Tryz.f3 rfl rfl rfl rfl rfl rfl rfl ⟨rfl, rfl, rfl, rfl, rfl⟩ rfl rfl rfl rfl rfl (by kernel_rfl) Tryz.func3 (by kernel_rfl)
    (of_decide_eq_true (by kernel_rfl)) (by unfold Func.isWrapper; first | (rw [if_pos (by decide +kernel)]; kernel_rfl) | (rw [if_neg (by decide +kernel)]; exact ⟨rfl, rfl⟩))
    (fun os started H enc _ => lifted os started H enc)

theorem proved : Rows.PixelHotSaid := over
end Go.Proofs.YtckochcocflleaaGreat.pixelHot
