/-
  The law SfntMagic: for every input it returns true and leaves its arguments as they read. No condition.
-/
import Derived.Test.YtpplnapfpoloiaaMgU
import Derived.Test.YtpplnapfpoloiaaKitTo
import Derived.Test.YtpplnapfpoloiaaKit6
import Derived.Lib.SmallJoins
namespace Go.Proofs.Ytpplnapfpoloiaa.sfntMagic
open Go.ChangeShapes Go.WideShapes Go.ChangeAt Go.RowKit Go.Joins
set_option linter.unusedVariables false

theorem own : ownKnob Try.prog.godebug = none := by kernel_rfl
theorem laidOut : laidOutB Try.prog = true := by kernel_rfl
theorem cells_u8 : Try.prog.cellsOf 5 = 1 := by kernel_rfl
theorem bytes_u8 : Try.prog.bytesOf 5 = 1 := by kernel_rfl
theorem cells_tb : Try.prog.cellsOf 36 = 2 := by kernel_rfl
theorem cells_by : Try.prog.cellsOf 5 = 1 := by kernel_rfl

set_option maxRecDepth 100000 in
theorem lifted (os : Os) (started : os.Started) (H : Type) (enc : TypeId × Value → H) :
    ReturnsInHanded {} Try.checked os 5 .any (Rows.sfntMagicSpec.pre6 enc Try.prog Try.f5 Rows.sfntMagicRow.domain false) (Rows.sfntMagicSpec.post enc Try.prog Try.f5 false true false false) := by
  refine returnsInHanded_of_change_sized (C := Try.checked) own started (by kernel_rfl) Try.func5
    (ChangeSpec.witness6 (enc := enc) (C := Try.checked) false ⟨#[], #[.slice none 0 0, .slice none 0 0], []⟩ 8 (by kernel_rfl) (by kernel_rfl) (by kernel_rfl) (by kernel_rfl)) ?_
  intro W0 base args ds gs before hval0 hW hcnd hsz0 _
  have hsz : (DataW.weightsEach Try.prog (Try.f5.params.toList ++ Rows.sfntMagicSpec.plain.varTypes Try.prog) (ds ++ gs)).all (· ≤ reachBytes) = true := hsz0
  have hval : ∀ (j : Nat) t v, Try.f5.params[j]? = some t → args[j]? = some v → Value.okWide Try.prog W0 .any base t v := hval0
  have hW' := hW
  obtain ⟨p, q, hA0, hV, rfl, hfz, hnd⟩ := hW
  have hA : DataW.TrodAll enc Try.prog W0 0 (fun _ => true) true Try.f5.params.toList args.toList ds p := hA0
  rw [Try.params5] at hA hval hsz
  obtain ⟨v0, vs0, d0, ds0, p0, q0, hargs, rfl, rfl, h0, r0⟩ := trodAll_cons hA
  obtain ⟨v1, vs1, d1, ds1, p1, q1, rfl, rfl, rfl, h1, r1⟩ := trodAll_cons r0
  obtain ⟨rfl, rfl, rfl⟩ := trodAll_nil r1
  obtain rfl : args = #[v0, v1] := by cases args; simp_all
  obtain ⟨rfl, rfl⟩ := trodVars_none hV
  clear hA0 hval0 hsz0
  have hlt := hW'.lt
  obtain ⟨A0, c0, TT0, rfl, hl0, hr0, hm0, hw0⟩ := open_tables (ts := 9) (tb := 26) (tu := 5) Try.underlying22 Try.underlying36 (by kernel_rfl) cells_tb rfl rfl Try.underlying9 Try.underlying26 Try.underlying5 cells_by (okWide_slice Try.underlying22 (hval 0 22 v0 rfl rfl)) h0 (fun x hx => hlt x (by simp [hx]))
  obtain ⟨A1, n1, c1, f1, rfl, hnc1, hcm1, hr1, hw1, hz1⟩ := open_rd Try.underlying26 Try.underlying5 cells_u8 (hval 1 26 v1 rfl rfl) h1 (fun x hx => hlt x (by simp [hx]))
  have hsz1 : c1 * 1 ≤ 140737488351232 := by
    rcases hz1 with h0 | ⟨el, sp, rfl, hlen⟩
    · omega
    · have := sized_slice hsz (j := 1) (t := 26) (e := 5) rfl rfl Try.underlying26
      rw [bytes_u8] at this
      simp only [reachBytes] at this
      omega
  simp only [List.append_nil] at hW'
  have C : Calls Try.prog 5 #[.slice A0 TT0.length c0, .slice A1 n1 c1] W0 fun e w' => e = .returned (.bool true) ∧ Since W0 w' := by
    exact walk_sfntmagic A0 c0 TT0 A1 n1 c1 ((List.range n1).map f1) W0 hr0 hl0 hm0 (fun T hT x hx => wf_u8 (hw0 T hT x hx)) (rdb_map hr1) (by simp) (by simp; omega) (bytes_map (fun j hj => wf_u8 (hw1 j hj)))
  refine C.mono fun e W' ⟨he, hS⟩ => ?_
  subst he
  exact ⟨_, rfl, post_true laidOut (by kernel_rfl) (by simpa only [List.append_nil] using hW') rfl rfl Try.underlying4 rfl rfl rfl hS⟩

theorem over : Rows.sfntMagicRow.holds Try.pinned (OpenSpec.ofChange Rows.sfntMagicSpec) :=
  OpenClaim.holds_of_wide 5 Try.f5 rfl rfl rfl rfl rfl rfl rfl ⟨rfl, rfl, rfl, rfl, rfl⟩ rfl rfl rfl rfl rfl (by kernel_rfl) Try.func5 (by kernel_rfl)
    (of_decide_eq_true (by kernel_rfl)) (by unfold Func.isWrapper; first | (rw [if_pos (by decide +kernel)]; kernel_rfl) | (rw [if_neg (by decide +kernel)]; exact ⟨rfl, rfl⟩))
    (fun os started H enc _ => lifted os started H enc)

theorem proved : Rows.SfntMagicSaid := over
end Go.Proofs.Ytpplnapfpoloiaa.sfntMagic
