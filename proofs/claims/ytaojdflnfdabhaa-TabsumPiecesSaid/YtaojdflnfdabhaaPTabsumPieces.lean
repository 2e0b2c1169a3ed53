/-
  The law TabsumPieces: for every input it returns true and leaves its arguments as they read. No condition.
-/
import Derived.Test.YtaojdflnfdabhaaTsE
import Derived.Test.YtaojdflnfdabhaaKit6
import Derived.Lib.SmallJoins
namespace Go.Proofs.Ytaojdflnfdabhaa.tabsumPieces
open Go.ChangeShapes Go.WideShapes Go.ChangeAt Go.RowKit Go.Joins
set_option linter.unusedVariables false

theorem own : ownKnob Try.prog.godebug = none := by kernel_rfl
theorem laidOut : laidOutB Try.prog = true := by kernel_rfl
theorem cells_su8 : Try.prog.cellsOf 22 = 1 := by kernel_rfl
theorem cells_u8 : Try.prog.cellsOf 5 = 1 := by kernel_rfl
theorem bytes_u8 : Try.prog.bytesOf 5 = 1 := by kernel_rfl

set_option maxRecDepth 100000 in
theorem lifted (os : Os) (started : os.Started) (H : Type) (enc : TypeId × Value → H) :
    ReturnsInHanded {} Try.checked os 9 .any (Rows.tabsumPiecesSpec.pre6 enc Try.prog Try.f9 Rows.tabsumPiecesRow.domain false) (Rows.tabsumPiecesSpec.post enc Try.prog Try.f9 false true false false) := by
  refine returnsInHanded_of_change_sized (C := Try.checked) own started (by kernel_rfl) Try.func9
    (ChangeSpec.witness6 (enc := enc) (C := Try.checked) false ⟨#[], #[.slice none 0 0, .slice none 0 0], []⟩ 8 (by kernel_rfl) (by kernel_rfl) (by kernel_rfl) (by kernel_rfl)) ?_
  intro W0 base args ds gs before hval0 hW hcnd hsz0 _
  have hsz : (DataW.weightsEach Try.prog (Try.f9.params.toList ++ Rows.tabsumPiecesSpec.plain.varTypes Try.prog) (ds ++ gs)).all (· ≤ reachBytes) = true := hsz0
  have hval : ∀ (j : Nat) t v, Try.f9.params[j]? = some t → args[j]? = some v → Value.okWide Try.prog W0 .any base t v := hval0
  have hW' := hW
  obtain ⟨p, q, hA0, hV, rfl, hfz, hnd⟩ := hW
  have hA : DataW.TrodAll enc Try.prog W0 0 (fun _ => true) true Try.f9.params.toList args.toList ds p := hA0
  rw [Try.params9] at hA hval hsz
  obtain ⟨v0, vs0, d0, ds0, p0, q0, hargs, rfl, rfl, h0, r0⟩ := trodAll_cons hA
  obtain ⟨v1, vs1, d1, ds1, p1, q1, rfl, rfl, rfl, h1, r1⟩ := trodAll_cons r0
  obtain ⟨rfl, rfl, rfl⟩ := trodAll_nil r1
  obtain rfl : args = #[v0, v1] := by cases args; simp_all
  obtain ⟨rfl, rfl⟩ := trodVars_none hV
  clear hA0 hval0 hsz0
  have hlt := hW'.lt
  obtain ⟨A0, n0, c0, AA0, LL0, CC0, Z0, rfl, hnc0, hcm0, hr0, hall0⟩ := open_rows Try.underlying51 Try.underlying22 Try.underlying5 cells_su8 cells_u8 (hval 0 51 v0 rfl rfl) h0 (fun x hx => hlt x (by simp [hx]))
  obtain ⟨A1, n1, c1, f1, rfl, hnc1, hcm1, hr1, hw1, hz1⟩ := open_rd Try.underlying22 Try.underlying5 cells_u8 (hval 1 22 v1 rfl rfl) h1 (fun x hx => hlt x (by simp [hx]))
  have hsz1 : c1 * 1 ≤ 140737488351232 := by
    rcases hz1 with h0 | ⟨el, sp, rfl, hlen⟩
    · omega
    · have := sized_slice hsz (j := 1) (t := 22) (e := 5) rfl rfl Try.underlying22
      rw [bytes_u8] at this
      simp only [reachBytes] at this
      omega
  simp only [List.append_nil] at hW'
  have C : Calls Try.prog 9 #[.slice A0 n0 c0, .slice A1 n1 c1] W0 fun e w' => e = .returned (.bool true) ∧ Since W0 w' := by
    exact walk_pieces A0 A1 n0 c0 n1 c1 AA0 LL0 CC0 Z0 f1 W0 hr0 (fun j hj => ⟨(hall0 j hj).1, (hall0 j hj).2.1, (hall0 j hj).2.2.1, fun i hi => wf_u8 ((hall0 j hj).2.2.2 i hi)⟩) hr1 (fun j hj => wf_u8 (hw1 j hj)) (by omega) (by omega)
  refine C.mono fun e W' ⟨he, hS⟩ => ?_
  subst he
  exact ⟨_, rfl, post_true laidOut (by kernel_rfl) (by simpa only [List.append_nil] using hW') rfl rfl Try.underlying4 rfl rfl rfl hS⟩

theorem over : Rows.tabsumPiecesRow.holds Try.pinned (OpenSpec.ofChange Rows.tabsumPiecesSpec) :=
  OpenClaim.holds_of_wide 9 Try.f9 rfl rfl rfl rfl rfl rfl rfl ⟨rfl, rfl, rfl, rfl, rfl⟩ rfl rfl rfl rfl rfl (by kernel_rfl) Try.func9 (by kernel_rfl)
    (of_decide_eq_true (by kernel_rfl)) (by unfold Func.isWrapper; first | (rw [if_pos (by decide +kernel)]; kernel_rfl) | (rw [if_neg (by decide +kernel)]; exact ⟨rfl, rfl⟩))
    (fun os started H enc _ => lifted os started H enc)

theorem proved : Rows.TabsumPiecesSaid := over
end Go.Proofs.Ytaojdflnfdabhaa.tabsumPieces
