/-
  The law SimpleMoves: for every input it returns true and leaves its arguments as they read. No condition.
-/
import Derived.Test.YtpplnapfpoloiaaSjN
import Derived.Test.YtpplnapfpoloiaaKitGl
import Derived.Test.YtpplnapfpoloiaaKit6
import Derived.Lib.SmallJoins
namespace Go.Proofs.Ytpplnapfpoloiaa.simpleMoves
open Go.ChangeShapes Go.WideShapes Go.ChangeAt Go.RowKit Go.Joins
set_option linter.unusedVariables false

theorem own : ownKnob Try.prog.godebug = none := by kernel_rfl
theorem laidOut : laidOutB Try.prog = true := by kernel_rfl
theorem cells_gl : Try.prog.cellsOf 52 = 2 := by kernel_rfl
theorem cells_ct : Try.prog.cellsOf 71 = 1 := by kernel_rfl
theorem cells_kn : Try.prog.cellsOf 76 = 3 := by kernel_rfl
theorem cells_by : Try.prog.cellsOf 5 = 1 := by kernel_rfl
theorem leaf_kn0 : leafAt Try.prog 6 76 0 = some 3 := by kernel_rfl
theorem leaf_kn1 : leafAt Try.prog 6 76 1 = some 3 := by kernel_rfl
theorem leaf_kn2 : leafAt Try.prog 6 76 2 = some 4 := by kernel_rfl
theorem wf_i16 {x : Int} (h : (Lit.int .i16 x).wf = true) : -32768 ≤ x ∧ x ≤ 32767 := by
  simpa [Lit.wf, IntKind.min, IntKind.max, IntKind.signed, IntKind.bits] using h

set_option maxRecDepth 100000 in
theorem lifted (os : Os) (started : os.Started) (H : Type) (enc : TypeId × Value → H) :
    ReturnsInHanded {} Try.checked os 13 .any (Rows.simpleMovesSpec.pre6 enc Try.prog Try.f13 Rows.simpleMovesRow.domain false) (Rows.simpleMovesSpec.post enc Try.prog Try.f13 false true false false) := by
  refine returnsInHanded_of_change_sized (C := Try.checked) own started (by kernel_rfl) Try.func13
    (ChangeSpec.witness6 (enc := enc) (C := Try.checked) false ⟨#[], #[.agg #[.slice none 0 0, .slice none 0 0], .int .i16 0, .int .i16 0], []⟩ 8 (by kernel_rfl) (by kernel_rfl) (by kernel_rfl) (by kernel_rfl)) ?_
  intro W0 base args ds gs before hval0 hW hcnd hsz0 _
  have hsz : (DataW.weightsEach Try.prog (Try.f13.params.toList ++ Rows.simpleMovesSpec.plain.varTypes Try.prog) (ds ++ gs)).all (· ≤ reachBytes) = true := hsz0
  have hval : ∀ (j : Nat) t v, Try.f13.params[j]? = some t → args[j]? = some v → Value.okWide Try.prog W0 .any base t v := hval0
  have hW' := hW
  obtain ⟨p, q, hA0, hV, rfl, hfz, hnd⟩ := hW
  have hA : DataW.TrodAll enc Try.prog W0 0 (fun _ => true) true Try.f13.params.toList args.toList ds p := hA0
  rw [Try.params13] at hA hval hsz
  obtain ⟨v0, vs0, d0, ds0, p0, q0, hargs, rfl, rfl, h0, r0⟩ := trodAll_cons hA
  obtain ⟨v1, vs1, d1, ds1, p1, q1, rfl, rfl, rfl, h1, r1⟩ := trodAll_cons r0
  obtain ⟨v2, vs2, d2, ds2, p2, q2, rfl, rfl, rfl, h2, r2⟩ := trodAll_cons r1
  obtain ⟨rfl, rfl, rfl⟩ := trodAll_nil r2
  obtain rfl : args = #[v0, v1, v2] := by cases args; simp_all
  obtain ⟨rfl, rfl⟩ := trodVars_none hV
  clear hA0 hval0 hsz0
  have hlt := hW'.lt
  obtain ⟨A0, c0, LL0, B0, m0, k0, f0, rfl, hl0, hr0, hm0, hi0, hmk0, hkx0, hrb0, hwb0⟩ := open_glyph (to_ := 50) (te := 71) (tq := 76) (tb := 26) (tu := 5) (t0 := 3) (t2 := 4) Try.underlying52 (by kernel_rfl) cells_gl rfl rfl Try.underlying50 Try.underlying71 cells_ct cells_kn leaf_kn0 leaf_kn1 leaf_kn2 Try.underlying3 Try.underlying4 Try.underlying26 Try.underlying5 cells_by (hval 0 52 v0 rfl rfl) h0 (fun x hx => hlt x (by simp [hx]))
  obtain ⟨a1, rfl, rfl, rfl, w1⟩ := open_int Try.underlying73 (hval 1 73 v1 rfl rfl) h1
  obtain ⟨a2, rfl, rfl, rfl, w2⟩ := open_int Try.underlying73 (hval 2 73 v2 rfl rfl) h2
  simp only [List.append_nil] at hW'
  have C : Calls Try.prog 13 #[.agg #[.slice A0 LL0.length c0, .slice B0 m0 k0], .int .i16 a1, .int .i16 a2] W0 fun e w' => e = .returned (.bool true) ∧ Since W0 w' := by
    exact walk_simplemoves A0 c0 LL0 B0 m0 k0 ((List.range m0).map f0) a1 a2 W0 hr0 hl0 hm0 (rdb_map hrb0) (by simp) (by omega) (bytes_map (fun j hj => wf_u8 (hwb0 j hj))) (wf_i16 w1) (wf_i16 w2)
  refine C.mono fun e W' ⟨he, hS⟩ => ?_
  subst he
  exact ⟨_, rfl, post_true laidOut (by kernel_rfl) (by simpa only [List.append_nil] using hW') rfl rfl Try.underlying4 rfl rfl rfl hS⟩

theorem over : Rows.simpleMovesRow.holds Try.pinned (OpenSpec.ofChange Rows.simpleMovesSpec) :=
  OpenClaim.holds_of_wide 13 Try.f13 rfl rfl rfl rfl rfl rfl rfl ⟨rfl, rfl, rfl, rfl, rfl⟩ rfl rfl rfl rfl rfl (by kernel_rfl) Try.func13 (by kernel_rfl)
    (of_decide_eq_true (by kernel_rfl)) (by unfold Func.isWrapper; first | (rw [if_pos (by decide +kernel)]; kernel_rfl) | (rw [if_neg (by decide +kernel)]; exact ⟨rfl, rfl⟩))
    (fun os started H enc _ => lifted os started H enc)

theorem proved : Rows.SimpleMovesSaid := over
end Go.Proofs.Ytpplnapfpoloiaa.simpleMoves
