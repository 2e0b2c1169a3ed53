/-
  The law CompoWrites: for every input it returns true and leaves its arguments as they read. No condition.
-/
import Derived.Test.YtbjjndficllogaaCoP
import Derived.Test.YtbjjndficllogaaKit6
import Derived.Lib.SmallJoins
namespace Go.Proofs.Ytbjjndficllogaa.compoWrites
open Go.ChangeShapes Go.WideShapes Go.ChangeAt Go.RowKit Go.Joins
set_option linter.unusedVariables false

theorem own : ownKnob Try.prog.godebug = none := by kernel_rfl
theorem laidOut : laidOutB Try.prog = true := by kernel_rfl
theorem cells_u8 : Try.prog.cellsOf 5 = 1 := by kernel_rfl
theorem bytes_u8 : Try.prog.bytesOf 5 = 1 := by kernel_rfl
theorem cells_pt : Try.prog.cellsOf 96 = 7 := by kernel_rfl
theorem leaf_pt0 : leafAt Try.prog 6 96 0 = some 3 := by kernel_rfl
theorem leaf_pt1 : leafAt Try.prog 6 96 1 = some 3 := by kernel_rfl
theorem leaf_pt2 : leafAt Try.prog 6 96 2 = some 3 := by kernel_rfl
theorem leaf_pt3 : leafAt Try.prog 6 96 3 = some 3 := by kernel_rfl
theorem leaf_pt4 : leafAt Try.prog 6 96 4 = some 3 := by kernel_rfl
theorem leaf_pt5 : leafAt Try.prog 6 96 5 = some 3 := by kernel_rfl
theorem leaf_pt6 : leafAt Try.prog 6 96 6 = some 3 := by kernel_rfl
theorem leaf_pt : ∀ j, j < 7 → leafAt Try.prog 6 96 j = some 3 := fun j hj => by
  have h : j = 0 ∨ j = 1 ∨ j = 2 ∨ j = 3 ∨ j = 4 ∨ j = 5 ∨ j = 6 := by omega
  rcases h with rfl | rfl | rfl | rfl | rfl | rfl | rfl
  · exact leaf_pt0
  · exact leaf_pt1
  · exact leaf_pt2
  · exact leaf_pt3
  · exact leaf_pt4
  · exact leaf_pt5
  · exact leaf_pt6

set_option maxRecDepth 100000 in
theorem lifted (os : Os) (started : os.Started) (H : Type) (enc : TypeId × Value → H) :
    ReturnsInHanded {} Try.checked os 10 .any (Rows.compoWritesSpec.pre6 enc Try.prog Try.f10 Rows.compoWritesRow.domain false) (Rows.compoWritesSpec.post enc Try.prog Try.f10 false true false false) := by
  refine returnsInHanded_of_change_sized (C := Try.checked) own started (by kernel_rfl) Try.func10
    (ChangeSpec.witness6 (enc := enc) (C := Try.checked) false ⟨#[], #[.slice none 0 0, .slice none 0 0, .agg #[.int .i64 0, .int .i64 0, .int .i64 0, .int .i64 0]], []⟩ 8 (by kernel_rfl) (by kernel_rfl) (by kernel_rfl) (by kernel_rfl)) ?_
  intro W0 base args ds gs before hval0 hW hcnd hsz0 _
  have hsz : (DataW.weightsEach Try.prog (Try.f10.params.toList ++ Rows.compoWritesSpec.plain.varTypes Try.prog) (ds ++ gs)).all (· ≤ reachBytes) = true := hsz0
  have hval : ∀ (j : Nat) t v, Try.f10.params[j]? = some t → args[j]? = some v → Value.okWide Try.prog W0 .any base t v := hval0
  have hW' := hW
  obtain ⟨p, q, hA0, hV, rfl, hfz, hnd⟩ := hW
  have hA : DataW.TrodAll enc Try.prog W0 0 (fun _ => true) true Try.f10.params.toList args.toList ds p := hA0
  rw [Try.params10] at hA hval hsz
  obtain ⟨v0, vs0, d0, ds0, p0, q0, hargs, rfl, rfl, h0, r0⟩ := trodAll_cons hA
  obtain ⟨v1, vs1, d1, ds1, p1, q1, rfl, rfl, rfl, h1, r1⟩ := trodAll_cons r0
  obtain ⟨v2, vs2, d2, ds2, p2, q2, rfl, rfl, rfl, h2, r2⟩ := trodAll_cons r1
  obtain ⟨rfl, rfl, rfl⟩ := trodAll_nil r2
  obtain rfl : args = #[v0, v1, v2] := by cases args; simp_all
  obtain ⟨rfl, rfl⟩ := trodVars_none hV
  clear hA0 hval0 hsz0
  have hlt := hW'.lt
  obtain ⟨A0, n0, c0, L0, rfl, hn0, hnc0, hcm0, hr0⟩ := open_parts (t0 := 3) Try.underlying58 cells_pt leaf_pt Try.underlying3 (hval 0 58 v0 rfl rfl) h0 (fun x hx => hlt x (by simp [hx]))
  obtain ⟨A1, n1, c1, f1, rfl, hnc1, hcm1, hr1, hw1, hz1⟩ := open_rd Try.underlying22 Try.underlying5 cells_u8 (hval 1 22 v1 rfl rfl) h1 (fun x hx => hlt x (by simp [hx]))
  have hsz1 : c1 * 1 ≤ 140737488351232 := by
    rcases hz1 with h0 | ⟨el, sp, rfl, hlen⟩
    · omega
    · have := sized_slice hsz (j := 1) (t := 22) (e := 5) rfl rfl Try.underlying22
      rw [bytes_u8] at this
      simp only [reachBytes] at this
      omega
  obtain ⟨cs2, rfl, hs2⟩ := okWide_agg (P := Try.prog) (t := 65) (by kernel_rfl) (hval 2 65 v2 rfl rfl)
  obtain ⟨a2_0, g2_0, w2_0⟩ := leaf_int (n := 6) (j := 0) (t' := 3) (by kernel_rfl) Try.underlying3 h2
  obtain ⟨a2_1, g2_1, w2_1⟩ := leaf_int (n := 6) (j := 1) (t' := 3) (by kernel_rfl) Try.underlying3 h2
  obtain ⟨a2_2, g2_2, w2_2⟩ := leaf_int (n := 6) (j := 2) (t' := 3) (by kernel_rfl) Try.underlying3 h2
  obtain ⟨a2_3, g2_3, w2_3⟩ := leaf_int (n := 6) (j := 3) (t' := 3) (by kernel_rfl) Try.underlying3 h2
  obtain rfl : cs2 = #[.int .i64 a2_0, .int .i64 a2_1, .int .i64 a2_2, .int .i64 a2_3] := agg_cells (l := [.int .i64 a2_0, .int .i64 a2_1, .int .i64 a2_2, .int .i64 a2_3]) (hs2.trans (by kernel_rfl)) (fun k hk => by
    have hk' : k = 0 ∨ k = 1 ∨ k = 2 ∨ k = 3 := by simp only [List.length_cons, List.length_nil] at hk; omega
    rcases hk' with rfl | rfl | rfl | rfl
    · exact g2_0
    · exact g2_1
    · exact g2_2
    · exact g2_3)
  simp only [List.append_nil] at hW'
  have C : Calls Try.prog 10 #[.slice A0 n0 c0, .slice A1 n1 c1, .agg #[.int .i64 a2_0, .int .i64 a2_1, .int .i64 a2_2, .int .i64 a2_3]] W0 fun e w' => e = .returned (.bool true) ∧ Since W0 w' := by
    exact walk_compowrites A0 n0 c0 L0 A1 n1 c1 ((List.range n1).map f1) a2_0 a2_1 a2_2 a2_3 W0 hr0 hn0 (rdb_map hr1) (by simp) (by omega) (by omega)
  refine C.mono fun e W' ⟨he, hS⟩ => ?_
  subst he
  exact ⟨_, rfl, post_true laidOut (by kernel_rfl) (by simpa only [List.append_nil] using hW') rfl rfl Try.underlying4 rfl rfl rfl hS⟩

theorem over : Rows.compoWritesRow.holds Try.pinned (OpenSpec.ofChange Rows.compoWritesSpec) :=
  OpenClaim.holds_of_wide 10 Try.f10 rfl rfl rfl rfl rfl rfl rfl ⟨rfl, rfl, rfl, rfl, rfl⟩ rfl rfl rfl rfl rfl (by kernel_rfl) Try.func10 (by kernel_rfl)
    (of_decide_eq_true (by kernel_rfl)) (by unfold Func.isWrapper; first | (rw [if_pos (by decide +kernel)]; kernel_rfl) | (rw [if_neg (by decide +kernel)]; exact ⟨rfl, rfl⟩))
    (fun os started H enc _ => lifted os started H enc)

theorem proved : Rows.CompoWritesSaid := over
end Go.Proofs.Ytbjjndficllogaa.compoWrites
