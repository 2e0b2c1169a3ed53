/-
  The law HeadElse: for every input it returns true and leaves its arguments as they read, the package's tables being what the text lays.
-/
import Derived.Test.YtefalfdillnkfaaDoorHdO
import Derived.Test.YtefalfdillnkfaaDoorCards
import Derived.Test.YtefalfdillnkfaaDoorTie
import Derived.Test.YtefalfdillnkfaaDoorKit6
import Derived.Lib.SmallJoins
import Derived.Deep.DeepHandedRow
import Derived.Lib.LaidTab
import Derived.Stop.LaidErr
namespace Go.Proofs.YtefalfdillnkfaaDoor.headElse
open Go.ChangeShapes Go.WideShapes Go.ChangeAt Go.RowKit Go.Joins
set_option linter.unusedVariables false

theorem own : ownKnob Tryd.prog.godebug = none := by kernel_rfl
theorem laidOut : laidOutB Tryd.prog = true := by kernel_rfl
theorem cells_u8 : Tryd.prog.cellsOf 5 = 1 := by kernel_rfl
theorem bytes_u8 : Tryd.prog.bytesOf 5 = 1 := by kernel_rfl
theorem cells_int : Tryd.prog.cellsOf 3 = 1 := by kernel_rfl
theorem g0 : Tryd.prog.globalNamed "calamus/head.boxAt" = some 0 := by kernel_rfl
theorem gt0 : (Tryd.prog.globals[0]?).map (·.type) = some 56 := by kernel_rfl
theorem gc0 : Tryd.prog.cellsOf 56 = 4 := by kernel_rfl
theorem g1 : Tryd.prog.globalNamed "calamus/head.maxpAt" = some 1 := by kernel_rfl
theorem gt1 : (Tryd.prog.globals[1]?).map (·.type) = some 57 := by kernel_rfl
theorem gc1 : Tryd.prog.cellsOf 57 = 7 := by kernel_rfl
theorem at_lt {W : World} {b o : Nat} {v : Value} (h : W.cell? ⟨b, o, none⟩ = some v) : b < W.heap.size := by
  rcases Nat.lt_or_ge b W.heap.size with hlt | hge
  · exact hlt
  · simp [World.cell?, Array.getElem?_eq_none hge] at h
theorem tables {W : World} (h : laidMet Tryd.prog Rows.headElseRow.laid W) : Tabs W := by
  have h0 : Lib.TabIs Tryd.prog W "calamus/head.boxAt" .i64 [36, 38, 40, 42] := Lib.tabIs_of_head g0 gt0 Tryd.underlying56 Tryd.underlying3 cells_int gc0 h
  have c0_0 := h0.cell g0 0 (by decide)
  have c0_1 := h0.cell g0 1 (by decide)
  have c0_2 := h0.cell g0 2 (by decide)
  have c0_3 := h0.cell g0 3 (by decide)
  have h1 : Lib.TabIs Tryd.prog W "calamus/head.maxpAt" .i64 [4, 6, 8, 10, 12, 28, 30] := Lib.tabIs_of_head g1 gt1 Tryd.underlying57 Tryd.underlying3 cells_int gc1 h.tail
  have c1_0 := h1.cell g1 0 (by decide)
  have c1_1 := h1.cell g1 1 (by decide)
  have c1_2 := h1.cell g1 2 (by decide)
  have c1_3 := h1.cell g1 3 (by decide)
  have c1_4 := h1.cell g1 4 (by decide)
  have c1_5 := h1.cell g1 5 (by decide)
  have c1_6 := h1.cell g1 6 (by decide)
  have l0 := at_lt c0_0
  have l1 := at_lt c1_0
  exact ⟨by omega, ⟨c0_0, c0_1, c0_2, c0_3⟩, c1_0, c1_1, c1_2, c1_3, c1_4, c1_5, c1_6⟩

set_option maxRecDepth 100000 in
theorem contract (H : Type) (enc : TypeId × Value → H) (W0 : World) (base : Nat) (args : Array Value) (ds gs : List (DataW H)) (before : List MemPlace)
    (hval : ∀ (j : Nat) t v, Tryd.f7.params[j]? = some t → args[j]? = some v → Value.okWide Tryd.prog W0 .any base t v)
    (hW : DataW.Whole enc Tryd.prog Tryd.f7.params.toList Rows.headElseSpec.vars false W0 args.toList ds gs before) (hL : laidMet Tryd.prog Rows.headElseRow.laid W0)
    (hsz : (DataW.weightsEach Tryd.prog (Tryd.f7.params.toList ++ Rows.headElseSpec.plain.varTypes Tryd.prog) (ds ++ gs)).all (· ≤ reachBytes) = true) :
    Calls Tryd.prog 7 args W0 fun e W' => ∃ v, e = .returned v ∧ Rows.headElseSpec.post enc Tryd.prog Tryd.f7 false true false false W0 args v W' := by
  have hTB := tables hL
  have hW' := hW
  obtain ⟨p, q, hA0, hV, rfl, hfz, hnd⟩ := hW
  have hA : DataW.TrodAll enc Tryd.prog W0 0 (fun _ => true) true Tryd.f7.params.toList args.toList ds p := hA0
  rw [Tryd.params7] at hA hval hsz
  obtain ⟨v0, vs0, d0, ds0, p0, q0, hargs, rfl, rfl, h0, r0⟩ := trodAll_cons hA
  obtain ⟨v1, vs1, d1, ds1, p1, q1, rfl, rfl, rfl, h1, r1⟩ := trodAll_cons r0
  obtain ⟨v2, vs2, d2, ds2, p2, q2, rfl, rfl, rfl, h2, r2⟩ := trodAll_cons r1
  obtain ⟨rfl, rfl, rfl⟩ := trodAll_nil r2
  obtain rfl : args = #[v0, v1, v2] := by cases args; simp_all
  obtain ⟨rfl, rfl⟩ := trodVars_none hV
  clear hA0
  have hlt := hW'.lt
  obtain ⟨A0, n0, c0, f0, rfl, hnc0, hcm0, hr0, hw0, hz0⟩ := open_rd Tryd.underlying22 Tryd.underlying5 cells_u8 (hval 0 22 v0 rfl rfl) h0 (fun x hx => hlt x (by simp [hx]))
  have hsz0 : c0 * 1 ≤ 140737488351232 := by
    rcases hz0 with h0 | ⟨el, sp, rfl, hlen⟩
    · omega
    · have := sized_slice hsz (j := 0) (t := 22) (e := 5) rfl rfl Tryd.underlying22
      rw [bytes_u8] at this
      simp only [reachBytes] at this
      omega
  obtain ⟨cs1, rfl, hs1⟩ := okWide_agg (P := Tryd.prog) (t := 26) (by kernel_rfl) (hval 1 26 v1 rfl rfl)
  obtain ⟨a1_0, g1_0, w1_0⟩ := leaf_int (n := 6) (j := 0) (t' := 3) (by kernel_rfl) Tryd.underlying3 h1
  obtain ⟨a1_1, g1_1, w1_1⟩ := leaf_int (n := 6) (j := 1) (t' := 3) (by kernel_rfl) Tryd.underlying3 h1
  obtain ⟨a1_2, g1_2, w1_2⟩ := leaf_int (n := 6) (j := 2) (t' := 3) (by kernel_rfl) Tryd.underlying3 h1
  obtain ⟨a1_3, g1_3, w1_3⟩ := leaf_int (n := 6) (j := 3) (t' := 3) (by kernel_rfl) Tryd.underlying3 h1
  obtain ⟨a1_4, g1_4, w1_4⟩ := leaf_int (n := 6) (j := 4) (t' := 3) (by kernel_rfl) Tryd.underlying3 h1
  obtain ⟨a1_5, g1_5⟩ := leaf_bool (n := 6) (j := 5) (t' := 4) (by kernel_rfl) Tryd.underlying4 h1
  obtain rfl : cs1 = #[.int .i64 a1_0, .int .i64 a1_1, .int .i64 a1_2, .int .i64 a1_3, .int .i64 a1_4, .bool a1_5] := agg_cells (l := [.int .i64 a1_0, .int .i64 a1_1, .int .i64 a1_2, .int .i64 a1_3, .int .i64 a1_4, .bool a1_5]) (hs1.trans (by kernel_rfl)) (fun k hk => by
    have hk' : k = 0 ∨ k = 1 ∨ k = 2 ∨ k = 3 ∨ k = 4 ∨ k = 5 := by simp only [List.length_cons, List.length_nil] at hk; omega
    rcases hk' with rfl | rfl | rfl | rfl | rfl | rfl
    · exact g1_0
    · exact g1_1
    · exact g1_2
    · exact g1_3
    · exact g1_4
    · exact g1_5)
  obtain ⟨cs2, rfl, hs2⟩ := okWide_agg (P := Tryd.prog) (t := 31) (by kernel_rfl) (hval 2 31 v2 rfl rfl)
  obtain ⟨a2_0, g2_0, w2_0⟩ := leaf_int (n := 6) (j := 0) (t' := 3) (by kernel_rfl) Tryd.underlying3 h2
  obtain ⟨a2_1, g2_1, w2_1⟩ := leaf_int (n := 6) (j := 1) (t' := 3) (by kernel_rfl) Tryd.underlying3 h2
  obtain ⟨a2_2, g2_2, w2_2⟩ := leaf_int (n := 6) (j := 2) (t' := 3) (by kernel_rfl) Tryd.underlying3 h2
  obtain ⟨a2_3, g2_3, w2_3⟩ := leaf_int (n := 6) (j := 3) (t' := 3) (by kernel_rfl) Tryd.underlying3 h2
  obtain ⟨a2_4, g2_4, w2_4⟩ := leaf_int (n := 6) (j := 4) (t' := 3) (by kernel_rfl) Tryd.underlying3 h2
  obtain ⟨a2_5, g2_5, w2_5⟩ := leaf_int (n := 6) (j := 5) (t' := 3) (by kernel_rfl) Tryd.underlying3 h2
  obtain ⟨a2_6, g2_6, w2_6⟩ := leaf_int (n := 6) (j := 6) (t' := 3) (by kernel_rfl) Tryd.underlying3 h2
  obtain rfl : cs2 = #[.int .i64 a2_0, .int .i64 a2_1, .int .i64 a2_2, .int .i64 a2_3, .int .i64 a2_4, .int .i64 a2_5, .int .i64 a2_6] := agg_cells (l := [.int .i64 a2_0, .int .i64 a2_1, .int .i64 a2_2, .int .i64 a2_3, .int .i64 a2_4, .int .i64 a2_5, .int .i64 a2_6]) (hs2.trans (by kernel_rfl)) (fun k hk => by
    have hk' : k = 0 ∨ k = 1 ∨ k = 2 ∨ k = 3 ∨ k = 4 ∨ k = 5 ∨ k = 6 := by simp only [List.length_cons, List.length_nil] at hk; omega
    rcases hk' with rfl | rfl | rfl | rfl | rfl | rfl | rfl
    · exact g2_0
    · exact g2_1
    · exact g2_2
    · exact g2_3
    · exact g2_4
    · exact g2_5
    · exact g2_6)
  simp only [List.append_nil] at hW'
  have C : Calls Tryd.prog 7 #[.slice A0 n0 c0, .agg #[.int .i64 a1_0, .int .i64 a1_1, .int .i64 a1_2, .int .i64 a1_3, .int .i64 a1_4, .bool a1_5], .agg #[.int .i64 a2_0, .int .i64 a2_1, .int .i64 a2_2, .int .i64 a2_3, .int .i64 a2_4, .int .i64 a2_5, .int .i64 a2_6]] W0 fun e w' => e = .returned (.bool true) ∧ Since W0 w' := by
    exact walk_headelse A0 n0 c0 f0 a1_0 a1_1 a1_2 a1_3 a1_4 a1_5 a2_0 a2_1 a2_2 a2_3 a2_4 a2_5 a2_6 W0 hTB hr0 (fun j hj => wf_u8 (hw0 j hj)) (wf_i64 w1_0) (wf_i64 w1_1) (wf_i64 w1_2) (wf_i64 w1_3) (wf_i64 w1_4) (wf_i64 w2_0) (wf_i64 w2_1) (wf_i64 w2_2) (wf_i64 w2_3) (wf_i64 w2_4) (wf_i64 w2_5) (wf_i64 w2_6) (by omega)
  refine C.mono fun e W' ⟨he, hS⟩ => ?_
  subst he
  exact ⟨_, rfl, post_true laidOut (by kernel_rfl) (by simpa only [List.append_nil] using hW') rfl rfl Tryd.underlying4 rfl rfl rfl hS⟩

def laid0 : Obj → Obj
  | .cells _ t frozen => .cells #[.int .i64 36, .int .i64 38, .int .i64 40, .int .i64 42] t frozen
  | o => o
def laid1 : Obj → Obj
  | .cells _ t frozen => .cells #[.int .i64 4, .int .i64 6, .int .i64 8, .int .i64 10, .int .i64 12, .int .i64 28, .int .i64 30] t frozen
  | o => o
noncomputable def laidWorld (os : Os) : World :=
  { World.holding Tryd.prog os ⟨#[], #[], []⟩ with heap := ((World.holding Tryd.prog os ⟨#[], #[], []⟩).heap.modify 0 laid0).modify 1 laid1 }
theorem laid_met (os : Os) : laidMet Tryd.prog Rows.headElseRow.laid ((laidWorld os).forCall (fun _ _ => 0) ⟨#[], #[.slice none 0 0, .agg #[.int .i64 0, .int .i64 0, .int .i64 0, .int .i64 0, .int .i64 0, .bool false], .agg #[.int .i64 0, .int .i64 0, .int .i64 0, .int .i64 0, .int .i64 0, .int .i64 0, .int .i64 0]], []⟩).memory :=
  laidMet_of_run' 8 (by kernel_rfl) (by kernel_rfl)
theorem reads (os : Os) {H : Type} (enc : TypeId × Value → H) : ∃ places, DataW.whole enc Tryd.prog ((laidWorld os).forCall (fun _ _ => 0) ⟨#[], #[.slice none 0 0, .agg #[.int .i64 0, .int .i64 0, .int .i64 0, .int .i64 0, .int .i64 0, .bool false], .agg #[.int .i64 0, .int .i64 0, .int .i64 0, .int .i64 0, .int .i64 0, .int .i64 0, .int .i64 0]], []⟩).memory Tryd.f7.params.toList Rows.headElseSpec.vars false (#[.slice none 0 0, .agg #[.int .i64 0, .int .i64 0, .int .i64 0, .int .i64 0, .int .i64 0, .bool false], .agg #[.int .i64 0, .int .i64 0, .int .i64 0, .int .i64 0, .int .i64 0, .int .i64 0, .int .i64 0]] : Array Value).toList 8 = some ([.nil, .agg [.lit (.int .i64 0), .lit (.int .i64 0), .lit (.int .i64 0), .lit (.int .i64 0), .lit (.int .i64 0), .lit (.bool false)], .agg [.lit (.int .i64 0), .lit (.int .i64 0), .lit (.int .i64 0), .lit (.int .i64 0), .lit (.int .i64 0), .lit (.int .i64 0), .lit (.int .i64 0)]], [], places) :=
  ⟨[], by kernel_rfl⟩

set_option maxRecDepth 100000 in
theorem lifted (os : Os) (started : os.Started) (H : Type) (enc : TypeId × Value → H) (F : Stop.Interp) :
    ReturnsInHanded {} Tryd.checked os 7 .any ((OpenSpec.ofChange Rows.headElseSpec).preRow enc Tryd.prog Tryd.f7 Rows.headElseRow.domain false Rows.headElseRow.laid) (((OpenSpec.ofChange Rows.headElseSpec).at F).post enc Tryd.prog Tryd.f7 false true false false) := by
  obtain ⟨places, hx⟩ := reads os enc
  refine returnsInHanded_of_row (C := Tryd.checked) (s := OpenSpec.ofChange Rows.headElseSpec) own started (by kernel_rfl) Tryd.func7
    (witness_row_at (enc := enc) (C := Tryd.checked) false (laidWorld os) #[.slice none 0 0, .agg #[.int .i64 0, .int .i64 0, .int .i64 0, .int .i64 0, .int .i64 0, .bool false], .agg #[.int .i64 0, .int .i64 0, .int .i64 0, .int .i64 0, .int .i64 0, .int .i64 0, .int .i64 0]] rfl (by kernel_rfl) (by kernel_rfl) (by kernel_rfl)
      (OpenSpec.preRow_of_cond 8 hx (by kernel_rfl) (fun k hk => by cases hk) (by kernel_rfl) (laid_met os))) ?_
  intro W base args ds gs before hval hW _ hcnd hszz hL _ _
  exact contract H enc W base args ds gs before hval hW hL hszz

theorem said : Rows.HeadElseSaid :=
  OpenClaim.holds_of_cond 7 Tryd.f7 rfl rfl rfl rfl rfl rfl rfl ⟨rfl, rfl, rfl, rfl, rfl⟩ rfl rfl rfl rfl rfl (by kernel_rfl) Tryd.func7 (by kernel_rfl)
    (of_decide_eq_true (by kernel_rfl)) (by unfold Func.isWrapper; first | (rw [if_pos (by decide +kernel)]; kernel_rfl) | (rw [if_neg (by decide +kernel)]; exact ⟨rfl, rfl⟩))
    (fun os started H enc _ F => by rw [OpenClaim.pre_eq_preRow]; exact lifted os started H enc F)

theorem plain (f : FuncId) (fn : Func) (hf : Tryd.pinned.checked.prog.funcNamed "calamus/calamuslaw05.HeadElse" = some f) (hfn : Tryd.pinned.checked.prog.funcs[f]? = some fn) :
    false = Tryd.pinned.checked.prog.looks [] ∧ ∀ (j : Nat) t, fn.params[j]? = some t → Tryd.pinned.checked.prog.wantsStandIn t = false := by
  obtain rfl : f = 7 := Option.some.inj ((show Tryd.prog.funcNamed "calamus/calamuslaw05.HeadElse" = some 7 by kernel_rfl).symm.trans hf) |>.symm
  obtain rfl : fn = Tryd.f7 := (Option.some.inj (Tryd.func7.symm.trans hfn)).symm
  refine ⟨by kernel_rfl, fun j t ht => ?_⟩
  rw [Tryd.params7] at ht
  have hall : ∀ x ∈ [22, 26, 31], Tryd.prog.wantsStandIn x = false := by
    intro x hx
    simp only [List.mem_cons, List.not_mem_nil, or_false] at hx
    rcases hx with rfl | rfl | rfl
    · exact (show Tryd.prog.wantsStandIn 22 = false by kernel_rfl)
    · exact (show Tryd.prog.wantsStandIn 26 = false by kernel_rfl)
    · exact (show Tryd.prog.wantsStandIn 31 = false by kernel_rfl)
  exact hall t (by have := Array.mem_of_getElem? ht; simpa using this)

theorem proved : Rows.HeadElseCardSaid :=
  Claim7.holds_tied_plain_at .later [] _ _ _ _ said (fun _ h => by cases h) (by kernel_rfl) (fun _ h => by cases h) headElse_row_tie rfl ⟨rfl, rfl⟩ (by kernel_rfl) rfl plain (by kernel_rfl)
end Go.Proofs.YtefalfdillnkfaaDoor.headElse
